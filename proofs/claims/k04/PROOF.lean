import PyProof.Rows.All
import Wide.All
import OpenK.AllK
import Wide.FinOn
import PySem.Challenge.RW_duskisles_k04_isles_changed
import HandS.ForMost
import HandS.IsInst
import HandS.Defaults
import HandS.DeepEq
import HandS.Deep
import PyProof.ReprRoads
import HandS.Lambda
import HandS.Walk
import HandS.TupAny
import HandS.Strs
import HandS.SetKeys
import HandS.SetFor
import PyProof.ListNew
import HandS.MakeKwOnly
import HandS.Property
import HandS.ForDict
import PyProof.Rows.SortShellAny
import HandS.Exc
import HandS.ExcValue
import KE.KExcPX
import HandS.ExcField
import HandS.ExcIs
import KE.KExcIs
import HandS.ExcInit
import HandS.WordsExc
import KE.KExcInit
import PyProof.ExcBaseAll.LookupError
import PyProof.ExcBaseAll.RuntimeError
import PyProof.ExcBaseAll.OverflowError
import HandS.Style
import HandS.ExcOwn
import HandS.OwnEq
import PyProof.InstNe
import PyProof.FactsAll.object_2
import HandS.Zip0
import KE.GoesMore
import KE.GoesEnum
import KE.SortData
import KE.KTupSum
import KE.KDictList
import HandS.ListItems
import HandS.Star
import HandS.Wide
import HandS.Text
import HandS.FStr
import HandS.More
import HandS.StrMore
import HandS.TupSets
import HandS.ClsMeth
import HandS.Dict
import PyProof.DictUpdate
import KE.KParD
import HandS.WrittenGet
import PyProof.ReprLen
import PyProof.Rows.StrMeet
import PyProof.TupleOfSeq
import HandS.Rev
import HandS.EndTab
import HandS.NestedK
set_option Elab.async false
set_option linter.all false
set_option maxRecDepth 100000
/-! Defs whose callers hold no guard (repr of what is being shown): the promise, its rule, calls. -/
namespace DL
open PySem PySem.Spec PyProof.Rows L2

/-- a def's promise where no guard is held -/
structure FnG (P : Program) (w : World) (K : PySem.W.Frag) (mg : Str → Option Value) (base : Heap)
    (CX : CXT) (k : Nat) (f : Addr) (fd : FuncData) (ps : List Str) (sp : Sp) : Prop where
  len : ∀ vs H Q E, sp vs H Q E → vs.length = ps.length
  run : ∀ (A : Around) (outer : List Env) (s : Shared) (H : Hp) (args : Args) (us : List Value) (vs : List V) (Q : VK) (E : XK),
    Room k A → A.guards = some [] → Env0 P w K mg base A outer s H → BindsTo s fd args (ps.zip us) → Vals vs us → sp vs H Q E →
      codeAny (model P w) A (.call (.ref f) args) (CR CX outer P w H s Q E) s

section
variable {P : Program} {w : World} {K : PySem.W.Frag} {mg : Str → Option Value} {base : Heap} {CX : CXT} {k j : Nat} {f : Addr} {fd : FuncData} {ps : List Str} {sp sp' : Sp}
theorem FnG.of (F : FnOk P w K mg base CX k f fd ps sp) : FnG P w K mg base CX k f fd ps sp :=
  ⟨F.len, fun A outer s H args us vs Q E r _ e b v q => F.run A outer s H args us vs Q E r e b v q⟩
theorem FnG.mono (F : FnG P w K mg base CX j f fd ps sp) (h : j ≤ k) : FnG P w K mg base CX k f fd ps sp :=
  ⟨F.len, fun A outer s H args us vs Q E r => F.run A outer s H args us vs Q E (r.mono h)⟩
theorem FnG.imp (F : FnG P w K mg base CX k f fd ps sp) (h : ∀ vs H Q E, sp' vs H Q E → sp vs H Q E) : FnG P w K mg base CX k f fd ps sp' :=
  ⟨fun vs H Q E q => F.len vs H Q E (h vs H Q E q), fun A outer s H args us vs Q E r g e b v q => F.run A outer s H args us vs Q E r g e b v (h vs H Q E q)⟩

theorem fnG_of {name qual : Str} {params : Arguments} {body : List Stmt} {scope : Scope} {dV kV doc pm cdv ct oc : Value} {an od : Option Addr} {osl : Array (Option Value)} {N : List Str}
    (lk : K.lookup f = some ⟨oc, od, .func (PySem.W.fnOf name qual params body scope dV kV doc pm an cdv ct), osl⟩)
    (hcd : PySem.W.codeIn K cdv qual = true) (S : FnScope N ps scope) (len : ∀ vs H Q E, sp vs H Q E → vs.length = ps.length)
    (hbody : ∀ (A : Around) (outer : List Env) (s : Shared) (H : Hp) (vs : List V) (Q : VK) (E : XK), Room k (A.deeper (envOfC qual scope s.heap.objs.size f cdv)) → (A.deeper (envOfC qual scope s.heap.objs.size f cdv)).guards = some [] →
      sp vs H Q E → ∃ t, PSs (cxOf CX P w K mg base N qual scope f cdv A outer s H E) body t ∧ t { nx := fun _ H' => Q .non H', rt := Q } (start N vs) H) :
    FnG P w K mg base CX (k + 1) f (PySem.W.fnOf name qual params body scope dV kV doc pm an cdv ct) ps sp :=
  ⟨len, fun A outer s H args us vs Q E room g e0 bd r h => LamX.run_ofS lk hcd S room e0 bd r (len _ _ _ _ h) fun room' => hbody A outer s H vs Q E room' g h⟩
theorem okG {x qual : Str} {st : Stmt} {N : List Str} (F : Fun K x qual st f fd) (S : FnScope N ps (defScope st)) (len : ∀ vs H Q E, sp vs H Q E → vs.length = ps.length)
    (hbody : ∀ (cdv : Value) (A : Around) (outer : List Env) (s : Shared) (H : Hp) (vs : List V) (Q : VK) (E : XK), Room k (A.deeper (envOfC qual (defScope st) s.heap.objs.size f cdv)) →
      (A.deeper (envOfC qual (defScope st) s.heap.objs.size f cdv)).guards = some [] → sp vs H Q E →
      ∃ t, PSs (cxOf CX0 P w K mg base N qual (defScope st) f cdv A outer s H E).nox (defBody st) t ∧ t { nx := fun _ H' => Q .non H', rt := Q } (start N vs) H) :
    FnG P w K mg base CX0 (k + 1) f fd ps sp := by
  obtain ⟨oc, od, kV, doc, pm, an, cdv, ct, osl, rfl, lk, hcd⟩ := F.ex
  refine fnG_of lk hcd S len ?_
  intro A outer s H vs Q E r g q
  obtain ⟨t, h, z⟩ := hbody cdv A outer s H vs Q E r g q
  exact ⟨t, h.nox, z⟩
end

section
variable {X : Cx} {CX : CXT} {k : Nat} {f : Addr} {fd : FuncData} {ps ks : List Str} {sp : Sp} {dvs : List V} {ds : List Value} {E : XK} {x : Str} {p pos : Pos} {e : Expr} {es : List Expr} {kws : List Keyword} {t tk : TA}
/-- what a call leaves, seen from its caller -/
theorem back_of {pins : List (Addr × Obj)} {σ : L2.St} {H : Hp} {s : Shared} {Q : VK} (hx : ∀ e s', CX X.stack H s E e s' → X.xe e s') (I : Inv X pins σ H s) : ∀ r s', CR CX X.stack X.prog X.w H s Q E r s' → (match r with | .ok (.ret u) => EP X pins σ Q u s' | .ok _ => False | .error e => X.xe e s') := by
  rintro (e | f) s' z
  · exact hx e s' z
  cases f with
  | ret u => exact I.after z
  | _ => exact z
theorem runG {pins : List (Addr × Obj)} {σ : L2.St} {H : Hp} {s : Shared} {Q : VK} {us : List Value} {vs : List V} (F : FnG X.prog X.w X.K X.mg X.base CX k f fd ps sp) (hr : Room k X.A) (hgu : X.A.guards = some []) (hb : Binds X.K fd ps ds)
    (hd : Vals dvs ds) (hx : Passes CX X E) (I : Inv X pins σ H s) (r : Vals vs us) (h : sp (vs ++ dvs) H Q E) : wpAny (model X.prog X.w) X.A (call (.ref f) us) (EP X pins σ Q) X.xe s := by
  have r2 := r.append hd
  have hl : (us ++ ds).length = ps.length := r2.length.symm.trans (F.len _ _ _ _ h)
  exact wpAny_call (codeAny_mono (F.run X.A X.stack s H ⟨us, []⟩ (us ++ ds) (vs ++ dvs) Q E hr hgu I.env0 (hb s us I.kIn hl) r2 h) (back_of (fun e s' z => hx pins σ H s e s' I z) I))
theorem pe_callG (F : FnG X.prog X.w X.K X.mg X.base CX k f fd ps sp) (hr : Room k X.A) (hgu : X.A.guards = some []) (hg : Gl X x) (hm : X.mg x = some (.ref f)) (hk : PySem.W.keepIn X.K (.ref f) = true)
    (hb : Binds X.K fd ps ds) (hd : Vals dvs ds) (hx : Passes CX X E) (ha : PA X (e :: es) t) (hdb : (x == ("__debug__" : Str)) = false := by decide)
    (he : starEach (e :: es) X.env = (false, eval e X.env) :: starEach es X.env := by rfl)
    (hpl : (backTo pos (starEach es X.env)).any (·.1) = false := by rfl) :
    PE X (.Call (.Name x p) (e :: es) [] pos) (tCall sp dvs E t) := by
  constructor
  intro pins s σ H Q I h
  refine wpAny_Call_Name_kw (ld_glob I hg hm (PySem.W.callWith_K (h₀ := X.base) I.ok.mod.kin hk ?_ he hpl) hdb)
  exact thn (ha.run pos pins s σ H _ I h) fun us s1 ⟨vs, H1, I1, r, q⟩ => ⟨I1.kIn, runG F hr hgu hb hd hx I1 r q⟩
theorem runGk {pins : List (Addr × Obj)} {σ : L2.St} {H : Hp} {s : Shared} {Q : VK} {us ws : List Value} {vs zs : List V} {g : List Value → List Value → List Value} {gV : List V → List V → List V} (F : FnG X.prog X.w X.K X.mg X.base CX k f fd ps sp) (hr : Room k X.A)
    (hgu : X.A.guards = some []) (hb : KBinds X.K fd ps ks g gV) (hx : Passes CX X E) (I : Inv X pins σ H s) (r : Vals vs us) (rz : Vals zs ws) (h : sp (gV vs zs) H Q E) :
    wpAny (model X.prog X.w) X.A (call (.ref f) us (ks.zip ws)) (EP X pins σ Q) X.xe s := by
  have r2 := hb.rel r rz
  have hl : (g us ws).length = ps.length := r2.length.symm.trans (F.len _ _ _ _ h)
  exact wpAny_call (codeAny_mono (F.run X.A X.stack s H ⟨us, ks.zip ws⟩ (g us ws) (gV vs zs) Q E hr hgu I.env0 (hb.to s us ws I.kIn hl) r2 h) (back_of (fun e s' z => hx pins σ H s e s' I z) I))
/-- f(k = v, ..), nothing by position -/
theorem pe_callKG {g : List Value → List Value → List Value} {gV : List V → List V → List V} (F : FnG X.prog X.w X.K X.mg X.base CX k f fd ps sp) (hr : Room k X.A) (hgu : X.A.guards = some []) (hg : Gl X x) (hm : X.mg x = some (.ref f))
    (hk : PySem.W.keepIn X.K (.ref f) = true) (hb : KBinds X.K fd ps ks g gV) (hx : Passes CX X E) (hkw : PK X kws tk) (hall : (backToKw pos (keywordEach kws X.env)).all (·.1.isSome) = true := by rfl)
    (hks : (backToKw pos (keywordEach kws X.env)).filterMap (·.1) = ks := by rfl) (hdb : (x == ("__debug__" : Str)) = false := by decide)
    (hpl : ((backTo pos (starEach [] X.env)).any (·.1) || (backToKw pos (keywordEach kws X.env)).any (·.1.isNone)) = false := by rfl) :
    PE X (.Call (.Name x p) [] kws pos) (tCallK sp gV E tNil tk) := by
  constructor
  intro pins s σ H Q I h
  refine wpAny_Call_Name_kw (ld_glob I hg hm (PySem.W.callWith_KW0 (h₀ := X.base) I.ok.mod.kin hk hall ?_ hpl) hdb)
  refine thn (hkw.run pos pins s σ H _ I h) ?_
  intro ws s2 ⟨zs, H2, I2, rz, q2⟩
  rw [hks]
  exact ⟨I2.kIn, runGk (us := []) (vs := []) F hr hgu hb hx I2 .nil rz q2⟩
end

end DL

/-! Data level over the hand layer: what slots hold is data; expressions and statements are read as transformers of data. -/
namespace DL
open PySem PySem.Spec PyProof.Rows L2

inductive Dt where
  | non | bl (b : Bool) | int (i : Int) | str (x : Str)
  | lst (ds : List Dt) | tup (ds : List Dt) | dct (a : Addr) (kvs : List (Key × Dt)) | ty (n : String)
  /-- an instance of the class at C, its fields by names -/
  | ins (C a : Addr) (ns : List Str) (ds : List Dt)
  /-- a class of the program's own (or any thing of which nothing but its place is told) -/
  | cls (C : Addr)
  /-- an exception of the class at C, its fields by names -/
  | exc (C a : Addr) (ns : List Str) (ds : List Dt)

/-- at a: an exception of this class, its dict -/
def exh (a : Addr) (cls : Value) (d : Option Addr) : HO := .ext fun h => ∃ (oe : Obj) (vs : Array Value), h.get? a = some oe ∧ (oe.cls = cls ∧ oe.dict = d) ∧ oe.data = .fields vs
mutual
inductive DX (K : PySem.W.Frag) (H : Hp) : V → Dt → Prop
  | non : DX K H .non .non
  | bl (b : Bool) : DX K H (.bl b) (.bl b)
  | int (i : Int) : DX K H (.int i) (.int i)
  | str (x : Str) : DX K H (.str x) (.str x)
  | ty (n : String) : DX K H (.ty n) (.ty n)
  | lst {a : Addr} {xs : List V} {ds : List Dt} : SqL K H a xs → DXs K H xs ds → DX K H (.ref a) (.lst ds)
  | tup {a : Addr} {xs : List V} {ds : List Dt} : SqT K H a xs → DXs K H xs ds → DX K H (.ref a) (.tup ds)
  | dct {a : Addr} {kvs : List (Key × V)} {ds : List (Key × Dt)} : Rd H a (.dK kvs) → DXk K H kvs ds → DX K H (.ref a) (.dct a ds)
  | ins {C a dx : Addr} {ns : List Str} {vs : List V} {ds : List Dt} : H a = some (.ins C dx (ns.zip vs)) → ns.length = vs.length → DXs K H vs ds → DX K H (.ref a) (.ins C a ns ds)
  | cls (C : Addr) : DX K H (.ref C) (.cls C)
  | exc {C a dd : Addr} {ns : List Str} {vs : List V} {ds : List Dt} : H a = some (exh a (.ref C) (some dd)) → H dd = some (.xd (ns.zip vs)) → ns.length = vs.length → DXs K H vs ds → DX K H (.ref a) (.exc C a ns ds)
  | exc0 {C a : Addr} : H a = some (exh a (.ref C) none) → DX K H (.ref a) (.exc C a [] [])
inductive DXs (K : PySem.W.Frag) (H : Hp) : List V → List Dt → Prop
  | nil : DXs K H [] []
  | cons {v : V} {vs : List V} {d : Dt} {ds : List Dt} : DX K H v d → DXs K H vs ds → DXs K H (v :: vs) (d :: ds)
inductive DXk (K : PySem.W.Frag) (H : Hp) : List (Key × V) → List (Key × Dt) → Prop
  | nil : DXk K H [] []
  | cons {k : Key} {v : V} {vs : List (Key × V)} {d : Dt} {ds : List (Key × Dt)} : DX K H v d → DXk K H vs ds → DXk K H ((k, v) :: vs) ((k, d) :: ds)
end

section
variable {K : PySem.W.Frag} {H H' : Hp}
theorem same_T {a : Addr} {xs : List V} (e : Same H H') (h : SqT K H a xs) : SqT K H' a xs := by
  rcases h with (h | ⟨o, h⟩) | h
  · exact .inl (.inl (e _ _ h))
  · exact .inl (.inr ⟨o, e _ _ h⟩)
  · exact .inr h
theorem same_Rd {a : Addr} {u : HO} (e : Same H H') (h : Rd H a u) : Rd H' a u := h.elim (fun z => .inl (e _ _ z)) fun ⟨o, z⟩ => .inr ⟨o, e _ _ z⟩
mutual
theorem DX.mono (e : Same H H') : ∀ {d : Dt} {v : V}, DX K H v d → DX K H' v d
  | .non, _, h => by cases h; exact .non
  | .bl _, _, h => by cases h; exact .bl _
  | .int _, _, h => by cases h; exact .int _
  | .str _, _, h => by cases h; exact .str _
  | .ty _, _, h => by cases h; exact .ty _
  | .lst ds, _, h => by
    cases h with
    | lst hs ha => exact .lst (e.seq hs) (DXs.mono e (ds := ds) ha)
  | .tup ds, _, h => by
    cases h with
    | tup hs ha => exact .tup (same_T e hs) (DXs.mono e (ds := ds) ha)
  | .dct _ ds, _, h => by
    cases h with
    | dct hs ha => exact .dct (same_Rd e hs) (DXk.mono e (ds := ds) ha)
  | .ins _ _ _ ds, _, h => by
    cases h with
    | ins hs hl ha => exact .ins (e _ _ hs) hl (DXs.mono e (ds := ds) ha)
  | .cls _, _, h => by cases h; exact .cls _
  | .exc _ _ _ ds, _, h => by
    cases h with
    | exc hs hd hl ha => exact .exc (e _ _ hs) (e _ _ hd) hl (DXs.mono e (ds := ds) ha)
    | exc0 hs => exact .exc0 (e _ _ hs)
theorem DXs.mono (e : Same H H') : ∀ {ds : List Dt} {vs : List V}, DXs K H vs ds → DXs K H' vs ds
  | [], _, h => by cases h; exact .nil
  | d :: ds, _, h => by
    cases h with
    | cons h1 h2 => exact .cons (DX.mono e (d := d) h1) (DXs.mono e (ds := ds) h2)
theorem DXk.mono (e : Same H H') : ∀ {ds : List (Key × Dt)} {vs : List (Key × V)}, DXk K H vs ds → DXk K H' vs ds
  | [], _, h => by cases h; exact .nil
  | (k, d) :: ds, _, h => by
    cases h with
    | cons h1 h2 => exact .cons (DX.mono e (d := d) h1) (DXk.mono e (ds := ds) h2)
end
theorem DXs.len : ∀ {ds : List Dt} {vs : List V}, DXs K H vs ds → vs.length = ds.length
  | [], _, h => by cases h; rfl
  | d :: ds, _, h => by
    cases h with
    | cons h1 h2 => show _ + 1 = _ + 1; rw [DXs.len h2]
theorem DXs.get : ∀ {ds : List Dt} {vs : List V} {i : Nat} {v : V}, DXs K H vs ds → vs[i]? = some v → ∃ d, ds[i]? = some d ∧ DX K H v d
  | [], _, i, v, h, e => by cases h; simp at e
  | d :: ds, _, 0, v, h, e => by
    cases h with
    | cons h1 h2 => simp at e; subst e; exact ⟨d, rfl, h1⟩
  | d :: ds, _, i + 1, v, h, e => by
    cases h with
    | cons h1 h2 =>
      obtain ⟨d', e', k⟩ := DXs.get (i := i) h2 (by simpa using e)
      exact ⟨d', by simpa using e', k⟩
theorem DXs.getd : ∀ {ds : List Dt} {vs : List V} {i : Nat} {d : Dt}, DXs K H vs ds → ds[i]? = some d → ∃ v, vs[i]? = some v ∧ DX K H v d
  | [], _, i, v, h, e => by simp at e
  | d :: ds, _, 0, v, h, e => by
    cases h with
    | cons h1 h2 => simp at e; subst e; exact ⟨_, rfl, h1⟩
  | d :: ds, _, i + 1, v, h, e => by
    cases h with
    | cons h1 h2 =>
      obtain ⟨d', e', k⟩ := DXs.getd (i := i) h2 (by simpa using e)
      exact ⟨d', by simpa using e', k⟩
theorem DXs.append : ∀ {ds es : List Dt} {vs ws : List V}, DXs K H vs ds → DXs K H ws es → DXs K H (vs ++ ws) (ds ++ es)
  | [], _, _, _, h, k => by cases h; exact k
  | d :: ds, es, _, _, h, k => by
    cases h with
    | cons h1 h2 => exact .cons h1 (DXs.append h2 k)
theorem DXs.one {v : V} {d : Dt} (h : DX K H v d) : DXs K H [v] [d] := .cons h .nil
theorem DXs.take : ∀ {ds : List Dt} {vs : List V} (n : Nat), DXs K H vs ds → DXs K H (vs.take n) (ds.take n)
  | _, _, 0, _ => .nil
  | [], _, n + 1, h => by cases h; exact .nil
  | d :: ds, _, n + 1, h => by
    cases h with
    | cons h1 h2 => exact .cons h1 (DXs.take n h2)
theorem DXs.drop : ∀ {ds : List Dt} {vs : List V} (n : Nat), DXs K H vs ds → DXs K H (vs.drop n) (ds.drop n)
  | _, _, 0, h => h
  | [], _, n + 1, h => by cases h; exact .nil
  | d :: ds, _, n + 1, h => by
    cases h with
    | cons h1 h2 => exact DXs.drop n h2
theorem DXs.set {v : V} {d : Dt} (k : DX K H v d) : ∀ {ds : List Dt} {vs : List V} (i : Nat), DXs K H vs ds → DXs K H (vs.set i v) (ds.set i d)
  | [], _, i, h => by cases h; exact .nil
  | d :: ds, _, 0, h => by
    cases h with
    | cons h1 h2 => exact .cons k h2
  | d :: ds, _, i + 1, h => by
    cases h with
    | cons h1 h2 => exact .cons h1 (DXs.set k i h2)
/-- scalars: their value is told by the datum -/
theorem DX.int_eq {v : V} {i : Int} (h : DX K H v (.int i)) : v = .int i := by cases h; rfl
theorem DX.bl_eq {v : V} {b : Bool} (h : DX K H v (.bl b)) : v = .bl b := by cases h; rfl
theorem DX.str_eq {v : V} {x : Str} (h : DX K H v (.str x)) : v = .str x := by cases h; rfl
theorem DX.non_eq {v : V} (h : DX K H v .non) : v = .non := by cases h; rfl
theorem DXs.ints : ∀ {ns : List Int} {vs : List V}, DXs K H vs (ns.map Dt.int) → vs = ns.map V.int
  | [], _, h => by cases h; rfl
  | n :: ns, _, h => by
    cases h with
    | cons h1 h2 => rw [h1.int_eq, DXs.ints h2]; rfl
theorem DXs.bls : ∀ {ns : List Bool} {vs : List V}, DXs K H vs (ns.map Dt.bl) → vs = ns.map V.bl
  | [], _, h => by cases h; rfl
  | n :: ns, _, h => by
    cases h with
    | cons h1 h2 => rw [h1.bl_eq, DXs.bls h2]; rfl
theorem DXs.strs : ∀ {ns : List Str} {vs : List V}, DXs K H vs (ns.map Dt.str) → vs = ns.map V.str
  | [], _, h => by cases h; rfl
  | n :: ns, _, h => by
    cases h with
    | cons h1 h2 => rw [h1.str_eq, DXs.strs h2]; rfl
end

/-! ### what is mutable: the pen, lists of the callers', lists of one's own by slot -/
structure Md where
  p : Option Addr
  F : List Addr
  O : List (Option Addr)
/-- tables of code objects, with the name that all in them bear: they change with the pen alone -/
class Tb where
  T : List (Addr × Str)
variable [Tb]
def Md.ts (M : Md) : List (Addr × Str) := match M.p with
  | none => []
  | some _ => Tb.T
def Md.inP (M : Md) (a : Addr) : Prop := M.p = some a ∨ ∃ t ∈ M.ts, t.1 = a
instance (M : Md) (a : Addr) : Decidable (M.inP a) := by unfold Md.inP; infer_instance
def Md.has (M : Md) (a : Addr) : Prop := M.inP a ∨ a ∈ M.F ∨ some a ∈ M.O
instance (M : Md) (a : Addr) : Decidable (M.has a) := by unfold Md.has; infer_instance
theorem Md.ts0 {M : Md} (h : M.p = none) : M.ts = [] := by unfold Md.ts; rw [h]
theorem Md.ts_some {M : Md} {p : Addr} (h : M.p = some p) : M.ts = Tb.T := by unfold Md.ts; rw [h]
theorem Md.inP0 {M : Md} (h : M.p = none) (a : Addr) : ¬ M.inP a := fun z => by
  rcases z with z | ⟨t, ht, _⟩
  · rw [h] at z; cases z
  · rw [Md.ts0 h] at ht; cases ht
theorem Md.inP_p {M : Md} {a : Addr} (h : M.p = some a) : M.inP a := .inl h
theorem Md.inP_congr {M M' : Md} (hp : M'.p = M.p) (a : Addr) : M'.inP a ↔ M.inP a := by
  unfold Md.inP Md.ts; rw [hp]
/-- the heap without what is mutable -/
def cut (M : Md) (H : Hp) : Hp := fun a => if M.has a then none else H a
theorem cut_of {M : Md} {H : Hp} {a : Addr} {o : HO} (h : cut M H a = some o) : ¬ M.has a ∧ H a = some o := by
  unfold cut at h
  by_cases c : M.has a
  · rw [if_pos c] at h; cases h
  · rw [if_neg c] at h; exact ⟨c, h⟩
theorem cut_at {M : Md} {H : Hp} {a : Addr} {o : HO} (c : ¬ M.has a) (h : H a = some o) : cut M H a = some o := by
  unfold cut; rw [if_neg c]; exact h
theorem cut_Rd {M : Md} {H : Hp} {a : Addr} {u : HO} (h : Rd (cut M H) a u) : ¬ M.has a ∧ Rd H a u := h.elim (fun z => ⟨(cut_of z).1, .inl (cut_of z).2⟩) fun ⟨o, z⟩ => ⟨(cut_of z).1, .inr ⟨o, (cut_of z).2⟩⟩
theorem cut_same (M : Md) {H H' : Hp} (e : Same H H') : Same (cut M H) (cut M H') := fun a o h =>
  let ⟨c, q⟩ := cut_of h
  cut_at c (e a o q)
theorem cut_sub (M : Md) (H : Hp) : Same (cut M H) H := fun a o h => (cut_of h).2
theorem cut_le {M M' : Md} {H : Hp} (h : ∀ a, M'.has a → M.has a) : Same (cut M H) (cut M' H) := fun a o q =>
  let ⟨c, z⟩ := cut_of q
  cut_at (fun y => c (h a y)) z

/-- the table at P: each code object that it tells bears the name q -/
def TabM (M : Md) (H : Hp) (P : Addr) (q : Str) : Prop := ∃ ps : Array Value, H P = some (.tbl ps) ∧ PySem.TriplesOk ps.toList ∧ ∀ (pos : Pos) (cv : Value), codeAmong pos ps.toList = some cv → ∃ c, cv = .ref c ∧ cut M H c = some (LamX.CodeO c q)
def TabsM (M : Md) (H : Hp) : Prop := ∀ t ∈ M.ts, TabM M H t.1 t.2
theorem TabM.step {M M' : Md} {H H' : Hp} {P : Addr} {q : Str} (t : TabM M H P q) (e : ∀ ps, H P = some (.tbl ps) → H' P = some (.tbl ps)) (sc : Same (cut M H) (cut M' H')) : TabM M' H' P q := by
  obtain ⟨ps, h1, h2, h3⟩ := t
  refine ⟨ps, e _ h1, h2, fun pos cv hc => ?_⟩
  obtain ⟨c, e1, e2⟩ := h3 pos cv hc
  exact ⟨c, e1, sc _ _ e2⟩
structure MOk (M : Md) (H : Hp) : Prop where
  live : ∀ a, M.has a → ∃ o, H a = some o
  pF : ∀ a, M.inP a → a ∉ M.F ∧ some a ∉ M.O
  FO : ∀ a, a ∈ M.F → some a ∉ M.O
  nd : ∀ (i j : Nat) (a : Addr), M.O[i]? = some (some a) → M.O[j]? = some (some a) → i = j
  tb : TabsM M H
theorem MOk.same {M : Md} {H H' : Hp} (m : MOk M H) (e : Same H H') : MOk M H' :=
  ⟨fun a h => let ⟨o, q⟩ := m.live a h; ⟨o, e a o q⟩, m.pF, m.FO, m.nd, fun t ht => (m.tb t ht).step (fun _ => e _ _) (cut_same M e)⟩
theorem MOk.pp {M : Md} {H : Hp} (m : MOk M H) {a : Addr} (h : M.p = some a) : a ∉ M.F ∧ some a ∉ M.O := m.pF a (.inl h)
/-- the tables where one thing that is no table is written, and what is mutable is told otherwise -/
theorem MOk.tbU {M M' : Md} {H H' : Hp} (m : MOk M H) (hts : M'.ts = M.ts) (e : ∀ a, M.inP a → ∀ ps, H a = some (.tbl ps) → H' a = some (.tbl ps)) (sc : Same (cut M H) (cut M' H')) : TabsM M' H' := fun t ht => by
  rw [hts] at ht
  exact (m.tb t ht).step (e _ (.inr ⟨t, ht, rfl⟩)) sc
theorem MOk.new {M : Md} {H : Hp} (m : MOk M H) {q : Addr} (h : H q = none) : ¬ M.has q := fun y => by
  obtain ⟨o, z⟩ := m.live q y
  rw [h] at z; cases z

/-- one step: all but the pen and one's own lists stands -/
structure Stp (M : Md) (H : Hp) (M' : Md) (H' : Hp) : Prop where
  p : M'.p = M.p
  F : M'.F = M.F
  keep : ∀ a o, H a = some o → ¬ M.inP a → some a ∉ M.O → H' a = some o ∧ some a ∉ M'.O
theorem Stp.refl (M : Md) (H : Hp) : Stp M H M H := ⟨rfl, rfl, fun _ _ h _ q => ⟨h, q⟩⟩
theorem Stp.same (M : Md) {H H' : Hp} (e : Same H H') : Stp M H M H' := ⟨rfl, rfl, fun _ _ h _ q => ⟨e _ _ h, q⟩⟩
theorem Stp.inP {M M' : Md} {H H' : Hp} (s : Stp M H M' H') (a : Addr) : M'.inP a ↔ M.inP a := Md.inP_congr s.p a
theorem Stp.ts {M M' : Md} {H H' : Hp} (s : Stp M H M' H') : M'.ts = M.ts := by unfold Md.ts; rw [s.p]
theorem Stp.trans {M M1 M2 : Md} {H H1 H2 : Hp} (a : Stp M H M1 H1) (b : Stp M1 H1 M2 H2) : Stp M H M2 H2 :=
  ⟨b.p.trans a.p, b.F.trans a.F, fun x o h c d =>
    let ⟨h1, c1⟩ := a.keep x o h c d
    b.keep x o h1 (fun z => c ((a.inP x).mp z)) c1⟩
theorem Stp.dx {M M' : Md} {H H' : Hp} (s : Stp M H M' H') : Same (cut M H) (cut M' H') := fun a o h => by
  obtain ⟨c, q⟩ := cut_of h
  obtain ⟨h1, c1⟩ := s.keep a o q (fun e => c (.inl e)) (fun e => c (.inr (.inr e)))
  refine cut_at (fun z => ?_) h1
  rcases z with z | z | z
  · exact c (.inl ((s.inP a).mp z))
  · exact c (.inr (.inl (by rw [← s.F]; exact z)))
  · exact c1 z

/-! ### the slots -/
inductive Sl where
  | any
  | dat (d : Dt)
  /-- a datum whose value is kept in mind -/
  | val (v : V) (d : Dt)
  | own (ds : List Dt)
  | ownd (kvs : List (Key × Dt))
  /-- an own instance, its fields by names -/
  | obj (C a : Addr) (ns : List Str) (ds : List Dt)
  | pen (n : Nat)
  | pown (ds : List Dt)

/-- the pen: what is drawn from, how many were drawn (at most n), what is left of a great one -/
def Pen (K : PySem.W.Frag) (M : Md) (H : Hp) (p : Addr) (n : Nat) : Prop :=
  ∃ (l : Addr) (ns : List Int) (c : Nat) (g : Int), H p = some (.lst [.ref l, .int c, .int g]) ∧ SqL K (cut M H) l (ns.map V.int) ∧ c ≤ n ∧ 0 ≤ g ∧ ns.length ≤ 63

def SlOk (K : PySem.W.Frag) (M : Md) (H : Hp) (i : Nat) (o : Option V) : Sl → Prop
  | .any => True
  | .dat d => ∃ v, o = some v ∧ DX K (cut M H) v d
  | .val v d => o = some v ∧ DX K (cut M H) v d
  | .own ds => ∃ l vs, o = some (.ref l) ∧ M.O[i]? = some (some l) ∧ H l = some (.lst vs) ∧ DXs K (cut M H) vs ds
  | .obj C a ns ds => ∃ l dx vs, o = some (.ref l) ∧ M.O[i]? = some (some l) ∧ H l = some (.ins C dx (ns.zip vs)) ∧ (ns.length = vs.length ∧ l = a) ∧ DXs K (cut M H) vs ds
  | .ownd ds => ∃ l vs, o = some (.ref l) ∧ M.O[i]? = some (some l) ∧ H l = some (.dK vs) ∧ DXk K (cut M H) vs ds
  | .pen n => ∃ p, o = some (.ref p) ∧ M.p = some p ∧ Pen K M H p n
  | .pown ds => ∃ p vs, o = some (.ref p) ∧ M.p = some p ∧ H p = some (.lst vs) ∧ DXs K (cut M H) vs ds

structure Sd (K : PySem.W.Frag) (M : Md) (H : Hp) (σ : L2.St) (ρ : List Sl) : Prop where
  len : σ.length = ρ.length
  olen : M.O.length = ρ.length
  mok : MOk M H
  ok : ∀ (i : Nat) (s : Sl), ρ[i]? = some s → ∃ o, σ[i]? = some o ∧ SlOk K M H i o s

section
variable {K : PySem.W.Frag} {M : Md} {H H' : Hp} {σ : L2.St} {ρ : List Sl}
theorem Pen.same {p : Addr} {n : Nat} (h : Pen K M H p n) (e : Same H H') : Pen K M H' p n := by
  obtain ⟨l, ns, c, g, h1, h2, h3, h4⟩ := h
  exact ⟨l, ns, c, g, e _ _ h1, (cut_same M e).seq h2, h3, h4⟩
theorem SlOk.same {i : Nat} {o : Option V} {s : Sl} (h : SlOk K M H i o s) (e : Same H H') : SlOk K M H' i o s := by
  cases s with
  | any => trivial
  | dat d => obtain ⟨v, h1, h2⟩ := h; exact ⟨v, h1, h2.mono (cut_same M e)⟩
  | val u d => obtain ⟨h1, h2⟩ := h; exact ⟨h1, h2.mono (cut_same M e)⟩
  | own ds => obtain ⟨l, vs, h1, h2, h3, h4⟩ := h; exact ⟨l, vs, h1, h2, e _ _ h3, h4.mono (cut_same M e)⟩
  | obj C0 b0 ns0 ds => obtain ⟨l, dx0, vs, h1, h2, h3, a5, h4⟩ := h; exact ⟨l, dx0, vs, h1, h2, e _ _ h3, a5, h4.mono (cut_same M e)⟩
  | ownd ds => obtain ⟨l, vs, h1, h2, h3, h4⟩ := h; exact ⟨l, vs, h1, h2, e _ _ h3, h4.mono (cut_same M e)⟩
  | pen n => obtain ⟨p, h1, h2, h3⟩ := h; exact ⟨p, h1, h2, h3.same e⟩
  | pown ds => obtain ⟨p, vs, h1, h2, h3, h4⟩ := h; exact ⟨p, vs, h1, h2, e _ _ h3, h4.mono (cut_same M e)⟩
theorem Sd.same (S : Sd K M H σ ρ) (e : Same H H') : Sd K M H' σ ρ :=
  ⟨S.len, S.olen, S.mok.same e, fun i s h => let ⟨o, q, k⟩ := S.ok i s h; ⟨o, q, k.same e⟩⟩
theorem same_new {q : Addr} {o : HO} (h : H q = none) : Same H (upd H q o) := fun a u e => by
  rw [upd_ne (ne_of_none e h)]; exact e
end

/-! ### data-level readings (f: it draws nothing, it makes new things at most) -/
structure Tr (f : Bool) (M : Md) (H H' : Hp) : Prop where
  st : Stp M H M H'
  sm : f = true → Same H H'
theorem Tr.refl (f : Bool) (M : Md) (H : Hp) : Tr f M H H := ⟨Stp.refl M H, fun _ => Same.refl H⟩
theorem Tr.same (f : Bool) (M : Md) {H H' : Hp} (e : Same H H') : Tr f M H H' := ⟨Stp.same M e, fun _ => e⟩
theorem Tr.trans {f : Bool} {M : Md} {H H1 H2 : Hp} (a : Tr f M H H1) (b : Tr f M H1 H2) : Tr f M H H2 := ⟨a.st.trans b.st, fun h => (a.sm h).trans (b.sm h)⟩
theorem Tr.dx {f : Bool} {M : Md} {H H' : Hp} (a : Tr f M H H') : Same (cut M H) (cut M H') := a.st.dx
def Wp (K : PySem.W.Frag) (f : Bool) (te : TE) (ρ : List Sl) (Φ : Dt → List Sl → Prop) : Prop :=
  ∀ (M : Md) (σ : L2.St) (H : Hp), Sd K M H σ ρ → ∀ Q : VK, (∀ v H2 d ρ', Tr f M H H2 → Sd K M H2 σ ρ' → DX K (cut M H2) v d → Φ d ρ' → Q v H2) → te σ H Q
def Wt (K : PySem.W.Frag) (f : Bool) (tt : TT) (ρ : List Sl) (Φ : Bool → List Sl → Prop) : Prop :=
  ∀ (M : Md) (σ : L2.St) (H : Hp), Sd K M H σ ρ → ∀ Q : Bool → Hp → Prop, (∀ b H2 ρ', Tr f M H H2 → Sd K M H2 σ ρ' → Φ b ρ' → Q b H2) → tt σ H Q
def Wa (K : PySem.W.Frag) (f : Bool) (ta : TA) (ρ : List Sl) (Φ : List Dt → List Sl → Prop) : Prop :=
  ∀ (M : Md) (σ : L2.St) (H : Hp), Sd K M H σ ρ → ∀ Q : List V → Hp → Prop, (∀ vs H2 ds ρ', Tr f M H H2 → Sd K M H2 σ ρ' → DXs K (cut M H2) vs ds → Φ ds ρ' → Q vs H2) → ta σ H Q
/-- an operation on two values, a call on values: it makes new things at most -/
def OD (K : PySem.W.Frag) (r : R2) (d1 d2 : Dt) (Ψ : Dt → Prop) : Prop :=
  ∀ (M : Md) (H : Hp) (x y : V), MOk M H → DX K (cut M H) x d1 → DX K (cut M H) y d2 → ∀ Q : VK, (∀ v H2 d, Same H H2 → DX K (cut M H2) v d → Ψ d → Q v H2) → r x y H Q
def RD (K : PySem.W.Frag) (r : List V → Hp → VK → Prop) (ds : List Dt) (Ψ : Dt → Prop) : Prop :=
  ∀ (M : Md) (H : Hp) (vs : List V), MOk M H → DXs K (cut M H) vs ds → ∀ Q : VK, (∀ v H2 d, Same H H2 → DX K (cut M H2) v d → Ψ d → Q v H2) → r vs H Q
def UD (K : PySem.W.Frag) (r : V → Hp → VK → Prop) (d1 : Dt) (Ψ : Dt → Prop) : Prop :=
  ∀ (M : Md) (H : Hp) (x : V), MOk M H → DX K (cut M H) x d1 → ∀ Q : VK, (∀ v H2 d, Same H H2 → DX K (cut M H2) v d → Ψ d → Q v H2) → r x H Q

section
variable {K : PySem.W.Frag} {pf : Bool} {ρ : List Sl} {ta tb tc te : TE} {tt tu : TT} {tr : TA} {r r' : R2} {Φ Φ' : Dt → List Sl → Prop} {Θ : Bool → List Sl → Prop} {Ξ : List Dt → List Sl → Prop}
theorem Wp.imp (h : Wp K pf te ρ Φ) (k : ∀ d ρ', Φ d ρ' → Φ' d ρ') : Wp K pf te ρ Φ' := fun M σ H S Q q => h M σ H S Q fun v H2 d ρ' s S2 x f => q v H2 d ρ' s S2 x (k d ρ' f)
theorem Wt.imp {Θ' : Bool → List Sl → Prop} (h : Wt K pf tt ρ Θ) (k : ∀ b ρ', Θ b ρ' → Θ' b ρ') : Wt K pf tt ρ Θ' := fun M σ H S Q q => h M σ H S Q fun b H2 ρ' s S2 f => q b H2 ρ' s S2 (k b ρ' f)
theorem w_var {i : Nat} {d : Dt} (e : ρ[i]? = some (.dat d)) (f : Φ d ρ) : Wp K pf (tVar i) ρ Φ := fun M σ H S Q q => by
  obtain ⟨o, h1, v, h2, h3⟩ := S.ok i _ e
  subst h2
  exact ⟨v, h1, q v H d ρ (Tr.refl pf M H) S h3 f⟩
theorem w_c {v : V} {d : Dt} (k : ∀ H, DX K H v d) (f : Φ d ρ) : Wp K pf (tC v) ρ Φ := fun M σ H S Q q => q v H d ρ (Tr.refl pf M H) S (k _) f
theorem w_op (h : Wp K pf ta ρ fun d1 ρ1 => Wp K pf tb ρ1 fun d2 ρ2 => OD K r d1 d2 fun d => Φ d ρ2) : Wp K pf (tOp r ta tb) ρ Φ := fun M σ H S Q q =>
  h M σ H S _ fun v1 H1 d1 ρ1 s1 S1 x1 k1 => k1 M σ H1 S1 _ fun v2 H2 d2 ρ2 s2 S2 x2 k2 =>
    k2 M H2 v1 v2 S2.mok (x1.mono s2.dx) x2 _ fun v H3 d e x f => q v H3 d ρ2 ((s1.trans s2).trans (Tr.same pf M e)) (S2.same e) x f
theorem w_un {r : V → Hp → VK → Prop} (h : Wp K pf ta ρ fun d1 ρ1 => UD K r d1 fun d => Φ d ρ1) : Wp K pf (tUn r ta) ρ Φ := fun M σ H S Q q =>
  h M σ H S _ fun v1 H1 d1 ρ1 s1 S1 x1 k1 => k1 M H1 v1 S1.mok x1 _ fun v H3 d e x f => q v H3 d ρ1 (s1.trans (Tr.same pf M e)) (S1.same e) x f
theorem w_chain (h : Wp K pf ta ρ fun d1 ρ1 => Wp K pf tb ρ1 fun d2 ρ2 => OD K r d1 d2 fun z => ∃ b, z = .bl b ∧ if b = true then Wp K pf tc ρ2 (fun d3 ρ3 => OD K r' d2 d3 fun d => Φ d ρ3) else Φ (.bl false) ρ2) :
    Wp K pf (tChain r r' ta tb tc) ρ Φ := fun M σ H S Q q =>
  h M σ H S _ fun v1 H1 d1 ρ1 s1 S1 x1 k1 => k1 M σ H1 S1 _ fun v2 H2 d2 ρ2 s2 S2 x2 k2 =>
    k2 M H2 v1 v2 S2.mok (x1.mono s2.dx) x2 _ fun z H3 d e x f => by
      obtain ⟨b, rfl, f⟩ := f
      have x2' := x2.mono (cut_same M e)
      refine ⟨b, x.bl_eq, ?_⟩
      cases b with
      | true =>
        rw [if_pos rfl] at f ⊢
        exact f M σ H3 (S2.same e) _ fun v3 H4 d3 ρ3 s3 S3 x3 k3 => k3 M H4 v2 v3 S3.mok (x2'.mono s3.dx) x3 _ fun v H5 d e5 x5 f5 =>
          q v H5 d ρ3 ((((s1.trans s2).trans (Tr.same pf M e)).trans s3).trans (Tr.same pf M e5)) (S3.same e5) x5 f5
      | false =>
        rw [if_neg Bool.false_ne_true] at f ⊢
        exact q _ H3 (.bl false) ρ2 ((s1.trans s2).trans (Tr.same pf M e)) (S2.same e) (.bl _) f
theorem w_andV (h : Wp K pf ta ρ fun d1 ρ1 => ∃ b, d1 = .bl b ∧ if b = true then Wp K pf tb ρ1 Φ else Φ (.bl false) ρ1) : Wp K pf (tAndV ta tb) ρ Φ := fun M σ H S Q q =>
  h M σ H S _ fun v1 H1 d1 ρ1 s1 S1 x1 ⟨b, e, f⟩ => by
    subst e
    refine ⟨b, x1.bl_eq, ?_⟩
    cases b with
    | true =>
      rw [if_pos rfl] at f ⊢
      exact f M σ H1 S1 _ fun v H2 d ρ2 s2 S2 x f2 => q v H2 d ρ2 (s1.trans s2) S2 x f2
    | false =>
      rw [if_neg Bool.false_ne_true] at f ⊢
      exact q _ H1 _ ρ1 s1 S1 (.bl _) f
theorem w_orV (h : Wp K pf ta ρ fun d1 ρ1 => ∃ b, d1 = .bl b ∧ if b = true then Φ (.bl true) ρ1 else Wp K pf tb ρ1 Φ) : Wp K pf (tOrV ta tb) ρ Φ := fun M σ H S Q q =>
  h M σ H S _ fun v1 H1 d1 ρ1 s1 S1 x1 ⟨b, e, f⟩ => by
    subst e
    refine ⟨b, x1.bl_eq, ?_⟩
    cases b with
    | false =>
      rw [if_neg Bool.false_ne_true] at f ⊢
      exact f M σ H1 S1 _ fun v H2 d ρ2 s2 S2 x f2 => q v H2 d ρ2 (s1.trans s2) S2 x f2
    | true =>
      rw [if_pos rfl] at f ⊢
      exact q _ H1 _ ρ1 s1 S1 (.bl _) f
theorem w_notV (h : Wp K pf ta ρ fun d1 ρ1 => ∃ b, d1 = .bl b ∧ Φ (.bl (!b)) ρ1) : Wp K pf (tNotV ta) ρ Φ := fun M σ H S Q q =>
  h M σ H S _ fun v1 H1 d1 ρ1 s1 S1 x1 ⟨b, e, f⟩ => by
    subst e
    exact ⟨b, x1.bl_eq, q _ H1 _ ρ1 s1 S1 (.bl _) f⟩
theorem w_if (h : Wt K pf tt ρ fun b ρ1 => if b = true then Wp K pf ta ρ1 Φ else Wp K pf tb ρ1 Φ) : Wp K pf (tIf tt ta tb) ρ Φ := fun M σ H S Q q =>
  h M σ H S _ fun b H1 ρ1 s1 S1 f => by
    cases b with
    | true =>
      rw [if_pos rfl] at f
      show ta σ H1 Q
      exact f M σ H1 S1 _ fun v H2 d ρ2 s2 S2 x f2 => q v H2 d ρ2 (s1.trans s2) S2 x f2
    | false =>
      rw [if_neg Bool.false_ne_true] at f
      show tb σ H1 Q
      exact f M σ H1 S1 _ fun v H2 d ρ2 s2 S2 x f2 => q v H2 d ρ2 (s1.trans s2) S2 x f2
/-! tests -/
theorem wt_test (h : Wp K pf te ρ fun d ρ1 => ∃ b, d = .bl b ∧ Θ b ρ1) : Wt K pf (tTest te) ρ Θ := fun M σ H S Q q =>
  h M σ H S _ fun v1 H1 d1 ρ1 s1 S1 x1 ⟨b, e, f⟩ => by
    subst e
    exact ⟨b, x1.bl_eq, q b H1 ρ1 s1 S1 f⟩
theorem wt_B (h : Wp K pf te ρ fun d ρ1 => ∃ b, d = .bl b ∧ Θ b ρ1) : Wt K pf (tB te) ρ Θ := fun M σ H S Q q =>
  h M σ H S _ fun v1 H1 d1 ρ1 s1 S1 x1 ⟨b, e, f⟩ => by
    subst e
    exact ⟨b, x1.bl_eq, q b H1 ρ1 s1 S1 f⟩
theorem wt_and (h : Wt K pf tt ρ fun b ρ1 => if b = true then Wt K pf tu ρ1 Θ else Θ false ρ1) : Wt K pf (tAnd tt tu) ρ Θ := fun M σ H S Q q =>
  h M σ H S _ fun b H1 ρ1 s1 S1 f => by
    cases b with
    | true =>
      rw [if_pos rfl] at f
      show tu σ H1 Q
      exact f M σ H1 S1 _ fun b H2 ρ2 s2 S2 f2 => q b H2 ρ2 (s1.trans s2) S2 f2
    | false =>
      rw [if_neg Bool.false_ne_true] at f
      show Q false H1
      exact q _ H1 ρ1 s1 S1 f
theorem wt_or (h : Wt K pf tt ρ fun b ρ1 => if b = true then Θ true ρ1 else Wt K pf tu ρ1 Θ) : Wt K pf (tOr tt tu) ρ Θ := fun M σ H S Q q =>
  h M σ H S _ fun b H1 ρ1 s1 S1 f => by
    cases b with
    | false =>
      rw [if_neg Bool.false_ne_true] at f
      show tu σ H1 Q
      exact f M σ H1 S1 _ fun b H2 ρ2 s2 S2 f2 => q b H2 ρ2 (s1.trans s2) S2 f2
    | true =>
      rw [if_pos rfl] at f
      show Q true H1
      exact q _ H1 ρ1 s1 S1 f
theorem wt_not (h : Wt K pf tt ρ fun b ρ1 => Θ (!b) ρ1) : Wt K pf (tNot tt) ρ Θ := fun M σ H S Q q =>
  h M σ H S _ fun b H1 ρ1 s1 S1 f => q (!b) H1 ρ1 s1 S1 f
theorem wt_yes (h : Θ true ρ) : Wt K pf tYes ρ Θ := fun M σ H S Q q => q true H ρ (Tr.refl pf M H) S h
/-! arguments, displays, calls -/
theorem wa_nil (h : Ξ [] ρ) : Wa K pf tNil ρ Ξ := fun M σ H S Q q => q [] H [] ρ (Tr.refl pf M H) S .nil h
theorem wa_cons (h : Wp K pf ta ρ fun d ρ1 => Wa K pf tr ρ1 fun ds ρ2 => Ξ (d :: ds) ρ2) : Wa K pf (tCons ta tr) ρ Ξ := fun M σ H S Q q =>
  h M σ H S _ fun v1 H1 d1 ρ1 s1 S1 x1 f => f M σ H1 S1 _ fun vs H2 ds ρ2 s2 S2 x2 f2 => q (v1 :: vs) H2 (d1 :: ds) ρ2 (s1.trans s2) S2 (.cons (x1.mono s2.dx) x2) f2
theorem dx_new_t {M : Md} {H : Hp} {q : Addr} {vs : List V} {ds : List Dt} (m : MOk M H) (h : H q = none) (x : DXs K (cut M H) vs ds) : DX K (cut M (upd H q (.tup vs))) (.ref q) (.tup ds) :=
  .tup (.inl (.inl (cut_at (m.new h) upd_same))) (x.mono (cut_same M (same_new h)))
theorem dx_new_l {M : Md} {H : Hp} {q : Addr} {vs : List V} {ds : List Dt} (m : MOk M H) (h : H q = none) (x : DXs K (cut M H) vs ds) : DX K (cut M (upd H q (.lst vs))) (.ref q) (.lst ds) :=
  .lst (.inl (.inl (cut_at (m.new h) upd_same))) (x.mono (cut_same M (same_new h)))
theorem w_tup (h : Wa K pf tr ρ fun ds ρ1 => ds.length ≤ 100000 ∧ Φ (.tup ds) ρ1) : Wp K pf (tTup tr) ρ Φ := fun M σ H S Q q =>
  h M σ H S _ fun vs H1 ds ρ1 s1 S1 x1 ⟨hl, f⟩ => ⟨by rw [x1.len]; exact Nat.le_trans hl (by decide), fun p hp =>
    q _ _ (.tup ds) ρ1 (s1.trans (Tr.same pf M (same_new hp))) (S1.same (same_new hp)) (dx_new_t S1.mok hp x1) f⟩
theorem w_lst (h : Wa K pf tr ρ fun ds ρ1 => ds.length ≤ 100000 ∧ Φ (.lst ds) ρ1) : Wp K pf (tLst tr) ρ Φ := fun M σ H S Q q =>
  h M σ H S _ fun vs H1 ds ρ1 s1 S1 x1 ⟨hl, f⟩ => ⟨by rw [x1.len]; exact Nat.le_trans hl (by decide), fun p hp =>
    q _ _ (.lst ds) ρ1 (s1.trans (Tr.same pf M (same_new hp))) (S1.same (same_new hp)) (dx_new_l S1.mok hp x1) f⟩
theorem w_cb {r : List V → Hp → VK → Prop} (h : Wa K pf tr ρ fun ds ρ1 => RD K r ds fun d => Φ d ρ1) : Wp K pf (tCB r tr) ρ Φ := fun M σ H S Q q =>
  h M σ H S _ fun vs H1 ds ρ1 s1 S1 x1 k => k M H1 vs S1.mok x1 _ fun v H2 d e x f => q v H2 d ρ1 (s1.trans (Tr.same pf M e)) (S1.same e) x f
end
end DL

/-! Data level: calls by promises, statements, loops, comprehensions. -/
namespace DL
open PySem PySem.Spec PyProof.Rows L2
variable [Tb]

theorem Wp.up {K : PySem.W.Frag} {te : TE} {ρ : List Sl} {Φ : Dt → List Sl → Prop} (h : Wp K true te ρ Φ) : Wp K false te ρ Φ := fun M σ H S Q q =>
  h M σ H S Q fun v H2 d ρ' s S2 x f => q v H2 d ρ' ⟨s.st, fun z => nomatch z⟩ S2 x f
theorem Wt.up {K : PySem.W.Frag} {te : TT} {ρ : List Sl} {Φ : Bool → List Sl → Prop} (h : Wt K true te ρ Φ) : Wt K false te ρ Φ := fun M σ H S Q q =>
  h M σ H S Q fun b H2 ρ' s S2 f => q b H2 ρ' ⟨s.st, fun z => nomatch z⟩ S2 f

/-! ### promises -/
/-- what a callee is told of what is mutable: nothing of it is its own -/
def Md.call (M : Md) : Md := ⟨M.p, M.F ++ M.O.filterMap id, []⟩
def Md.callP (M : Md) : Md := ⟨none, (M.p.toList ++ M.ts.map (·.1)) ++ (M.F ++ M.O.filterMap id), []⟩
theorem Md.mem_p {M : Md} {a : Addr} : a ∈ M.p.toList ++ M.ts.map (·.1) ↔ M.inP a := by
  unfold Md.inP
  rw [List.mem_append, Option.mem_toList, List.mem_map]
theorem mem_somes {O : List (Option Addr)} {a : Addr} : a ∈ O.filterMap id ↔ some a ∈ O := by
  rw [List.mem_filterMap]
  constructor
  · rintro ⟨o, h, e⟩
    have e' : o = some a := e
    rw [← e']; exact h
  · intro h; exact ⟨some a, h, rfl⟩
theorem Md.call_has (M : Md) (a : Addr) : M.call.has a ↔ M.has a := by
  unfold Md.has Md.call
  simp only [List.mem_append, mem_somes, List.not_mem_nil, or_false]
  rfl
theorem Md.callP_has (M : Md) (a : Addr) : M.callP.has a ↔ M.has a := by
  unfold Md.has
  constructor
  · rintro (h | h | h)
    · exact (Md.inP0 rfl a h).elim
    · rcases List.mem_append.mp h with h | h
      · exact .inl (Md.mem_p.mp h)
      · rcases List.mem_append.mp h with h | h
        · exact .inr (.inl h)
        · exact .inr (.inr (mem_somes.mp h))
    · cases h
  · rintro (h | h | h)
    · exact .inr (.inl (List.mem_append_left _ (Md.mem_p.mpr h)))
    · exact .inr (.inl (List.mem_append_right _ (List.mem_append_left _ h)))
    · exact .inr (.inl (List.mem_append_right _ (List.mem_append_right _ (mem_somes.mpr h))))
theorem cut_congr {M M' : Md} (h : ∀ a, M'.has a ↔ M.has a) (H : Hp) : cut M' H = cut M H := by
  funext a
  unfold cut
  by_cases c : M.has a
  · rw [if_pos c, if_pos ((h a).mpr c)]
  · rw [if_neg c, if_neg fun z => c ((h a).mp z)]
theorem MOk.call {M : Md} {H : Hp} (m : MOk M H) : MOk M.call H := by
  refine ⟨fun a h => m.live a ((M.call_has a).mp h), fun a h => ⟨fun z => ?_, fun z => (nomatch z)⟩, fun _ _ z => (nomatch z), fun i j a h => ?_, m.tbU rfl (fun _ _ _ z => z) (by rw [cut_congr M.call_has]; exact Same.refl _)⟩
  · rcases List.mem_append.mp z with z | z
    · exact (m.pF a h).1 z
    · exact (m.pF a h).2 (mem_somes.mp z)
  · have h : ([] : List (Option Addr))[i]? = some (some a) := h
    simp at h
theorem MOk.callP {M : Md} {H : Hp} (m : MOk M H) : MOk M.callP H := by
  refine ⟨fun a h => m.live a ((M.callP_has a).mp h), fun a h => (Md.inP0 rfl a h).elim, fun _ _ z => (nomatch z), fun i j a h => ?_, fun t ht => (nomatch ht)⟩
  have h : ([] : List (Option Addr))[i]? = some (some a) := h
  simp at h
/-- .. and the callee's own: no list of its own yet, a place for each slot -/
def Md.body (M : Md) (n : Nat) : Md := ⟨M.p, M.F, List.replicate n none⟩
theorem no_rep {n : Nat} {a : Addr} : some a ∉ List.replicate n (none : Option Addr) := fun h => by
  have := List.eq_of_mem_replicate h
  cases this
theorem Md.body_has {M : Md} (h : M.O = []) (n : Nat) (a : Addr) : (M.body n).has a ↔ M.has a := by
  unfold Md.has Md.body
  rw [h]
  constructor
  · rintro (z | z | z)
    · exact .inl z
    · exact .inr (.inl z)
    · exact (no_rep z).elim
  · rintro (z | z | z)
    · exact .inl z
    · exact .inr (.inl z)
    · cases z
theorem MOk.body {M : Md} {H : Hp} (m : MOk M H) (h : M.O = []) (n : Nat) : MOk (M.body n) H := by
  refine ⟨fun a z => m.live a ((Md.body_has h n a).mp z), fun a z => ⟨(m.pF a z).1, no_rep⟩, fun _ _ => no_rep, fun i j a z => ?_, m.tbU rfl (fun _ _ _ z => z) (by rw [cut_congr (Md.body_has h n)]; exact Same.refl _)⟩
  have z : (List.replicate n (none : Option Addr))[i]? = some (some a) := z
  rw [List.getElem?_replicate] at z
  split at z <;> cases z

/-- a promise: from data to data; nothing that stands is changed -/
def spP (K : PySem.W.Frag) (W : List Dt → (Dt → Prop) → Prop) : Sp := fun vs H Q _ => ∃ (M : Md) (ds : List Dt) (Φ : Dt → Prop),
  M.p = none ∧ M.O = [] ∧ MOk M H ∧ DXs K (cut M H) vs ds ∧ W ds Φ ∧ ∀ v H2 d, Same H H2 → DX K (cut M H2) v d → Φ d → Q v H2
/-- what a def that draws leaves: all but the pen and the tables, and these as they are meant -/
structure FrmP (M : Md) (H H2 : Hp) : Prop where
  k : ∀ a o, H a = some o → ¬ M.inP a → H2 a = some o
  t : TabsM M H2
/-- a promise of a def that draws: its first argument is the pen -/
def spN (K : PySem.W.Frag) (W : Nat → List Dt → (Dt → Nat → Prop) → Prop) : Sp := fun vs H Q _ => ∃ (M : Md) (p : Addr) (n : Nat) (ws : List V) (ds : List Dt) (Φ : Dt → Nat → Prop),
  vs = .ref p :: ws ∧ M.p = some p ∧ M.O = [] ∧ MOk M H ∧ Pen K M H p n ∧ DXs K (cut M H) ws ds ∧ W n ds Φ ∧
    ∀ v H2 d n', FrmP M H H2 → Pen K M H2 p n' → DX K (cut M H2) v d → Φ d n' → Q v H2
def pens (n : Nat) (ρ : List Sl) : List Sl := ρ.map fun s => match s with
  | .pen _ => .pen n
  | .pown _ => .pen n
  | s => s

section
variable {K : PySem.W.Frag} {pf : Bool} {ρ : List Sl} {te : TE} {tr : TA} {Φ : Dt → List Sl → Prop}
theorem w_call {W : List Dt → (Dt → Prop) → Prop} {dvs : List V} {des : List Dt} {E : XK} (hd : ∀ H, DXs K H dvs des) (h : Wa K pf tr ρ fun ds ρ1 => W (ds ++ des) fun d => Φ d ρ1) : Wp K pf (tCall (spP K W) dvs E tr) ρ Φ := fun M σ H S Q q =>
  h M σ H S _ fun vs H1 ds ρ1 s1 S1 x1 k => by
    have ec : ∀ H', cut M.callP H' = cut M H' := cut_congr M.callP_has
    refine ⟨M.callP, ds ++ des, _, rfl, rfl, S1.mok.callP, ?_, k, fun v H2 d e x f => q v H2 d ρ1 (s1.trans (Tr.same pf M e)) (S1.same e) ?_ f⟩
    · rw [ec]; exact x1.append (hd _)
    · rw [ec] at x; exact x
theorem w_call0 {W : List Dt → (Dt → Prop) → Prop} {E : XK} (h : Wa K pf tr ρ fun ds ρ1 => W ds fun d => Φ d ρ1) : Wp K pf (tCall (spP K W) [] E tr) ρ Φ :=
  w_call (des := []) (fun _ => .nil) fun M σ H S Q q => h M σ H S Q fun vs H2 ds ρ' s S2 x f => q vs H2 ds ρ' s S2 x (by show W (ds ++ []) _; rw [List.append_nil]; exact f)
theorem Sd.pens {M : Md} {H H2 : Hp} {σ : L2.St} {p : Addr} {n' : Nat} (S : Sd K M H σ ρ) (hp : M.p = some p) (fr : FrmP M H H2) (P : Pen K M H2 p n') : Sd K M H2 σ (pens n' ρ) := by
  have k := fr.k
  have sc : Same (cut M H) (cut M H2) := fun a o e => by
    obtain ⟨c, z⟩ := cut_of e
    exact cut_at c (k a o z fun y => c (.inl y))
  refine ⟨by unfold DL.pens; rw [List.length_map]; exact S.len, by unfold DL.pens; rw [List.length_map]; exact S.olen, ⟨fun a h => ?_, S.mok.pF, S.mok.FO, S.mok.nd, fr.t⟩, fun i s h => ?_⟩
  · obtain ⟨o, z⟩ := S.mok.live a h
    by_cases e : M.inP a
    · rcases e with e | ⟨t, ht, e⟩
      · obtain ⟨l, ns, c, g, h1, _⟩ := P
        have ea : p = a := Option.some.inj (hp.symm.trans e)
        exact ⟨_, by rw [← ea]; exact h1⟩
      · obtain ⟨ps, h1, _⟩ := fr.t t ht
        exact ⟨_, by rw [← e]; exact h1⟩
    · exact ⟨o, k a o z e⟩
  · unfold DL.pens at h
    rw [List.getElem?_map] at h
    cases e : ρ[i]? with
    | none => rw [e] at h; cases h
    | some s0 =>
      rw [e] at h
      obtain ⟨o, h1, h2⟩ := S.ok i s0 e
      refine ⟨o, h1, ?_⟩
      have h := Option.some.inj h
      cases s0 with
      | any => subst h; trivial
      | dat d => subst h; obtain ⟨v, a1, a2⟩ := h2; exact ⟨v, a1, a2.mono sc⟩
      | val u d => subst h; obtain ⟨a1, a2⟩ := h2; exact ⟨a1, a2.mono sc⟩
      | own ds =>
        subst h
        obtain ⟨l, vs, a1, a2, a3, a4⟩ := h2
        exact ⟨l, vs, a1, a2, k _ _ a3 (fun y => (S.mok.pF _ y).2 (List.mem_of_getElem? a2)), a4.mono sc⟩
      | obj C0 b0 ns0 ds =>
        subst h
        obtain ⟨l, dx0, vs, a1, a2, a3, a5, a4⟩ := h2
        exact ⟨l, dx0, vs, a1, a2, k _ _ a3 (fun y => (S.mok.pF _ y).2 (List.mem_of_getElem? a2)), a5, a4.mono sc⟩
      | ownd ds =>
        subst h
        obtain ⟨l, vs, a1, a2, a3, a4⟩ := h2
        exact ⟨l, vs, a1, a2, k _ _ a3 (fun y => (S.mok.pF _ y).2 (List.mem_of_getElem? a2)), a4.mono sc⟩
      | pen m =>
        subst h
        obtain ⟨p', a1, a2, _⟩ := h2
        have e : p' = p := Option.some.inj (a2.symm.trans hp)
        subst e
        exact ⟨p', a1, a2, P⟩
      | pown es =>
        subst h
        obtain ⟨p', ws, a1, a2, _⟩ := h2
        have e : p' = p := Option.some.inj (a2.symm.trans hp)
        subst e
        exact ⟨p', a1, a2, P⟩
theorem w_callN {W : Nat → List Dt → (Dt → Nat → Prop) → Prop} {E : XK} {i n0 : Nat} (e : ρ[i]? = some (.pen n0)) (h : Wa K false tr ρ fun ds ρ1 => ∃ n, ρ1[i]? = some (.pen n) ∧ W n ds fun d n' => Φ d (pens n' ρ1)) :
    Wp K false (tCall (spN K W) [] E (tCons (tVar i) tr)) ρ Φ := fun M σ H S Q q => by
  obtain ⟨o, h1, p, rfl, hp, _⟩ := S.ok i _ e
  refine ⟨.ref p, h1, h M σ H S _ fun vs H1 ds ρ1 s1 S1 x1 ⟨n, e1, k⟩ => ?_⟩
  obtain ⟨o', g1, p', g2, g3, P⟩ := S1.ok i _ e1
  have ep : p' = p := Option.some.inj (g3.symm.trans hp)
  subst ep
  have ec : ∀ H', cut M.call H' = cut M H' := cut_congr M.call_has
  have penc : ∀ {H' : Hp} {m : Nat}, Pen K M.call H' p' m ↔ Pen K M H' p' m := fun {H' m} => by unfold Pen; rw [ec]
  refine ⟨M.call, p', n, vs, ds, _, by rw [List.append_nil], hp, rfl, S1.mok.call, penc.mpr P, by rw [ec]; exact x1, k, fun v H2 d n' kp P2 x f => ?_⟩
  rw [ec] at x
  refine q v H2 d (pens n' ρ1) (s1.trans ⟨⟨rfl, rfl, fun a o z c d => ⟨kp.k a o z c, d⟩⟩, fun z => nomatch z⟩) (S1.pens hp ⟨kp.k, fun t ht => (kp.t t ht).step (fun _ z => z) (by rw [ec]; exact Same.refl _)⟩ (penc.mp P2)) x f
end

/-! ### statements -/
structure DE where
  nx : List Sl → Prop
  rt : Dt → List Sl → Prop
  bk : List Sl → Prop := fun _ => False
  ct : List Sl → Prop := fun _ => False
  /-- what is wished where an exception leaves the def; which ones may -/
  xk : XK := fun _ _ _ => False
  xd : Addr → List Str → List Dt → Prop := fun _ _ _ => False
structure EOk (K : PySem.W.Frag) (M : Md) (H : Hp) (E : Ends) (D : DE) : Prop where
  nx : ∀ M' σ' H' ρ', Stp M H M' H' → Sd K M' H' σ' ρ' → D.nx ρ' → E.nx σ' H'
  rt : ∀ M' v H' d ρ' σ', Stp M H M' H' → Sd K M' H' σ' ρ' → DX K (cut M' H') v d → D.rt d ρ' → E.rt v H'
  bk : ∀ M' σ' H' ρ', Stp M H M' H' → Sd K M' H' σ' ρ' → D.bk ρ' → E.bk σ' H'
  ct : ∀ M' σ' H' ρ', Stp M H M' H' → Sd K M' H' σ' ρ' → D.ct ρ' → E.ct σ' H'
  ex : ∀ M' H' C dd ns us es, Stp M H M' H' → H' dd = some (.xd (ns.zip us)) → ns.length = us.length → ¬ M'.has dd → DXs K (cut M' H') us es → D.xd C ns es → D.xk (.ref C) (some dd) H'
theorem EOk.step {K : PySem.W.Frag} {M M1 : Md} {H H1 : Hp} {E : Ends} {D : DE} (k : EOk K M H E D) (s : Stp M H M1 H1) : EOk K M1 H1 E D :=
  ⟨fun M' σ' H' ρ' t S z => k.nx M' σ' H' ρ' (s.trans t) S z, fun M' v H' d ρ' σ' t S x z => k.rt M' v H' d ρ' σ' (s.trans t) S x z,
    fun M' σ' H' ρ' t S z => k.bk M' σ' H' ρ' (s.trans t) S z, fun M' σ' H' ρ' t S z => k.ct M' σ' H' ρ' (s.trans t) S z, fun M' H' C dd ns us es t a b nd c e => k.ex M' H' C dd ns us es (s.trans t) a b nd c e⟩
def Ws (K : PySem.W.Frag) (ts : TS) (ρ : List Sl) (D : DE) : Prop :=
  ∀ (M : Md) (σ : L2.St) (H : Hp), Sd K M H σ ρ → ∀ E : Ends, EOk K M H E D → ts E σ H

section
variable {K : PySem.W.Frag} {ρ : List Sl} {te ti : TE} {tt : TT} {tr : TA} {t u : TS} {D : DE} {i : Nat}
theorem Sd.put {M : Md} {H : Hp} {σ : L2.St} (S : Sd K M H σ ρ) {v : V} {d : Dt} (x : DX K (cut M H) v d) (i : Nat) : Sd K M H (σ.set i (some v)) (ρ.set i (.dat d)) := by
  refine ⟨by rw [List.length_set, List.length_set]; exact S.len, by rw [List.length_set]; exact S.olen, S.mok, fun j s h => ?_⟩
  by_cases e : i = j
  · subst e
    by_cases hi : i < ρ.length
    · rw [List.getElem?_set_self hi] at h
      have h := Option.some.inj h
      subst h
      exact ⟨some v, by rw [List.getElem?_set_self (by rw [S.len]; exact hi)], v, rfl, x⟩
    · rw [List.getElem?_eq_none (by rw [List.length_set]; omega)] at h; cases h
  · rw [List.getElem?_set_ne e] at h ⊢
    exact S.ok j s h
theorem ws_seq (h : Ws K t ρ { D with nx := fun ρ' => Ws K u ρ' D }) : Ws K (tSeq t u) ρ D := fun M σ H S E k =>
  h M σ H S { E with nx := u E } ⟨fun M' σ' H' ρ' s S' z => z M' σ' H' S' E (k.step s), k.rt, k.bk, k.ct, k.ex⟩
theorem ws_next (h : D.nx ρ) : Ws K tNext ρ D := fun M σ H S E k => k.nx M σ H ρ (Stp.refl M H) S h
theorem ws_brk (h : D.bk ρ) : Ws K tBreak ρ D := fun M σ H S E k => k.bk M σ H ρ (Stp.refl M H) S h
theorem ws_cont (h : D.ct ρ) : Ws K tCont ρ D := fun M σ H S E k => k.ct M σ H ρ (Stp.refl M H) S h
theorem ws_asg {pf : Bool} (h : Wp K pf te ρ fun d ρ' => D.nx (ρ'.set i (.dat d))) : Ws K (tAsg te (gName i)) ρ D := fun M σ H S E k =>
  h M σ H S _ fun v H1 d ρ1 s1 S1 x1 f => k.nx M _ H1 _ s1.st (S1.put x1 i) f
theorem ws_drop {pf : Bool} (h : Wp K pf te ρ fun d ρ' => D.nx ρ') : Ws K (tDrop te) ρ D := fun M σ H S E k =>
  h M σ H S _ fun v H1 d ρ1 s1 S1 x1 f => k.nx M _ H1 _ s1.st S1 f
theorem ws_ret {pf : Bool} (h : Wp K pf te ρ fun d ρ' => D.rt d ρ') : Ws K (tRet te) ρ D := fun M σ H S E k =>
  h M σ H S _ fun v H1 d ρ1 s1 S1 x1 f => k.rt M v H1 d ρ1 σ s1.st S1 x1 f
theorem ws_retN (h : D.rt .non ρ) : Ws K tRetN ρ D := fun M σ H S E k => k.rt M .non H .non ρ σ (Stp.refl M H) S .non h
theorem ws_if {pf : Bool} (h : Wt K pf tt ρ fun b ρ1 => if b = true then Ws K t ρ1 D else Ws K u ρ1 D) : Ws K (tIfS tt t u) ρ D := fun M σ H S E k =>
  h M σ H S _ fun b H1 ρ1 s1 S1 f => by
    cases b with
    | true =>
      rw [if_pos rfl] at f
      show t E σ H1
      exact f M σ H1 S1 E (k.step s1.st)
    | false =>
      rw [if_neg Bool.false_ne_true] at f
      show u E σ H1
      exact f M σ H1 S1 E (k.step s1.st)

/-! one's own lists -/
theorem Sd.slot {M : Md} {H : Hp} {σ : L2.St} (S : Sd K M H σ ρ) {s : Sl} (h : ρ[i]? = some s) : i < σ.length := by
  rw [S.len]; exact (List.getElem?_eq_some_iff.mp h).1
/-- a new list at q becomes slot i's own -/
theorem Sd.own {M : Md} {H : Hp} {σ : L2.St} {q : Addr} {vs : List V} {ds : List Dt} (S : Sd K M H σ ρ) (hi : i < ρ.length) (hq : ¬ M.has q) (hH : H q = some (.lst vs))
    (x : DXs K (cut { M with F := q :: M.F } H) vs ds) (hS : Sd K { M with F := q :: M.F } H σ ρ) : Sd K { M with O := M.O.set i (some q) } H (σ.set i (some (.ref q))) (ρ.set i (.own ds)) := by
  have hO : ∀ a, some a ∈ M.O.set i (some q) → a = q ∨ some a ∈ M.O := fun a h => by
    rcases List.mem_or_eq_of_mem_set h with z | z
    · exact .inr z
    · exact .inl (Option.some.inj z)
  have has : ∀ a, ({ M with O := M.O.set i (some q) } : Md).has a → ({ M with F := q :: M.F } : Md).has a := fun a h => by
    rcases h with h | h | h
    · exact .inl h
    · exact .inr (.inl (List.mem_cons_of_mem _ h))
    · rcases hO a h with z | z
      · exact .inr (.inl (by rw [z]; exact List.mem_cons_self))
      · exact .inr (.inr z)
  have sc : Same (cut { M with F := q :: M.F } H) (cut { M with O := M.O.set i (some q) } H) := cut_le has
  have hset : ∀ (j : Nat) (a : Addr), (M.O.set i (some q))[j]? = some (some a) → (i = j ∧ a = q) ∨ (i ≠ j ∧ M.O[j]? = some (some a)) := fun j a h => by
    by_cases e : i = j
    · subst e
      rw [List.getElem?_set_self (by rw [S.olen]; exact hi)] at h
      exact .inl ⟨rfl, (Option.some.inj (Option.some.inj h)).symm⟩
    · rw [List.getElem?_set_ne e] at h
      exact .inr ⟨e, h⟩
  refine ⟨by rw [List.length_set, List.length_set]; exact S.len, by show (M.O.set i (some q)).length = _; rw [List.length_set, List.length_set]; exact S.olen, ⟨fun a h => hS.mok.live a (has a h), fun a h => ⟨(S.mok.pF a h).1, fun z => ?_⟩, fun a h z => ?_, fun j k a h1 h2 => ?_, hS.mok.tbU rfl (fun _ _ _ z => z) sc⟩, fun j s h => ?_⟩
  · rcases hO a z with z | z
    · exact hq (.inl (by rw [← z]; exact h))
    · exact (S.mok.pF a h).2 z
  · rcases hO a z with z | z
    · exact hq (.inr (.inl (by rw [← z]; exact h)))
    · exact S.mok.FO a h z
  · rcases hset j a h1 with ⟨e1, z1⟩ | ⟨e1, z1⟩
    · rcases hset k a h2 with ⟨e2, z2⟩ | ⟨e2, z2⟩
      · rw [← e1, ← e2]
      · exact (hq (.inr (.inr (by rw [← z1]; exact List.mem_of_getElem? z2)))).elim
    · rcases hset k a h2 with ⟨e2, z2⟩ | ⟨e2, z2⟩
      · exact (hq (.inr (.inr (by rw [← z2]; exact List.mem_of_getElem? z1)))).elim
      · exact S.mok.nd j k a z1 z2
  · by_cases e : i = j
    · subst e
      rw [List.getElem?_set_self hi] at h
      have h := Option.some.inj h
      subst h
      exact ⟨_, List.getElem?_set_self (by rw [S.len]; exact hi), q, vs, rfl, List.getElem?_set_self (by rw [S.olen]; exact hi), hH, x.mono sc⟩
    · rw [List.getElem?_set_ne e] at h
      obtain ⟨o, h1, h2⟩ := hS.ok j s h
      refine ⟨o, by rw [List.getElem?_set_ne e]; exact h1, ?_⟩
      cases s with
      | any => trivial
      | dat d => obtain ⟨v, a1, a2⟩ := h2; exact ⟨v, a1, a2.mono sc⟩
      | val u d => obtain ⟨a1, a2⟩ := h2; exact ⟨a1, a2.mono sc⟩
      | own es =>
        obtain ⟨l, ws, a1, a2, a3, a4⟩ := h2
        exact ⟨l, ws, a1, by show (M.O.set i (some q))[j]? = _; rw [List.getElem?_set_ne e]; exact a2, a3, a4.mono sc⟩
      | obj C0 b0 ns0 es =>
        obtain ⟨l, dx0, ws, a1, a2, a3, a5, a4⟩ := h2
        exact ⟨l, dx0, ws, a1, by show (M.O.set i (some q))[j]? = _; rw [List.getElem?_set_ne e]; exact a2, a3, a5, a4.mono sc⟩
      | ownd es =>
        obtain ⟨l, ws, a1, a2, a3, a4⟩ := h2
        exact ⟨l, ws, a1, by show (M.O.set i (some q))[j]? = _; rw [List.getElem?_set_ne e]; exact a2, a3, a4.mono sc⟩
      | pen m =>
        obtain ⟨p', a1, a2, l, ns, c, g, b1, b2, b3⟩ := h2
        exact ⟨p', a1, a2, l, ns, c, g, b1, sc.seq b2, b3⟩
      | pown es => obtain ⟨p', ws, a1, a2, a3, a4⟩ := h2; exact ⟨p', ws, a1, a2, a3, a4.mono sc⟩
/-- a new address set aside -/
theorem Sd.aside {M : Md} {H H' : Hp} {σ : L2.St} {q : Addr} {o : HO} (S : Sd K M H σ ρ) (hq : H q = none) (e : Same H H') (ho : H' q = some o) : Sd K { M with F := q :: M.F } H' σ ρ := by
  have nq := S.mok.new hq
  have has : ∀ a, a ≠ q → ({ M with F := q :: M.F } : Md).has a → M.has a := fun a n h => by
    rcases h with h | h | h
    · exact .inl h
    · rcases List.mem_cons.mp h with z | z
      · exact (n z).elim
      · exact .inr (.inl z)
    · exact .inr (.inr h)
  have sc : Same (cut M H) (cut { M with F := q :: M.F } H') := fun a u z => by
    obtain ⟨c, y⟩ := cut_of z
    exact cut_at (fun h => c (has a (ne_of_none y hq) h)) (e a u y)
  refine ⟨S.len, S.olen, ⟨fun a h => ?_, fun a h => ⟨fun z => ?_, (S.mok.pF a h).2⟩, fun a h => ?_, S.mok.nd, S.mok.tbU rfl (fun _ _ _ z => e _ _ z) sc⟩, fun j s h => ?_⟩
  · by_cases n : a = q
    · exact ⟨o, by rw [n]; exact ho⟩
    · obtain ⟨u, z⟩ := S.mok.live a (has a n h)
      exact ⟨u, e a u z⟩
  · rcases List.mem_cons.mp z with z | z
    · exact nq (.inl (by rw [← z]; exact h))
    · exact (S.mok.pF a h).1 z
  · rcases List.mem_cons.mp h with z | z
    · intro y; exact nq (.inr (.inr (by rw [← z]; exact y)))
    · exact S.mok.FO a z
  · obtain ⟨u, h1, h2⟩ := S.ok j s h
    refine ⟨u, h1, ?_⟩
    cases s with
    | any => trivial
    | dat d => obtain ⟨v, a1, a2⟩ := h2; exact ⟨v, a1, a2.mono sc⟩
    | val u d => obtain ⟨a1, a2⟩ := h2; exact ⟨a1, a2.mono sc⟩
    | own es => obtain ⟨l, ws, a1, a2, a3, a4⟩ := h2; exact ⟨l, ws, a1, a2, e _ _ a3, a4.mono sc⟩
    | obj C0 b0 ns0 es => obtain ⟨l, dx0, ws, a1, a2, a3, a5, a4⟩ := h2; exact ⟨l, dx0, ws, a1, a2, e _ _ a3, a5, a4.mono sc⟩
    | ownd es => obtain ⟨l, ws, a1, a2, a3, a4⟩ := h2; exact ⟨l, ws, a1, a2, e _ _ a3, a4.mono sc⟩
    | pen m =>
      obtain ⟨p', a1, a2, l, ns, c, g, b1, b2, b3⟩ := h2
      exact ⟨p', a1, a2, l, ns, c, g, e _ _ b1, sc.seq b2, b3⟩
    | pown es => obtain ⟨p', ws, a1, a2, a3, a4⟩ := h2; exact ⟨p', ws, a1, a2, e _ _ a3, a4.mono sc⟩
theorem Stp.own {M : Md} {H H' : Hp} {i : Nat} {q : Addr} (hq : H q = none) (e : Same H H') : Stp M H { M with O := M.O.set i (some q) } H' :=
  ⟨rfl, rfl, fun a o z c d => ⟨e a o z, fun y => by
    rcases List.mem_or_eq_of_mem_set y with y | y
    · exact d y
    · exact ne_of_none z hq (Option.some.inj y)⟩⟩
theorem ws_newlist (hi : i < ρ.length) (h : D.nx (ρ.set i (.own []))) : Ws K (tAsg (tLst tNil) (gName i)) ρ D := fun M σ H S E k =>
  ⟨Nat.zero_le _, fun q hq => k.nx _ _ _ _ (Stp.own hq (same_new hq)) ((S.same (same_new hq)).own hi (S.mok.new hq) upd_same .nil (S.aside hq (same_new hq) upd_same)) h⟩
/-- a list of one's own, written at its address -/
theorem Sd.write {M : Md} {H : Hp} {σ : L2.St} {l : Addr} {vs ws : List V} {ds es : List Dt} (S : Sd K M H σ ρ) (hs : ρ[i]? = some (.own ds)) (hl : M.O[i]? = some (some l)) (x : DXs K (cut M H) ws es) :
    Sd K M (upd H l (.lst ws)) σ (ρ.set i (.own es)) ∧ Stp M H M (upd H l (.lst ws)) := by
  have hm : some l ∈ M.O := List.mem_of_getElem? hl
  have sc : Same (cut M H) (cut M (upd H l (.lst ws))) := fun a u z => by
    obtain ⟨c, y⟩ := cut_of z
    exact cut_at c (by rw [upd_ne fun n => c (.inr (.inr (by rw [n]; exact hm)))]; exact y)
  obtain ⟨o0, h0, l0, vs0, e0, e1, e2, e3⟩ := S.ok i _ hs
  have el : l0 = l := Option.some.inj (Option.some.inj (e1.symm.trans hl))
  subst el
  refine ⟨⟨by rw [List.length_set]; exact S.len, by rw [List.length_set]; exact S.olen, ⟨fun a h => ?_, S.mok.pF, S.mok.FO, S.mok.nd, S.mok.tbU rfl (fun a ha _ z => by rw [upd_ne fun n => (S.mok.pF a ha).2 (by rw [n]; exact hm)]; exact z) sc⟩, fun j s h => ?_⟩, ⟨rfl, rfl, fun a o z c d => ⟨?_, d⟩⟩⟩
  · by_cases n : a = l0
    · exact ⟨_, by rw [n]; exact upd_same⟩
    · obtain ⟨u, z⟩ := S.mok.live a h
      exact ⟨u, by rw [upd_ne n]; exact z⟩
  · by_cases e : i = j
    · subst e
      rw [List.getElem?_set_self (by rw [← S.len]; exact S.slot hs)] at h
      have h := Option.some.inj h
      subst h
      exact ⟨o0, h0, l0, ws, e0, e1, upd_same, x.mono sc⟩
    · rw [List.getElem?_set_ne e] at h
      obtain ⟨o, h1, h2⟩ := S.ok j s h
      refine ⟨o, h1, ?_⟩
      cases s with
      | any => trivial
      | dat d => obtain ⟨v, a1, a2⟩ := h2; exact ⟨v, a1, a2.mono sc⟩
      | val u d => obtain ⟨a1, a2⟩ := h2; exact ⟨a1, a2.mono sc⟩
      | own es =>
        obtain ⟨l', ws', a1, a2, a3, a4⟩ := h2
        exact ⟨l', ws', a1, a2, by rw [upd_ne fun n => e (S.mok.nd i j l0 e1 (by rw [← n]; exact a2))]; exact a3, a4.mono sc⟩
      | obj C0 b0 ns0 es =>
        obtain ⟨l', dx0, ws', a1, a2, a3, a5, a4⟩ := h2
        exact ⟨l', dx0, ws', a1, a2, by rw [upd_ne fun n => e (S.mok.nd i j l0 e1 (by rw [← n]; exact a2))]; exact a3, a5, a4.mono sc⟩
      | ownd es =>
        obtain ⟨l', ws', a1, a2, a3, a4⟩ := h2
        exact ⟨l', ws', a1, a2, by rw [upd_ne fun n => e (S.mok.nd i j l0 e1 (by rw [← n]; exact a2))]; exact a3, a4.mono sc⟩
      | pen m =>
        obtain ⟨p', a1, a2, l', ns, c, g, b1, b2, b3⟩ := h2
        exact ⟨p', a1, a2, l', ns, c, g, by rw [upd_ne fun n => (S.mok.pp a2).2 (by rw [n]; exact hm)]; exact b1, sc.seq b2, b3⟩
      | pown es => obtain ⟨p', ws', a1, a2, a3, a4⟩ := h2; exact ⟨p', ws', a1, a2, by rw [upd_ne fun n => (S.mok.pp a2).2 (by rw [n]; exact hm)]; exact a3, a4.mono sc⟩
  · rw [upd_ne fun n => d (by rw [n]; exact hm)]; exact z
theorem ws_append {pf : Bool} (h : Wp K pf te ρ fun d ρ' => ∃ ds, ρ'[i]? = some (.own ds) ∧ ds.length < 100000 ∧ D.nx (ρ'.set i (.own (ds ++ [d])))) {ds0 : List Dt} (e0 : ρ[i]? = some (.own ds0)) :
    Ws K (tDrop (tBM K "list" rAppend (tVar i) (tCons te tNil))) ρ D := fun M σ H S E k => by
  obtain ⟨o, h1, l, vs0, e1, e2, e3, e4⟩ := S.ok i _ e0
  subst e1
  refine ⟨.ref l, h1, .inl ⟨rfl, _, .inl (.inl e3)⟩, h M σ H S _ fun v H1 d ρ1 s1 S1 x1 ⟨ds, g1, g2, g3⟩ => ?_⟩
  obtain ⟨o', z1, l', vs, y1, y2, y3, y4⟩ := S1.ok i _ g1
  have el : l' = l := Option.some.inj (Option.some.inj (y2.symm.trans e2))
  subst el
  refine ⟨l', vs, v, rfl, rfl, y3, by rw [y4.len]; exact Nat.lt_of_lt_of_le g2 (by decide), ?_⟩
  obtain ⟨S2, s2⟩ := S1.write (vs := vs) g1 y2 (y4.append (.one x1))
  exact k.nx M σ _ _ (s1.st.trans s2) S2 g3
theorem ws_setitem {pf : Bool} (h : Wp K pf te ρ fun d ρ1 => Wp K pf ti ρ1 fun dj ρ2 => ∃ (ds : List Dt) (j : Nat), ρ2[i]? = some (.own ds) ∧ dj = .int j ∧ j < ds.length ∧ D.nx (ρ2.set i (.own (ds.set j d)))) {ds0 : List Dt} (e0 : ρ[i]? = some (.own ds0)) : Ws K (tAsg te (gSub (tVar i) ti rSetL)) ρ D := fun M σ H S E k => by
  obtain ⟨o, h1, l, vs0, e1, e2, e3, e4⟩ := S.ok i _ e0
  subst e1
  refine h M σ H S _ fun v H1 d ρ1 s1 S1 x1 h2 => ?_
  refine ⟨.ref l, h1, h2 M σ H1 S1 _ fun w H2 dj ρ2 s2 S2 x2 ⟨ds, j, g1, g2, g3, g4⟩ => ?_⟩
  subst g2
  obtain ⟨o', z1, l', vs, y1, y2, y3, y4⟩ := S2.ok i _ g1
  have el : l' = l := Option.some.inj (Option.some.inj (y2.symm.trans e2))
  subst el
  refine ⟨l', vs, j, j, rfl, x2.int_eq, y3, ?_, ?_⟩
  · unfold ixN
    rw [if_pos (Int.natCast_nonneg j), if_pos (by rw [y4.len]; exact Int.ofNat_lt.mpr g3)]
    rfl
  · obtain ⟨S3, s3⟩ := S2.write (vs := vs) g1 y2 (y4.set (x1.mono s2.dx) j)
    exact k.nx M σ _ _ ((s1.st.trans s2.st).trans s3) S3 g4
/-- a list of one's own given out of hand: from here on it is data -/
theorem Sd.freeze {M : Md} {H : Hp} {σ : L2.St} {ds : List Dt} (S : Sd K M H σ ρ) (hs : ρ[i]? = some (.own ds)) :
    Sd K { M with O := M.O.set i none } H σ (ρ.set i (.dat (.lst ds))) ∧ Stp M H { M with O := M.O.set i none } H := by
  have hO : ∀ a, some a ∈ M.O.set i none → some a ∈ M.O := fun a h => by
    rcases List.mem_or_eq_of_mem_set h with z | z
    · exact z
    · cases z
  have has : ∀ a, ({ M with O := M.O.set i none } : Md).has a → M.has a := fun a h => by
    rcases h with h | h | h
    · exact .inl h
    · exact .inr (.inl h)
    · exact .inr (.inr (hO a h))
  have sc : Same (cut M H) (cut { M with O := M.O.set i none } H) := cut_le has
  obtain ⟨o0, h0, l, vs, e0, e1, e2, e3⟩ := S.ok i _ hs
  have hset : ∀ (j : Nat) (a : Addr), (M.O.set i none)[j]? = some (some a) → i ≠ j ∧ M.O[j]? = some (some a) := fun j a h => by
    by_cases e : i = j
    · subst e
      rw [List.getElem?_set_self (List.getElem?_eq_some_iff.mp e1).1] at h
      cases Option.some.inj h
    · rw [List.getElem?_set_ne e] at h
      exact ⟨e, h⟩
  have nl : ¬ ({ M with O := M.O.set i none } : Md).has l := fun z => by
    have hm := List.mem_of_getElem? e1
    rcases z with z | z | z
    · exact (S.mok.pF l z).2 hm
    · exact S.mok.FO l z hm
    · obtain ⟨j, hj⟩ := List.getElem?_of_mem z
      obtain ⟨n, h2⟩ := hset j l hj
      exact n (S.mok.nd i j l e1 h2)
  refine ⟨⟨by rw [List.length_set]; exact S.len, by show (M.O.set i none).length = _; rw [List.length_set, List.length_set]; exact S.olen, ⟨fun a h => S.mok.live a (has a h), fun a h => ⟨(S.mok.pF a h).1, fun z => (S.mok.pF a h).2 (hO a z)⟩, fun a h z => S.mok.FO a h (hO a z), fun j k a h1 h2 => S.mok.nd j k a (hset j a h1).2 (hset k a h2).2, S.mok.tbU rfl (fun _ _ _ z => z) sc⟩, fun j s h => ?_⟩, ⟨rfl, rfl, fun a o z c d => ⟨z, fun y => d (hO a y)⟩⟩⟩
  by_cases e : i = j
  · subst e
    rw [List.getElem?_set_self (by rw [← S.len]; exact S.slot hs)] at h
    have h := Option.some.inj h
    subst h
    exact ⟨o0, h0, .ref l, e0, .lst (.inl (.inl (cut_at nl e2))) (e3.mono sc)⟩
  · rw [List.getElem?_set_ne e] at h
    obtain ⟨o, h1, h2⟩ := S.ok j s h
    refine ⟨o, h1, ?_⟩
    cases s with
    | any => trivial
    | dat d => obtain ⟨v, a1, a2⟩ := h2; exact ⟨v, a1, a2.mono sc⟩
    | val u d => obtain ⟨a1, a2⟩ := h2; exact ⟨a1, a2.mono sc⟩
    | own es =>
      obtain ⟨l', ws', a1, a2, a3, a4⟩ := h2
      exact ⟨l', ws', a1, by show (M.O.set i none)[j]? = _; rw [List.getElem?_set_ne e]; exact a2, a3, a4.mono sc⟩
    | obj C0 b0 ns0 es =>
      obtain ⟨l', dx0, ws', a1, a2, a3, a5, a4⟩ := h2
      exact ⟨l', dx0, ws', a1, by show (M.O.set i none)[j]? = _; rw [List.getElem?_set_ne e]; exact a2, a3, a5, a4.mono sc⟩
    | ownd es =>
      obtain ⟨l', ws', a1, a2, a3, a4⟩ := h2
      exact ⟨l', ws', a1, by show (M.O.set i none)[j]? = _; rw [List.getElem?_set_ne e]; exact a2, a3, a4.mono sc⟩
    | pen m =>
      obtain ⟨p', a1, a2, l', ns, c, g, b1, b2, b3⟩ := h2
      exact ⟨p', a1, a2, l', ns, c, g, b1, sc.seq b2, b3⟩
    | pown es => obtain ⟨p', ws', a1, a2, a3, a4⟩ := h2; exact ⟨p', ws', a1, a2, a3, a4.mono sc⟩
theorem ws_freeze {ds : List Dt} (hs : ρ[i]? = some (.own ds)) (h : Ws K t (ρ.set i (.dat (.lst ds))) D) : Ws K t ρ D := fun M σ H S E k =>
  let ⟨S2, s2⟩ := S.freeze hs
  h _ σ H S2 E (k.step s2)
/-- a datum that stands nowhere -/
def flatD : Dt → Bool
  | .non | .bl _ | .int _ | .str _ => true
  | _ => false
theorem flat_any {d : Dt} (f : flatD d = true) {H H' : Hp} {v : V} (x : DX K H v d) : DX K H' v d := by
  cases d with
  | non => cases x; exact .non
  | bl b => cases x; exact .bl b
  | int i => cases x; exact .int i
  | str z => cases x; exact .str z
  | _ => cases f
theorem wp_thaw {ds : List Dt} {Φ : Dt → List Sl → Prop} {pf : Bool} (hs : ρ[i]? = some (.own ds)) (h : Wp K true te (ρ.set i (.dat (.lst ds))) fun d _ => flatD d = true ∧ Φ d ρ) : Wp K pf te ρ Φ := fun M σ H S Q q =>
  let ⟨S2, _⟩ := S.freeze hs
  h _ σ H S2 Q fun v H2 d ρ' s S3 x ⟨f, z⟩ => q v H2 d ρ (Tr.same pf M (s.sm rfl)) (S.same (s.sm rfl)) (flat_any f x) z
theorem wt_thaw {ds : List Dt} {Φ : Bool → List Sl → Prop} {pf : Bool} (hs : ρ[i]? = some (.own ds)) (h : Wt K true tt (ρ.set i (.dat (.lst ds))) fun b _ => Φ b ρ) : Wt K pf tt ρ Φ := fun M σ H S Q q =>
  let ⟨S2, _⟩ := S.freeze hs
  h _ σ H S2 Q fun b H2 ρ' s S3 z => q b H2 ρ (Tr.same pf M (s.sm rfl)) (S.same (s.sm rfl)) z
/-! dicts of one's own -/
theorem Sd.ownd {M : Md} {H : Hp} {σ : L2.St} {q : Addr} {vs : List (Key × V)} {ds : List (Key × Dt)} (S : Sd K M H σ ρ) (hi : i < ρ.length) (hq : ¬ M.has q) (hH : H q = some (.dK vs))
    (x : DXk K (cut { M with F := q :: M.F } H) vs ds) (hS : Sd K { M with F := q :: M.F } H σ ρ) : Sd K { M with O := M.O.set i (some q) } H (σ.set i (some (.ref q))) (ρ.set i (.ownd ds)) := by
  have hO : ∀ a, some a ∈ M.O.set i (some q) → a = q ∨ some a ∈ M.O := fun a h => by
    rcases List.mem_or_eq_of_mem_set h with z | z
    · exact .inr z
    · exact .inl (Option.some.inj z)
  have has : ∀ a, ({ M with O := M.O.set i (some q) } : Md).has a → ({ M with F := q :: M.F } : Md).has a := fun a h => by
    rcases h with h | h | h
    · exact .inl h
    · exact .inr (.inl (List.mem_cons_of_mem _ h))
    · rcases hO a h with z | z
      · exact .inr (.inl (by rw [z]; exact List.mem_cons_self))
      · exact .inr (.inr z)
  have sc : Same (cut { M with F := q :: M.F } H) (cut { M with O := M.O.set i (some q) } H) := cut_le has
  have hset : ∀ (j : Nat) (a : Addr), (M.O.set i (some q))[j]? = some (some a) → (i = j ∧ a = q) ∨ (i ≠ j ∧ M.O[j]? = some (some a)) := fun j a h => by
    by_cases e : i = j
    · subst e
      rw [List.getElem?_set_self (by rw [S.olen]; exact hi)] at h
      exact .inl ⟨rfl, (Option.some.inj (Option.some.inj h)).symm⟩
    · rw [List.getElem?_set_ne e] at h
      exact .inr ⟨e, h⟩
  refine ⟨by rw [List.length_set, List.length_set]; exact S.len, by show (M.O.set i (some q)).length = _; rw [List.length_set, List.length_set]; exact S.olen, ⟨fun a h => hS.mok.live a (has a h), fun a h => ⟨(S.mok.pF a h).1, fun z => ?_⟩, fun a h z => ?_, fun j k a h1 h2 => ?_, hS.mok.tbU rfl (fun _ _ _ z => z) sc⟩, fun j s h => ?_⟩
  · rcases hO a z with z | z
    · exact hq (.inl (by rw [← z]; exact h))
    · exact (S.mok.pF a h).2 z
  · rcases hO a z with z | z
    · exact hq (.inr (.inl (by rw [← z]; exact h)))
    · exact S.mok.FO a h z
  · rcases hset j a h1 with ⟨e1, z1⟩ | ⟨e1, z1⟩
    · rcases hset k a h2 with ⟨e2, z2⟩ | ⟨e2, z2⟩
      · rw [← e1, ← e2]
      · exact (hq (.inr (.inr (by rw [← z1]; exact List.mem_of_getElem? z2)))).elim
    · rcases hset k a h2 with ⟨e2, z2⟩ | ⟨e2, z2⟩
      · exact (hq (.inr (.inr (by rw [← z2]; exact List.mem_of_getElem? z1)))).elim
      · exact S.mok.nd j k a z1 z2
  · by_cases e : i = j
    · subst e
      rw [List.getElem?_set_self hi] at h
      have h := Option.some.inj h
      subst h
      exact ⟨_, List.getElem?_set_self (by rw [S.len]; exact hi), q, vs, rfl, List.getElem?_set_self (by rw [S.olen]; exact hi), hH, x.mono sc⟩
    · rw [List.getElem?_set_ne e] at h
      obtain ⟨o, h1, h2⟩ := hS.ok j s h
      refine ⟨o, by rw [List.getElem?_set_ne e]; exact h1, ?_⟩
      cases s with
      | any => trivial
      | dat d => obtain ⟨v, a1, a2⟩ := h2; exact ⟨v, a1, a2.mono sc⟩
      | val u d => obtain ⟨a1, a2⟩ := h2; exact ⟨a1, a2.mono sc⟩
      | own es =>
        obtain ⟨l, ws, a1, a2, a3, a4⟩ := h2
        exact ⟨l, ws, a1, by show (M.O.set i (some q))[j]? = _; rw [List.getElem?_set_ne e]; exact a2, a3, a4.mono sc⟩
      | obj C0 b0 ns0 es =>
        obtain ⟨l, dx0, ws, a1, a2, a3, a5, a4⟩ := h2
        exact ⟨l, dx0, ws, a1, by show (M.O.set i (some q))[j]? = _; rw [List.getElem?_set_ne e]; exact a2, a3, a5, a4.mono sc⟩
      | ownd es =>
        obtain ⟨l, ws, a1, a2, a3, a4⟩ := h2
        exact ⟨l, ws, a1, by show (M.O.set i (some q))[j]? = _; rw [List.getElem?_set_ne e]; exact a2, a3, a4.mono sc⟩
      | pen m =>
        obtain ⟨p', a1, a2, l, ns, c, g, b1, b2, b3⟩ := h2
        exact ⟨p', a1, a2, l, ns, c, g, b1, sc.seq b2, b3⟩
      | pown es => obtain ⟨p', ws, a1, a2, a3, a4⟩ := h2; exact ⟨p', ws, a1, a2, a3, a4.mono sc⟩
theorem Sd.writed {M : Md} {H : Hp} {σ : L2.St} {l : Addr} {vs ws : List (Key × V)} {ds es : List (Key × Dt)} (S : Sd K M H σ ρ) (hs : ρ[i]? = some (.ownd ds)) (hl : M.O[i]? = some (some l)) (x : DXk K (cut M H) ws es) :
    Sd K M (upd H l (.dK ws)) σ (ρ.set i (.ownd es)) ∧ Stp M H M (upd H l (.dK ws)) := by
  have hm : some l ∈ M.O := List.mem_of_getElem? hl
  have sc : Same (cut M H) (cut M (upd H l (.dK ws))) := fun a u z => by
    obtain ⟨c, y⟩ := cut_of z
    exact cut_at c (by rw [upd_ne fun n => c (.inr (.inr (by rw [n]; exact hm)))]; exact y)
  obtain ⟨o0, h0, l0, vs0, e0, e1, e2, e3⟩ := S.ok i _ hs
  have el : l0 = l := Option.some.inj (Option.some.inj (e1.symm.trans hl))
  subst el
  refine ⟨⟨by rw [List.length_set]; exact S.len, by rw [List.length_set]; exact S.olen, ⟨fun a h => ?_, S.mok.pF, S.mok.FO, S.mok.nd, S.mok.tbU rfl (fun a ha _ z => by rw [upd_ne fun n => (S.mok.pF a ha).2 (by rw [n]; exact hm)]; exact z) sc⟩, fun j s h => ?_⟩, ⟨rfl, rfl, fun a o z c d => ⟨?_, d⟩⟩⟩
  · by_cases n : a = l0
    · exact ⟨_, by rw [n]; exact upd_same⟩
    · obtain ⟨u, z⟩ := S.mok.live a h
      exact ⟨u, by rw [upd_ne n]; exact z⟩
  · by_cases e : i = j
    · subst e
      rw [List.getElem?_set_self (by rw [← S.len]; exact S.slot hs)] at h
      have h := Option.some.inj h
      subst h
      exact ⟨o0, h0, l0, ws, e0, e1, upd_same, x.mono sc⟩
    · rw [List.getElem?_set_ne e] at h
      obtain ⟨o, h1, h2⟩ := S.ok j s h
      refine ⟨o, h1, ?_⟩
      cases s with
      | any => trivial
      | dat d => obtain ⟨v, a1, a2⟩ := h2; exact ⟨v, a1, a2.mono sc⟩
      | val u d => obtain ⟨a1, a2⟩ := h2; exact ⟨a1, a2.mono sc⟩
      | own es =>
        obtain ⟨l', ws', a1, a2, a3, a4⟩ := h2
        exact ⟨l', ws', a1, a2, by rw [upd_ne fun n => e (S.mok.nd i j l0 e1 (by rw [← n]; exact a2))]; exact a3, a4.mono sc⟩
      | obj C0 b0 ns0 es =>
        obtain ⟨l', dx0, ws', a1, a2, a3, a5, a4⟩ := h2
        exact ⟨l', dx0, ws', a1, a2, by rw [upd_ne fun n => e (S.mok.nd i j l0 e1 (by rw [← n]; exact a2))]; exact a3, a5, a4.mono sc⟩
      | ownd es =>
        obtain ⟨l', ws', a1, a2, a3, a4⟩ := h2
        exact ⟨l', ws', a1, a2, by rw [upd_ne fun n => e (S.mok.nd i j l0 e1 (by rw [← n]; exact a2))]; exact a3, a4.mono sc⟩
      | pen m =>
        obtain ⟨p', a1, a2, l', ns, c, g, b1, b2, b3⟩ := h2
        exact ⟨p', a1, a2, l', ns, c, g, by rw [upd_ne fun n => (S.mok.pp a2).2 (by rw [n]; exact hm)]; exact b1, sc.seq b2, b3⟩
      | pown es => obtain ⟨p', ws', a1, a2, a3, a4⟩ := h2; exact ⟨p', ws', a1, a2, by rw [upd_ne fun n => (S.mok.pp a2).2 (by rw [n]; exact hm)]; exact a3, a4.mono sc⟩
  · rw [upd_ne fun n => d (by rw [n]; exact hm)]; exact z
end
end DL

/-! Data level: what is walked, for, comprehensions. -/
namespace DL
open PySem PySem.Spec PyProof.Rows L2
variable [Tb]

/-- a walk over data -/
structure WkOk (K : PySem.W.Frag) (M : Md) (H1 : Hp) (J : It) (ds : List Dt) : Prop where
  ex : ∃ n G Y, Walk J n G Y ∧ n = ds.length ∧ (∀ M' H', Same (cut M H1) (cut M' H') → G H') ∧
    ∀ M' H' i x H'', Same (cut M H1) (cut M' H') → MOk M' H' → i < n → Y i H' x H'' → Same H' H'' ∧ ∃ d, ds[i]? = some d ∧ DX K (cut M' H'') x d
def WI (K : PySem.W.Frag) (f : Bool) (wi : TI) (ρ : List Sl) (Ψ : List Dt → List Sl → Prop) : Prop :=
  ∀ (M : Md) (σ : L2.St) (H : Hp), Sd K M H σ ρ → ∀ R : It → Hp → Prop, (∀ J H1 ds ρ1, Tr f M H H1 → Sd K M H1 σ ρ1 → WkOk K M H1 J ds → Ψ ds ρ1 → R J H1) → wi σ H R
/-- a target; js: the slots that it sets -/
def WG (K : PySem.W.Frag) (g : TG) (js : List Nat) (d : Dt) (ρ : List Sl) (Θ : List Sl → Prop) : Prop :=
  ∀ (M : Md) (σ : L2.St) (H : Hp) (v : V), Sd K M H σ ρ → DX K (cut M H) v d → ∀ Q : L2.St → Hp → Prop,
    (∀ σ' ρ', (∀ vs : List Nat, (∀ j ∈ js, j ∈ vs) → wipe σ' vs = wipe σ vs) → Sd K M H σ' ρ' → Θ ρ' → Q σ' H) → g v σ H Q
theorem wipe_set {σ : L2.St} {j : Nat} {o : Option V} : ∀ {vs : List Nat}, j ∈ vs → wipe (σ.set j o) vs = wipe σ vs
  | [], h => nomatch h
  | v :: vs, h => by
    show (wipe (σ.set j o) vs).set v none = (wipe σ vs).set v none
    by_cases e : j ∈ vs
    · rw [wipe_set e]
    · have e2 : j = v := by
        rcases List.mem_cons.mp h with z | z
        · exact z
        · exact (e z).elim
      subst e2
      have out : ∀ (us : List Nat), j ∉ us → ∀ τ : L2.St, wipe (τ.set j o) us = (wipe τ us).set j o := by
        intro us
        induction us with
        | nil => intro _ τ; rfl
        | cons u us ih =>
          intro hn τ
          show (wipe (τ.set j o) us).set u none = ((wipe τ us).set u none).set j o
          rw [ih (fun z => hn (List.mem_cons_of_mem _ z)) τ, List.set_comm _ _ (fun z => hn (by rw [z]; exact List.mem_cons_self))]
      rw [out vs e, List.set_set]
theorem wipe_wipe (σ : L2.St) (vs : List Nat) : wipe (wipe σ vs) vs = wipe σ vs := by
  have one : ∀ (us : List Nat) (τ : L2.St), (∀ u ∈ us, u ∈ vs) → wipe (wipe τ us) vs = wipe τ vs := by
    intro us
    induction us with
    | nil => intro τ _; rfl
    | cons u us ih =>
      intro τ h
      show wipe ((wipe τ us).set u none) vs = _
      rw [wipe_set (h u List.mem_cons_self), ih τ fun x hx => h x (List.mem_cons_of_mem _ hx)]
  exact one vs σ fun _ h => h

section
variable {K : PySem.W.Frag} {ρ : List Sl} {te ti : TE} {tt : TT} {tr : TA} {t u : TS} {D : DE} {i j : Nat} {pf : Bool} {wi : TI} {g : TG} {Ψ : List Dt → List Sl → Prop} {js : List Nat} {Φ : Dt → List Sl → Prop}
theorem wg_name {d : Dt} {Θ : List Sl → Prop} (h : Θ (ρ.set j (.dat d))) : WG K (gName j) [j] d ρ Θ := fun M σ H v S x Q q =>
  q _ _ (fun vs hv => wipe_set (hv j List.mem_cons_self)) (S.put x j) h
/-- several names -/
def WGs (K : PySem.W.Frag) (g : TGs) (js : List Nat) (ds : List Dt) (ρ : List Sl) (Θ : List Sl → Prop) : Prop :=
  ∀ (M : Md) (σ : L2.St) (H : Hp) (vs : List V), Sd K M H σ ρ → DXs K (cut M H) vs ds → ∀ Q : L2.St → Hp → Prop,
    (∀ σ' ρ', (∀ vs : List Nat, (∀ j ∈ js, j ∈ vs) → wipe σ' vs = wipe σ vs) → Sd K M H σ' ρ' → Θ ρ' → Q σ' H) → g vs σ H Q
theorem wgs_nil {Θ : List Sl → Prop} (h : Θ ρ) : WGs K gNil [] [] ρ Θ := fun M σ H vs S x Q q => by
  cases x
  exact ⟨rfl, q σ ρ (fun _ _ => rfl) S h⟩
theorem wgs_cons {g : TG} {gs : TGs} {js ks : List Nat} {d : Dt} {ds : List Dt} {Θ : List Sl → Prop} (h : WG K g js d ρ fun ρ1 => WGs K gs ks ds ρ1 Θ) : WGs K (gCons g gs) (js ++ ks) (d :: ds) ρ Θ := fun M σ H vs S x Q q => by
  cases x with
  | cons x1 x2 =>
    refine ⟨_, _, rfl, h M σ H _ S x1 _ fun σ1 ρ1 w1 S1 f1 => ?_⟩
    exact f1 M σ1 H _ S1 x2 _ fun σ2 ρ2 w2 S2 f2 => q σ2 ρ2 (fun vs hv => (w2 vs fun j hj => hv j (List.mem_append_right _ hj)).trans (w1 vs fun j hj => hv j (List.mem_append_left _ hj))) S2 f2
theorem wg_tup {gs : TGs} {n : Nat} {ds : List Dt} {Θ : List Sl → Prop} (hn : ds.length = n) (h : WGs K gs js ds ρ Θ) : WG K (gTup K n gs) js (.tup ds) ρ Θ := fun M σ H v S x Q q => by
  cases x with
  | tup hs ha => exact ⟨_, _, rfl, same_T (cut_sub M H) hs, by rw [ha.len]; exact hn, h M σ H _ S ha Q q⟩

/-! what is walked -/
theorem wi_list (h : Wp K pf te ρ fun d ρ1 => ∃ ds, d = .lst ds ∧ Ψ ds ρ1) : WI K pf (iList K te) ρ Ψ := fun M σ H S R q =>
  h M σ H S _ fun v H1 d ρ1 s1 S1 x1 ⟨ds, e, f⟩ => by
    subst e
    cases x1 with
    | lst hs ha =>
      refine ⟨_, rfl, ⟨_, (cut_sub M H1).seq hs⟩, q _ H1 ds ρ1 s1 S1 ⟨_, _, _, walk_list, ha.len, fun M' H' s => (cut_sub M' H').seq (s.seq hs), fun M' H' i x H'' s m hi y => ?_⟩ f⟩
      obtain ⟨e1, e2⟩ := y
      subst e1
      obtain ⟨d, g1, g2⟩ := ha.get e2
      exact ⟨Same.refl _, d, g1, g2.mono s⟩
theorem wi_tup (h : Wp K pf te ρ fun d ρ1 => ∃ ds, d = .tup ds ∧ Ψ ds ρ1) : WI K pf (iTup K te) ρ Ψ := fun M σ H S R q =>
  h M σ H S _ fun v H1 d ρ1 s1 S1 x1 ⟨ds, e, f⟩ => by
    subst e
    cases x1 with
    | tup hs ha =>
      refine ⟨_, rfl, ⟨_, same_T (cut_sub M H1) hs⟩, q _ H1 ds ρ1 s1 S1 ⟨_, _, _, walk_tup, ha.len, fun M' H' s => same_T (cut_sub M' H') (same_T s hs), fun M' H' i x H'' s m hi y => ?_⟩ f⟩
      obtain ⟨e1, e2⟩ := y
      subst e1
      obtain ⟨d, g1, g2⟩ := ha.get e2
      exact ⟨Same.refl _, d, g1, g2.mono s⟩
def rangeD (lo : Int) (n : Nat) : List Dt := (List.range n).map fun i => .int (lo + (i : Nat))
theorem rangeD_len (lo : Int) (n : Nat) : (rangeD lo n).length = n := by unfold rangeD; rw [List.length_map, List.length_range]
theorem rangeD_at {lo : Int} {n i : Nat} (h : i < n) : (rangeD lo n)[i]? = some (.int (lo + (i : Nat))) := by
  unfold rangeD
  rw [List.getElem?_map, List.getElem?_range h]
  rfl
theorem wi_rng1 (h : Wa K pf tr ρ fun ds ρ1 => ∃ n : Int, ds = [.int n] ∧ -(2 ^ 62) ≤ n ∧ n < 2 ^ 62 ∧ Ψ (rangeD 0 n.toNat) ρ1) : WI K pf (iRng1 tr) ρ Ψ := fun M σ H S R q =>
  h M σ H S _ fun vs H1 ds ρ1 s1 S1 x1 ⟨n, e, h1, h2, f⟩ => by
    subst e
    have ev : vs = [.int n] := DXs.ints (ns := [n]) x1
    refine ⟨n, ev, h1, h2, q _ H1 _ ρ1 s1 S1 ⟨_, _, _, walk_range, (rangeD_len 0 n.toNat).symm, fun _ _ _ => trivial, fun M' H' i x H'' s m hi y => ?_⟩ f⟩
    obtain ⟨e1, e2⟩ := y
    subst e1 e2
    exact ⟨Same.refl _, _, rangeD_at hi, .int _⟩
theorem wi_rng2 (h : Wa K pf tr ρ fun ds ρ1 => ∃ lo n : Int, ds = [.int lo, .int n] ∧ (-(2 ^ 62) ≤ lo ∧ lo < 2 ^ 62 ∧ -(2 ^ 62) ≤ n ∧ n < 2 ^ 62) ∧ Ψ (rangeD lo (n - lo).toNat) ρ1) : WI K pf (iRng2 tr) ρ Ψ := fun M σ H S R q =>
  h M σ H S _ fun vs H1 ds ρ1 s1 S1 x1 ⟨lo, n, e, h1, f⟩ => by
    subst e
    have ev : vs = [.int lo, .int n] := DXs.ints (ns := [lo, n]) x1
    refine ⟨lo, n, ev, h1, q _ H1 _ ρ1 s1 S1 ⟨_, _, _, walk_range, (rangeD_len lo (n - lo).toNat).symm, fun _ _ _ => trivial, fun M' H' i x H'' s m hi y => ?_⟩ f⟩
    obtain ⟨e1, e2⟩ := y
    subst e1 e2
    exact ⟨Same.refl _, _, rangeD_at hi, .int _⟩
def signs (z : Str) : List Dt := z.cps.toList.map fun c => .str ⟨#[c]⟩
theorem wi_str (h : Wp K pf te ρ fun d ρ1 => ∃ z, d = .str z ∧ Ψ (signs z) ρ1) : WI K pf (iStr te) ρ Ψ := fun M σ H S R q =>
  h M σ H S _ fun v H1 d ρ1 s1 S1 x1 ⟨z, e, f⟩ => by
    subst e
    refine ⟨z, x1.str_eq, q _ H1 _ ρ1 s1 S1 ⟨_, _, _, walk_str, by unfold signs; rw [List.length_map, Array.length_toList], fun _ _ _ => trivial, fun M' H' i x H'' s m hi y => ?_⟩ f⟩
    obtain ⟨e1, c, e2, e3⟩ := y
    subst e1 e3
    refine ⟨Same.refl _, _, ?_, .str _⟩
    unfold signs
    rw [List.getElem?_map, Array.getElem?_toList, e2]
    rfl

/-! for -/
theorem for_at (I : List Dt → Nat → List Sl → Prop) (M : Md) (σ : L2.St) (H : Hp) (h : ∀ R : It → Hp → Prop, (∀ J H1 ds ρ1, Tr pf M H H1 → Sd K M H1 σ ρ1 → WkOk K M H1 J ds → (I ds 0 ρ1 ∧ (∀ i d ρ2, ds[i]? = some d → I ds i ρ2 → WG K g js d ρ2 fun ρ3 => Ws K t ρ3 { D with nx := I ds (i + 1), ct := I ds (i + 1), bk := D.nx }) ∧
    ∀ ρ2, I ds ds.length ρ2 → D.nx ρ2) → R J H1) → wi σ H R) (E : Ends) (k : EOk K M H E D) : tFor wi g t E σ H :=
  h _ fun J H1 ds ρ1 s1 S1 ⟨n, G, Y, w, hn, hG, hY⟩ ⟨i0, turn, fin⟩ => by
    subst hn
    refine for_it w (fun i σ' H' => ∃ M' ρ', Stp M H1 M' H' ∧ Sd K M' H' σ' ρ' ∧ I ds i ρ') ⟨M, ρ1, Stp.refl M H1, S1, i0⟩ (fun i σ' H' _ ⟨M', ρ', s, _, _⟩ => hG M' H' s.dx) (fun i x σ' H' H'' hi ⟨M', ρ', s, S', f⟩ y => ?_) (fun σ' H' ⟨M', ρ', s, S', f⟩ => k.nx M' σ' H' ρ' (s1.st.trans s) S' (fin ρ' f))
    obtain ⟨e, d, hd, xd⟩ := hY M' H' i x H'' s.dx S'.mok hi y
    refine turn i d ρ' hd f M' σ' H'' x (S'.same e) xd _ fun σ2 ρ2 _ S2 f2 => ?_
    have s2 : Stp M H1 M' H'' := s.trans (Stp.same M' e)
    have k2 := k.step (s1.st.trans s2)
    exact f2 M' σ2 H'' S2 _ ⟨fun M3 σ3 H3 ρ3 s3 S3 z => ⟨M3, ρ3, s2.trans s3, S3, z⟩, k2.rt, fun M3 σ3 H3 ρ3 s3 S3 z => k2.nx M3 σ3 H3 ρ3 s3 S3 z, fun M3 σ3 H3 ρ3 s3 S3 z => ⟨M3, ρ3, s2.trans s3, S3, z⟩, k2.ex⟩

theorem ws_for (I : List Dt → Nat → List Sl → Prop) (h : WI K pf wi ρ fun ds ρ1 => I ds 0 ρ1 ∧ (∀ i d ρ2, ds[i]? = some d → I ds i ρ2 → WG K g js d ρ2 fun ρ3 => Ws K t ρ3 { D with nx := I ds (i + 1), ct := I ds (i + 1), bk := D.nx }) ∧
    ∀ ρ2, I ds ds.length ρ2 → D.nx ρ2) : Ws K (tFor wi g t) ρ D := fun M σ H S E k => for_at I M σ H (h M σ H S) E k

/-! comprehensions -/
def wipeS (ρ : List Sl) : List Nat → List Sl
  | [] => ρ
  | v :: vs => (wipeS ρ vs).set v .any
theorem wipeS_len (ρ : List Sl) : ∀ vs : List Nat, (wipeS ρ vs).length = ρ.length
  | [] => rfl
  | v :: vs => by unfold wipeS; rw [List.length_set, wipeS_len ρ vs]
theorem wipeS_at {ρ : List Sl} {s : Sl} : ∀ {vs : List Nat} {i : Nat}, (wipeS ρ vs)[i]? = some s → s = .any ∨ (i ∉ vs ∧ ρ[i]? = some s)
  | [], i, h => .inr ⟨(fun z => nomatch z), h⟩
  | v :: vs, i, h => by
    have h : ((wipeS ρ vs).set v .any)[i]? = some s := h
    by_cases e : v = i
    · subst e
      by_cases hv : v < (wipeS ρ vs).length
      · rw [List.getElem?_set_self hv] at h
        exact .inl (Option.some.inj h).symm
      · rw [List.getElem?_eq_none (by rw [List.length_set]; omega)] at h; cases h
    · rw [List.getElem?_set_ne e] at h
      rcases wipeS_at h with z | ⟨z, y⟩
      · exact .inl z
      · refine .inr ⟨fun m => ?_, y⟩
        rcases List.mem_cons.mp m with m | m
        · exact e m.symm
        · exact z m
theorem wipe_at {σ : L2.St} : ∀ {vs : List Nat} {i : Nat}, i ∉ vs → (wipe σ vs)[i]? = σ[i]?
  | [], _, _ => rfl
  | v :: vs, i, h => by
    show ((wipe σ vs).set v none)[i]? = _
    rw [List.getElem?_set_ne (fun e => h (by rw [e]; exact List.mem_cons_self)), wipe_at fun z => h (List.mem_cons_of_mem _ z)]
theorem Sd.wipe {M : Md} {H : Hp} {σ : L2.St} (S : Sd K M H σ ρ) (vs : List Nat) : Sd K M H (L2.wipe σ vs) (wipeS ρ vs) := by
  refine ⟨by rw [wipe_length, wipeS_len]; exact S.len, by rw [wipeS_len]; exact S.olen, S.mok, fun i s h => ?_⟩
  rcases wipeS_at h with e | ⟨e, h⟩
  · subst e
    have hi : i < (L2.wipe σ vs).length := by rw [wipe_length, S.len, ← wipeS_len ρ vs]; exact (List.getElem?_eq_some_iff.mp h).1
    exact ⟨_, List.getElem?_eq_getElem hi, trivial⟩
  · obtain ⟨o, h1, h2⟩ := S.ok i s h
    exact ⟨o, by rw [wipe_at e]; exact h1, h2⟩
theorem Sd.unwipe {M : Md} {H : Hp} {σ : L2.St} {vs : List Nat} {ρ0 : List Sl} (S : Sd K M H (L2.wipe σ vs) (wipeS ρ0 vs)) : Sd K M H σ (wipeS ρ0 vs) := by
  refine ⟨by rw [← wipe_length σ vs]; exact S.len, S.olen, S.mok, fun i s h => ?_⟩
  rcases wipeS_at h with e | ⟨e, _⟩
  · subst e
    have hi : i < σ.length := by rw [← wipe_length σ vs, S.len]; exact (List.getElem?_eq_some_iff.mp h).1
    exact ⟨_, List.getElem?_eq_getElem hi, trivial⟩
  · obtain ⟨o, h1, h2⟩ := S.ok i s h
    exact ⟨o, by rw [← wipe_at (σ := σ) e]; exact h1, h2⟩
theorem Sd.back {M : Md} {H : Hp} {σ : L2.St} {q : Addr} (S : Sd K { M with F := q :: M.F } H σ ρ) : Sd K M H σ ρ := by
  have has : ∀ a, M.has a → ({ M with F := q :: M.F } : Md).has a := fun a h => by
    rcases h with h | h | h
    · exact .inl h
    · exact .inr (.inl (List.mem_cons_of_mem _ h))
    · exact .inr (.inr h)
  have sc : Same (cut { M with F := q :: M.F } H) (cut M H) := cut_le has
  refine ⟨S.len, S.olen, ⟨fun a h => S.mok.live a (has a h), fun a h => ⟨fun z => (S.mok.pF a h).1 (List.mem_cons_of_mem _ z), (S.mok.pF a h).2⟩, fun a h => S.mok.FO a (List.mem_cons_of_mem _ h), S.mok.nd, S.mok.tbU rfl (fun _ _ _ z => z) sc⟩, fun j s h => ?_⟩
  obtain ⟨o, h1, h2⟩ := S.ok j s h
  refine ⟨o, h1, ?_⟩
  cases s with
  | any => trivial
  | dat d => obtain ⟨v, a1, a2⟩ := h2; exact ⟨v, a1, a2.mono sc⟩
  | val u d => obtain ⟨a1, a2⟩ := h2; exact ⟨a1, a2.mono sc⟩
  | own es => obtain ⟨l', ws', a1, a2, a3, a4⟩ := h2; exact ⟨l', ws', a1, a2, a3, a4.mono sc⟩
  | obj C0 b0 ns0 es => obtain ⟨l', dx0, ws', a1, a2, a3, a5, a4⟩ := h2; exact ⟨l', dx0, ws', a1, a2, a3, a5, a4.mono sc⟩
  | ownd es => obtain ⟨l', ws', a1, a2, a3, a4⟩ := h2; exact ⟨l', ws', a1, a2, a3, a4.mono sc⟩
  | pen m => obtain ⟨p', a1, a2, l', ns, c, g, b1, b2, b3⟩ := h2; exact ⟨p', a1, a2, l', ns, c, g, b1, sc.seq b2, b3⟩
  | pown es => obtain ⟨p', ws', a1, a2, a3, a4⟩ := h2; exact ⟨p', ws', a1, a2, a3, a4.mono sc⟩
/-- the heap at q may be written while q is set aside -/
theorem Sd.poke {M : Md} {H : Hp} {σ : L2.St} {q : Addr} {o : HO} (S : Sd K { M with F := q :: M.F } H σ ρ) : Sd K { M with F := q :: M.F } (upd H q o) σ ρ := by
  have hq : ({ M with F := q :: M.F } : Md).has q := .inr (.inl List.mem_cons_self)
  have sc : Same (cut { M with F := q :: M.F } H) (cut { M with F := q :: M.F } (upd H q o)) := fun a u z => by
    obtain ⟨c, y⟩ := cut_of z
    exact cut_at c (by rw [upd_ne fun n => c (by rw [n]; exact hq)]; exact y)
  refine ⟨S.len, S.olen, ⟨fun a h => ?_, S.mok.pF, S.mok.FO, S.mok.nd, S.mok.tbU rfl (fun a ha _ z => by rw [upd_ne fun n => (S.mok.pF a ha).1 (by rw [n]; exact List.mem_cons_self)]; exact z) sc⟩, fun j s h => ?_⟩
  · by_cases n : a = q
    · exact ⟨_, by rw [n]; exact upd_same⟩
    · obtain ⟨u, z⟩ := S.mok.live a h
      exact ⟨u, by rw [upd_ne n]; exact z⟩
  · obtain ⟨u, h1, h2⟩ := S.ok j s h
    refine ⟨u, h1, ?_⟩
    cases s with
    | any => trivial
    | dat d => obtain ⟨v, a1, a2⟩ := h2; exact ⟨v, a1, a2.mono sc⟩
    | val u d => obtain ⟨a1, a2⟩ := h2; exact ⟨a1, a2.mono sc⟩
    | own es =>
      obtain ⟨l', ws', a1, a2, a3, a4⟩ := h2
      exact ⟨l', ws', a1, a2, by rw [upd_ne fun n => S.mok.FO q List.mem_cons_self (by rw [← n]; exact List.mem_of_getElem? a2)]; exact a3, a4.mono sc⟩
    | obj C0 b0 ns0 es =>
      obtain ⟨l', dx0, ws', a1, a2, a3, a5, a4⟩ := h2
      exact ⟨l', dx0, ws', a1, a2, by rw [upd_ne fun n => S.mok.FO q List.mem_cons_self (by rw [← n]; exact List.mem_of_getElem? a2)]; exact a3, a5, a4.mono sc⟩
    | ownd es =>
      obtain ⟨l', ws', a1, a2, a3, a4⟩ := h2
      exact ⟨l', ws', a1, a2, by rw [upd_ne fun n => S.mok.FO q List.mem_cons_self (by rw [← n]; exact List.mem_of_getElem? a2)]; exact a3, a4.mono sc⟩
    | pen m =>
      obtain ⟨p', a1, a2, l', ns, c, g, b1, b2, b3⟩ := h2
      exact ⟨p', a1, a2, l', ns, c, g, by rw [upd_ne fun n => (S.mok.pp a2).1 (by rw [n]; exact List.mem_cons_self)]; exact b1, sc.seq b2, b3⟩
    | pown es => obtain ⟨p', ws', a1, a2, a3, a4⟩ := h2; exact ⟨p', ws', a1, a2, by rw [upd_ne fun n => (S.mok.pp a2).1 (by rw [n]; exact List.mem_cons_self)]; exact a3, a4.mono sc⟩
/-- the comprehension itself: I by what is walked, the turn, what is made so far, the slots -/
structure LcI (K : PySem.W.Frag) (pf : Bool) (g : TG) (js : List Nat) (tt : TT) (te : TE) (vs : List Nat) (Φ : List Dt → List Sl → Prop) (ds : List Dt) (ρ1 : List Sl) : Prop where
  ex : ∃ I : Nat → List Dt → List Sl → Prop, I 0 [] (wipeS ρ1 vs) ∧ ds.length ≤ 50000 ∧
    (∀ i d acc ρ2, ds[i]? = some d → I i acc ρ2 → WG K g js d ρ2 fun ρ3 => Wt K pf tt ρ3 fun c ρ4 => if c = true then Wp K pf te ρ4 fun y ρ5 => I (i + 1) (acc ++ [y]) (wipeS ρ5 vs) else I (i + 1) acc (wipeS ρ4 vs)) ∧
    ∀ acc ρ2, I ds.length acc ρ2 → Φ acc ρ2
theorem lc_at {vs : List Nat} {Φ : List Dt → List Sl → Prop} (hjs : ∀ j ∈ js, j ∈ vs) (M : Md) (σ : L2.St) (H : Hp) (h : ∀ R : It → Hp → Prop, (∀ J H1 ds ρ1, Tr pf M H H1 → Sd K M H1 σ ρ1 → WkOk K M H1 J ds → LcI K pf g js tt te vs Φ ds ρ1 → R J H1) → wi σ H R) (Q : VK)
    (q : ∀ (q : Addr) (H2 : Hp) (acc : List V) (ads : List Dt) (ρ0 : List Sl), H q = none → Tr pf M H H2 → H2 q = some (.lst acc) → DXs K (cut { M with F := q :: M.F } H2) acc ads →
      Sd K { M with F := q :: M.F } H2 σ (wipeS ρ0 vs) → ¬ M.has q → Φ ads (wipeS ρ0 vs) → Q (.ref q) H2) : tLc wi g tt te vs σ H Q :=
  h _ fun J H1 ds ρ1 s1 S1 ⟨n, G, Y, w, hn, hG, hY⟩ ⟨I, i0, hz, turn, fin⟩ => by
    intro q0 hq
    subst hn
    have nq := S1.mok.new hq
    have hq0 : H q0 = none := by
      cases e : H q0 with
      | none => rfl
      | some o =>
        obtain ⟨z, _⟩ := s1.st.keep q0 o e (fun y => nq (.inl y)) (fun y => nq (.inr (.inr y)))
        rw [hq] at z; cases z
    have comp : ∀ {H' H'' : Hp}, Tr pf M H1 H' → Tr pf { M with F := q0 :: M.F } H' H'' → Tr pf M H1 H'' := fun a b =>
      ⟨⟨rfl, rfl, fun x o e c d => let ⟨z, y⟩ := a.st.keep x o e c d; b.st.keep x o z c y⟩, fun y => (a.sm y).trans (b.sm y)⟩
    have put : ∀ {H' : Hp} {o : HO}, Tr pf M H1 H' → Tr pf M H1 (upd H' q0 o) := fun a =>
      ⟨⟨rfl, rfl, fun x o e c d => let ⟨z, y⟩ := a.st.keep x o e c d; ⟨by rw [upd_ne (ne_of_none e hq)]; exact z, y⟩⟩, fun y x o e => by rw [upd_ne (ne_of_none e hq)]; exact a.sm y x o e⟩
    have scut : ∀ {H' : Hp}, Tr pf M H1 H' → Same (cut M H1) (cut { M with F := q0 :: M.F } H') := fun a x o e => by
      obtain ⟨c, z⟩ := cut_of e
      obtain ⟨y, _⟩ := a.st.keep x o z (fun t => c (.inl t)) (fun t => c (.inr (.inr t)))
      refine cut_at (fun t => ?_) y
      rcases t with t | t | t
      · exact c (.inl t)
      · rcases List.mem_cons.mp t with t | t
        · exact ne_of_none z hq t
        · exact c (.inr (.inl t))
      · exact c (.inr (.inr t))
    refine lc_it w (fun i H' => ∃ acc ads ρ0, H' q0 = some (.lst acc) ∧ Tr pf M H1 H' ∧ Sd K { M with F := q0 :: M.F } H' (L2.wipe σ vs) (wipeS ρ0 vs) ∧ DXs K (cut { M with F := q0 :: M.F } H') acc ads ∧ I i ads (wipeS ρ0 vs) ∧ ads.length ≤ i) ?_ ?_ ?_ ?_
    · exact ⟨[], [], ρ1, upd_same, put (Tr.refl pf M H1), (S1.aside hq (same_new hq) upd_same).wipe vs, .nil, i0, Nat.zero_le _⟩
    · rintro i H' _ ⟨acc, ads, ρ0, _, tr, _⟩
      exact hG _ H' (scut tr)
    · rintro i x H' H'' hi ⟨acc, ads, ρ0, hD, tr, S', xa, f, hl⟩ y
      obtain ⟨e, d, hd, xd⟩ := hY _ H' i x H'' (scut tr) S'.mok hi y
      refine turn i d ads _ hd f _ _ H'' x (S'.same e) xd _ fun σ2 ρ2 w2 S2 f2 => ⟨by rw [w2 vs hjs, wipe_wipe], ?_⟩
      have tr2 : Tr pf M H1 H'' := comp tr (Tr.same pf _ e)
      have w3 : L2.wipe σ2 vs = L2.wipe σ vs := by rw [w2 vs hjs, wipe_wipe]
      refine f2 _ σ2 H'' S2 _ fun b H3 ρ3 s3 S3 f3 => ?_
      have tr3 := comp tr2 s3
      cases b with
      | true =>
        rw [if_pos rfl] at f3 ⊢
        refine f3 _ σ2 H3 S3 _ fun v H4 d4 ρ4 s4 S4 x4 f4 => ?_
        have tr4 := comp tr3 s4
        have kq : ∀ {Ha Hb : Hp} {o : HO}, Tr pf { M with F := q0 :: M.F } Ha Hb → Ha q0 = some o → Hb q0 = some o := fun a z => (a.st.keep q0 _ z (fun t => nq (.inl t)) (fun t => nq (.inr (.inr t)))).1
        refine ⟨acc, kq s4 (kq s3 (e _ _ hD)), ?_, acc ++ [v], ads ++ [d4], ρ4, upd_same, put tr4, ?_, ?_, f4, ?_⟩
        · rw [xa.len]; exact Nat.lt_of_le_of_lt hl (Nat.lt_of_lt_of_le hi (Nat.le_trans hz (by decide)))
        · rw [← w3]; exact (S4.wipe vs).poke
        · have pk : Same (cut { M with F := q0 :: M.F } H4) (cut { M with F := q0 :: M.F } (upd H4 q0 (.lst (acc ++ [v])))) := fun a u z => by
            obtain ⟨c, y⟩ := cut_of z
            exact cut_at c (by rw [upd_ne fun n => c (.inr (.inl (by rw [n]; exact List.mem_cons_self)))]; exact y)
          exact (((xa.mono (cut_same _ e)).mono s3.dx).mono s4.dx |>.append (.one x4)).mono pk
        · rw [List.length_append, List.length_singleton]; omega
      | false =>
        rw [if_neg Bool.false_ne_true] at f3 ⊢
        have kq : ∀ {Ha Hb : Hp} {o : HO}, Tr pf { M with F := q0 :: M.F } Ha Hb → Ha q0 = some o → Hb q0 = some o := fun a z => (a.st.keep q0 _ z (fun t => nq (.inl t)) (fun t => nq (.inr (.inr t)))).1
        exact ⟨acc, ads, ρ3, kq s3 (e _ _ hD), tr3, by rw [← w3]; exact S3.wipe vs, (xa.mono (cut_same _ e)).mono s3.dx, f3, Nat.le_succ_of_le hl⟩
    · rintro H' ⟨acc, ads, ρ0, hD, tr, S', xa, f, hl⟩
      exact q q0 H' acc ads ρ0 hq0 (s1.trans tr) hD xa S'.unwipe nq (fin ads _ f)
theorem lc_run {vs : List Nat} {Φ : List Dt → List Sl → Prop} (hjs : ∀ j ∈ js, j ∈ vs) (h : WI K pf wi ρ fun ds ρ1 => LcI K pf g js tt te vs Φ ds ρ1) (M : Md) (σ : L2.St) (H : Hp) (S : Sd K M H σ ρ) (Q : VK)
    (q : ∀ (q : Addr) (H2 : Hp) (acc : List V) (ads : List Dt) (ρ0 : List Sl), H q = none → Tr pf M H H2 → H2 q = some (.lst acc) → DXs K (cut { M with F := q :: M.F } H2) acc ads →
      Sd K { M with F := q :: M.F } H2 σ (wipeS ρ0 vs) → ¬ M.has q → Φ ads (wipeS ρ0 vs) → Q (.ref q) H2) : tLc wi g tt te vs σ H Q := lc_at hjs M σ H (h M σ H S) Q q
theorem has_aside {M : Md} {q : Addr} : ∀ a, M.has a → ({ M with F := q :: M.F } : Md).has a := fun a h => by
  rcases h with h | h | h
  · exact .inl h
  · exact .inr (.inl (List.mem_cons_of_mem _ h))
  · exact .inr (.inr h)
theorem w_lc {vs : List Nat} (hjs : ∀ j ∈ js, j ∈ vs) (h : WI K pf wi ρ fun ds ρ1 => LcI K pf g js tt te vs (fun es ρ' => Φ (.lst es) ρ') ds ρ1) : Wp K pf (tLc wi g tt te vs) ρ Φ := fun M σ H S Q q =>
  lc_run hjs h M σ H S Q fun q0 H2 acc ads ρ0 h0 tr hD xa S2 nq f => q (.ref q0) H2 (.lst ads) _ tr S2.back (.lst (.inl (.inl (cut_at nq hD))) (xa.mono (cut_le has_aside))) f
theorem ws_ownlc {vs : List Nat} (hjs : ∀ j ∈ js, j ∈ vs) (hi : i < ρ.length) (h : WI K pf wi ρ fun ds ρ1 => LcI K pf g js tt te vs (fun es ρ' => i < ρ'.length ∧ D.nx (ρ'.set i (.own es))) ds ρ1) : Ws K (tAsg (tLc wi g tt te vs) (gName i)) ρ D := fun M σ H S E k =>
  lc_run hjs h M σ H S _ fun q0 H2 acc ads ρ0 h0 tr hD xa S2 nq ⟨hl, f⟩ => by
    refine k.nx { M with O := M.O.set i (some q0) } _ H2 _ ⟨rfl, rfl, fun a o z c d => ?_⟩ (S2.back.own hl nq hD xa S2) f
    obtain ⟨z1, z2⟩ := tr.st.keep a o z c d
    refine ⟨z1, fun y => ?_⟩
    rcases List.mem_or_eq_of_mem_set y with y | y
    · exact d y
    · exact ne_of_none z h0 (Option.some.inj y)
end
end DL

/-! Data level: operators, subscripts, slices, built-ins. -/
namespace DL
open PySem PySem.Spec PyProof.Rows L2
variable [Tb]

section
variable {K : PySem.W.Frag} {Ψ : Dt → Prop} {d1 d2 : Dt} {i j : Int} {x y : Str} {a b : Bool}
/-! numbers -/
theorem od_I0i {g : Int → Int → Int} (h : Ψ (.int (g i j))) : OD K (rI0 fun i j => .int (g i j)) (.int i) (.int j) Ψ := fun M H u v m h1 h2 Q q =>
  ⟨i, j, h1.int_eq, h2.int_eq, q _ H _ (Same.refl H) (.int _) h⟩
theorem od_I0b {g : Int → Int → Bool} (h : Ψ (.bl (g i j))) : OD K (rI0 fun i j => .bl (g i j)) (.int i) (.int j) Ψ := fun M H u v m h1 h2 Q q =>
  ⟨i, j, h1.int_eq, h2.int_eq, q _ H _ (Same.refl H) (.bl _) h⟩
theorem od_I {C : Int → Int → Prop} {g : Int → Int → Int} (c : C i j) (h : Ψ (.int (g i j))) : OD K (rI C fun i j => .int (g i j)) (.int i) (.int j) Ψ := fun M H u v m h1 h2 Q q =>
  ⟨i, j, h1.int_eq, h2.int_eq, c, q _ H _ (Same.refl H) (.int _) h⟩
theorem ud_U {g : Int → Int} (h : Ψ (.int (g i))) : UD K (rU fun i => .int (g i)) (.int i) Ψ := fun M H u m h1 Q q => ⟨i, h1.int_eq, q _ H _ (Same.refl H) (.int _) h⟩
/-! texts -/
theorem od_SSb {g : Str → Str → Bool} (h : Ψ (.bl (g x y))) : OD K (fun u v H Q => ∃ i j, u = .str i ∧ v = .str j ∧ Q (.bl (g i j)) H) (.str x) (.str y) Ψ := fun M H u v m h1 h2 Q q =>
  ⟨x, y, h1.str_eq, h2.str_eq, q _ H _ (Same.refl H) (.bl _) h⟩
theorem od_cat_str (hl : x.length + y.length ≤ sizeLine) (h : Ψ (.str (x ++ y))) : OD K (fun u v H Q => ∃ i j, u = .str i ∧ v = .str j ∧ i.length + j.length ≤ sizeLine ∧ Q (.str (i ++ j)) H) (.str x) (.str y) Ψ := fun M H u v m h1 h2 Q q =>
  ⟨x, y, h1.str_eq, h2.str_eq, hl, q _ H _ (Same.refl H) (.str _) h⟩
/-! == and != of scalars -/
theorem od_eqi (h : Ψ (.bl (decide (i = j)))) : OD K rEq (.int i) (.int j) Ψ := fun M H u v m h1 h2 Q q => by
  rw [h1.int_eq, h2.int_eq]
  have e : decide (V.int i = V.int j) = decide (i = j) := decide_eq_decide.mpr ⟨fun z => V.int.inj z, fun z => by rw [z]⟩
  exact ⟨rfl, by rw [e]; exact q _ H _ (Same.refl H) (.bl _) h⟩
theorem od_nei (h : Ψ (.bl (!decide (i = j)))) : OD K rNe (.int i) (.int j) Ψ := fun M H u v m h1 h2 Q q => by
  rw [h1.int_eq, h2.int_eq]
  have e : decide (V.int i = V.int j) = decide (i = j) := decide_eq_decide.mpr ⟨fun z => V.int.inj z, fun z => by rw [z]⟩
  exact ⟨rfl, by rw [e]; exact q _ H _ (Same.refl H) (.bl _) h⟩
theorem od_eqs (h : Ψ (.bl (decide (x = y)))) : OD K rEq (.str x) (.str y) Ψ := fun M H u v m h1 h2 Q q => by
  rw [h1.str_eq, h2.str_eq]
  have e : decide (V.str x = V.str y) = decide (x = y) := decide_eq_decide.mpr ⟨fun z => V.str.inj z, fun z => by rw [z]⟩
  exact ⟨rfl, by rw [e]; exact q _ H _ (Same.refl H) (.bl _) h⟩
theorem od_nes (h : Ψ (.bl (!decide (x = y)))) : OD K rNe (.str x) (.str y) Ψ := fun M H u v m h1 h2 Q q => by
  rw [h1.str_eq, h2.str_eq]
  have e : decide (V.str x = V.str y) = decide (x = y) := decide_eq_decide.mpr ⟨fun z => V.str.inj z, fun z => by rw [z]⟩
  exact ⟨rfl, by rw [e]; exact q _ H _ (Same.refl H) (.bl _) h⟩
theorem od_eqb (h : Ψ (.bl (decide (a = b)))) : OD K rEq (.bl a) (.bl b) Ψ := fun M H u v m h1 h2 Q q => by
  rw [h1.bl_eq, h2.bl_eq]
  have e : decide (V.bl a = V.bl b) = decide (a = b) := decide_eq_decide.mpr ⟨fun z => V.bl.inj z, fun z => by rw [z]⟩
  exact ⟨rfl, by rw [e]; exact q _ H _ (Same.refl H) (.bl _) h⟩
/-! is None -/
def isNon : Dt → Bool
  | .non => true
  | _ => false
theorem isNon_of {M : Hp} {v : V} {d : Dt} (h : DX K M v d) : decide (v = V.non) = isNon d := by
  cases h <;> rfl
theorem od_isN (h : Ψ (.bl (isNon d1))) : OD K (fun x y H Q => y = .non ∧ Q (.bl (decide (x = .non))) H) d1 .non Ψ := fun M H u v m h1 h2 Q q =>
  ⟨h2.non_eq, by rw [isNon_of h1]; exact q _ H _ (Same.refl H) (.bl _) h⟩
theorem od_notN (h : Ψ (.bl (!isNon d1))) : OD K (fun x y H Q => y = .non ∧ Q (.bl (!decide (x = .non))) H) d1 .non Ψ := fun M H u v m h1 h2 Q q =>
  ⟨h2.non_eq, by rw [isNon_of h1]; exact q _ H _ (Same.refl H) (.bl _) h⟩
end

/-! ### subscripts -/
section
variable {K : PySem.W.Frag} {Ψ : Dt → Prop} {d : Dt} {ds es : List Dt} {i : Int} {z : Str}
theorem DXs.atI {H : Hp} {vs : List V} (h : DXs K H vs ds) (e : L2.atI ds i = some d) : ∃ v, L2.atI vs i = some v ∧ DX K H v d := by
  unfold L2.atI at e ⊢
  rw [h.len]
  cases c : ixN ds.length i with
  | none => rw [c] at e; cases e
  | some j =>
    rw [c] at e
    exact h.getd e
theorem od_ixL (e : L2.atI ds i = some d) (h : Ψ d) : OD K (rIxL K) (.lst ds) (.int i) Ψ := fun M H u v m h1 h2 Q q => by
  cases h1 with
  | lst hs ha =>
    obtain ⟨w, e1, x⟩ := ha.atI e
    exact ⟨_, _, i, w, rfl, h2.int_eq, (cut_sub M H).seq hs, e1, q w H d (Same.refl H) x h⟩
theorem od_ixT (e : L2.atI ds i = some d) (h : Ψ d) : OD K (rIxT K) (.tup ds) (.int i) Ψ := fun M H u v m h1 h2 Q q => by
  cases h1 with
  | tup hs ha =>
    obtain ⟨w, e1, x⟩ := ha.atI e
    exact ⟨_, _, i, w, rfl, h2.int_eq, same_T (cut_sub M H) hs, e1, q w H d (Same.refl H) x h⟩
theorem od_ixS {c : Nat} (hz : z.length ≤ sizeLine) (e : L2.atI z.cps.toList i = some c) (h : Ψ (.str ⟨#[c]⟩)) : OD K rIxS (.str z) (.int i) Ψ := fun M H u v m h1 h2 Q q =>
  ⟨z, i, c, h1.str_eq, h2.int_eq, hz, e, q _ H _ (Same.refl H) (.str _) h⟩
/-- whatever kind of sequence -/
def seqD : Dt → Option (List Dt)
  | .lst ds => some ds
  | .tup ds => some ds
  | _ => none
theorem od_ix {d0 : Dt} (hs : seqD d0 = some ds) (e : L2.atI ds i = some d) (h : Ψ d) : OD K (rIx K) d0 (.int i) Ψ := fun M H u v m h1 h2 Q q => by
  cases d0 with
  | lst es => cases hs; exact .inl (od_ixL e h M H u v m h1 h2 Q q)
  | tup es => cases hs; exact .inr (.inl (od_ixT e h M H u v m h1 h2 Q q))
  | _ => cases hs
theorem od_ixs {c : Nat} (hz : z.length ≤ sizeLine) (e : L2.atI z.cps.toList i = some c) (h : Ψ (.str ⟨#[c]⟩)) : OD K (rIx K) (.str z) (.int i) Ψ := fun M H u v m h1 h2 Q q =>
  .inr (.inr (od_ixS hz e h M H u v m h1 h2 Q q))
theorem atI_nat' {α : Type} {xs : List α} {j : Nat} {v : α} (h : xs[j]? = some v) : L2.atI xs (j : Int) = some v := atI_nat h

/-! ### slices -/
def Wo (K : PySem.W.Frag) (f : Bool) (to : TO) (ρ : List Sl) (Φ : Option Int → List Sl → Prop) : Prop :=
  ∀ (M : Md) (σ : L2.St) (H : Hp), Sd K M H σ ρ → ∀ Q : Option Int → Hp → Prop, (∀ o H2 ρ', Tr f M H H2 → Sd K M H2 σ ρ' → Φ o ρ' → Q o H2) → to σ H Q
variable {pf : Bool} {ρ : List Sl} {Φ : Dt → List Sl → Prop} {te tx : TE} {tl th : TO}
theorem wo_none {Ω : Option Int → List Sl → Prop} (h : Ω none ρ) : Wo K pf tNoPart ρ Ω := fun M σ H S Q q => q none H ρ (Tr.refl pf M H) S h
theorem wo_some {Ω : Option Int → List Sl → Prop} (h : Wp K pf te ρ fun d ρ1 => ∃ i, d = .int i ∧ Ω (some i) ρ1) : Wo K pf (tPart te) ρ Ω := fun M σ H S Q q =>
  h M σ H S _ fun v H1 d ρ1 s1 S1 x1 ⟨i, e, f⟩ => by subst e; exact ⟨i, x1.int_eq, q (some i) H1 ρ1 s1 S1 f⟩
def SlD (K : PySem.W.Frag) (r : V → Option Int → Option Int → Hp → VK → Prop) (d : Dt) (lo hi : Option Int) (Ψ : Dt → Prop) : Prop :=
  ∀ (M : Md) (H : Hp) (x : V), MOk M H → DX K (cut M H) x d → ∀ Q : VK, (∀ v H2 d, Same H H2 → DX K (cut M H2) v d → Ψ d → Q v H2) → r x lo hi H Q
theorem w_sl {r : V → Option Int → Option Int → Hp → VK → Prop} (h : Wp K pf tx ρ fun d ρ1 => Wo K pf tl ρ1 fun lo ρ2 => Wo K pf th ρ2 fun hi ρ3 => SlD K r d lo hi fun e => Φ e ρ3) : Wp K pf (tSl r tx tl th) ρ Φ := fun M σ H S Q q =>
  h M σ H S _ fun v1 H1 d1 ρ1 s1 S1 x1 k1 => k1 M σ H1 S1 _ fun lo H2 ρ2 s2 S2 k2 => k2 M σ H2 S2 _ fun hi H3 ρ3 s3 S3 k3 =>
    k3 M H3 v1 S3.mok ((x1.mono s2.dx).mono s3.dx) _ fun v H4 d e x f => q v H4 d ρ3 (((s1.trans s2).trans s3).trans (Tr.same pf M e)) (S3.same e) x f
def cutD (ds : List Dt) (lo hi : Option Int) : List Dt := (ds.drop (HT.sIx ds.length 0 lo)).take (HT.sIx ds.length ds.length hi - HT.sIx ds.length 0 lo)
theorem DXs.cutV {H : Hp} {vs : List V} (h : DXs K H vs ds) (lo hi : Option Int) : DXs K H (L2.cutV vs lo hi) (cutD ds lo hi) := by
  unfold L2.cutV cutD
  rw [h.len]
  exact (h.drop _).take _
theorem sd_list {lo hi : Option Int} (h : Ψ (.lst (cutD ds lo hi))) : SlD K (rSlL K) (.lst ds) lo hi Ψ := fun M H x m h1 Q q => by
  cases h1 with
  | lst hs ha => exact ⟨_, _, rfl, (cut_sub M H).seq hs, fun p hp => q _ _ _ (same_new hp) (dx_new_l m hp (ha.cutV lo hi)) h⟩
theorem sd_tup {lo hi : Option Int} (h : Ψ (.tup (cutD ds lo hi))) : SlD K (rSlA K) (.tup ds) lo hi Ψ := fun M H x m h1 Q q => by
  cases h1 with
  | tup hs ha =>
    refine ⟨_, _, rfl, same_T (cut_sub M H) hs, fun hw => ?_, fun hw p hp => q _ _ _ (same_new hp) (dx_new_t m hp (ha.cutV lo hi)) h⟩
    have e : cutD ds lo hi = ds := by
      rw [ha.len] at hw
      unfold cutD
      rw [hw.1, hw.2]
      simp
    rw [e] at h
    exact q _ H _ (Same.refl H) (.tup hs ha) h
theorem sd_str {lo hi : Option Int} (hz : z.length ≤ sizeLine) (h : Ψ (.str (cutS z lo hi))) : SlD K rSlS (.str z) lo hi Ψ := fun M H x m h1 Q q =>
  ⟨z, h1.str_eq, hz, q _ H _ (Same.refl H) (.str _) h⟩
theorem cutD_to {n : Nat} (k : Nat) (h : n = k) : cutD ds none (some (n : Int)) = ds.take k := by
  subst h
  unfold cutD
  rw [HT.sIx_none, HT.sIx_nat, List.drop_zero, Nat.sub_zero]
  by_cases c : n ≤ ds.length
  · rw [Nat.min_eq_left c]
  · rw [Nat.min_eq_right (by omega), List.take_of_length_le (Nat.le_refl _), List.take_of_length_le (by omega)]
end

/-! ### built-ins -/
section
variable {K : PySem.W.Frag} {Ψ : Dt → Prop} {d : Dt} {ds es : List Dt} {i : Int} {z : Str}
theorem one_v {H : Hp} {vs : List V} (h : DXs K H vs [d]) : ∃ v, vs = [v] ∧ DX K H v d := by
  cases h with
  | cons h1 h2 => cases h2; exact ⟨_, rfl, h1⟩
theorem two_v {H : Hp} {vs : List V} {e : Dt} (h : DXs K H vs [d, e]) : ∃ v w, vs = [v, w] ∧ DX K H v d ∧ DX K H w e := by
  cases h with
  | cons h1 h2 => cases h2 with
    | cons h3 h4 => cases h4; exact ⟨_, _, rfl, h1, h3⟩
theorem rd_abs (h : Ψ (.int (if i < 0 then -i else i))) : RD K (fun xs H Q => ∃ i, xs = [.int i] ∧ Q (.int (if i < 0 then -i else i)) H) [.int i] Ψ := fun M H vs m xx Q q => by
  obtain ⟨v, rfl, x⟩ := one_v xx
  exact ⟨i, by rw [x.int_eq], q _ H _ (Same.refl H) (.int _) h⟩
theorem rd_int (h : Ψ (.int i)) : RD K (fun xs H Q => (∃ i, xs = [.int i] ∧ Q (.int i) H) ∨ ∃ k, xs = [.bl k] ∧ Q (.int (if k then 1 else 0)) H) [.int i] Ψ := fun M H vs m xx Q q => by
  obtain ⟨v, rfl, x⟩ := one_v xx
  exact .inl ⟨i, by rw [x.int_eq], q _ H _ (Same.refl H) (.int _) h⟩
theorem rd_intb {b : Bool} (h : Ψ (.int (if b then 1 else 0))) : RD K (fun xs H Q => (∃ i, xs = [.int i] ∧ Q (.int i) H) ∨ ∃ k, xs = [.bl k] ∧ Q (.int (if k then 1 else 0)) H) [.bl b] Ψ := fun M H vs m xx Q q => by
  obtain ⟨v, rfl, x⟩ := one_v xx
  exact .inr ⟨b, by rw [x.bl_eq], q _ H _ (Same.refl H) (.int _) h⟩
def lenD : Dt → Option Nat
  | .lst ds => some ds.length
  | .tup ds => some ds.length
  | .str z => if z.length ≤ sizeLine then some z.length else none
  | _ => none
theorem rd_len {n : Nat} (hn : lenD d = some n) (h : Ψ (.int n)) : RD K (fun xs H Q => ∃ x n, xs = [x] ∧ LenV K x H n ∧ Q (.int n) H) [d] Ψ := fun M H vs m xx Q q => by
  obtain ⟨v, rfl, x⟩ := one_v xx
  refine ⟨v, n, rfl, ?_, q _ H _ (Same.refl H) (.int _) h⟩
  cases x with
  | lst hs ha => exact .inl ⟨_, (cut_sub M H).seq hs, by rw [ha.len]; exact (Option.some.inj hn).symm⟩
  | tup hs ha => exact .inr ⟨_, same_T (cut_sub M H) hs, by rw [ha.len]; exact (Option.some.inj hn).symm⟩
  | str z =>
    have hn : (if z.length ≤ sizeLine then some z.length else none) = some n := hn
    by_cases c : z.length ≤ sizeLine
    · rw [if_pos c] at hn
      exact ⟨c, (Option.some.inj hn).symm⟩
    · rw [if_neg c] at hn; cases hn
  | _ => cases hn
theorem rd_list (hs : seqD d = some ds) (h : Ψ (.lst ds)) : RD K (fun xs H Q => ∃ p ys, xs = [.ref p] ∧ (SqL K H p ys ∨ SqT K H p ys) ∧ ∀ l, H l = none → Q (.ref l) (upd H l (.lst ys))) [d] Ψ := fun M H vs m xx Q q => by
  obtain ⟨v, rfl, x⟩ := one_v xx
  cases x with
  | lst hs' ha => cases hs; exact ⟨_, _, rfl, .inl ((cut_sub M H).seq hs'), fun l hl => q _ _ _ (same_new hl) (dx_new_l m hl ha) h⟩
  | tup hs' ha => cases hs; exact ⟨_, _, rfl, .inr (same_T (cut_sub M H) hs'), fun l hl => q _ _ _ (same_new hl) (dx_new_l m hl ha) h⟩
  | _ => cases hs
theorem rd_tuple (hs : seqD d = some ds) (h : Ψ (.tup ds)) : RD K (fun xs H Q => ∃ p ys, xs = [.ref p] ∧ ((SqL K H p ys ∧ ∀ l, H l = none → Q (.ref l) (upd H l (.tup ys))) ∨ (SqT K H p ys ∧ Q (.ref p) H))) [d] Ψ := fun M H vs m xx Q q => by
  obtain ⟨v, rfl, x⟩ := one_v xx
  cases x with
  | lst hs' ha => cases hs; exact ⟨_, _, rfl, .inl ⟨(cut_sub M H).seq hs', fun l hl => q _ _ _ (same_new hl) (dx_new_t m hl ha) h⟩⟩
  | tup hs' ha => cases hs; exact ⟨_, _, rfl, .inr ⟨same_T (cut_sub M H) hs', q _ H _ (Same.refl H) (.tup hs' ha) h⟩⟩
  | _ => cases hs
theorem rd_all {bs : List Bool} (h : Ψ (.bl (bs.all id))) : RD K (rAll K) [.lst (bs.map Dt.bl)] Ψ := fun M H vs m xx Q q => by
  obtain ⟨v, rfl, x⟩ := one_v xx
  cases x with
  | lst hs ha => rw [ha.bls] at hs; exact ⟨_, bs, rfl, (cut_sub M H).seq hs, q _ H _ (Same.refl H) (.bl _) h⟩
theorem rd_any {bs : List Bool} (h : Ψ (.bl (bs.any id))) : RD K (rAny K) [.lst (bs.map Dt.bl)] Ψ := fun M H vs m xx Q q => by
  obtain ⟨v, rfl, x⟩ := one_v xx
  cases x with
  | lst hs ha => rw [ha.bls] at hs; exact ⟨_, bs, rfl, (cut_sub M H).seq hs, q _ H _ (Same.refl H) (.bl _) h⟩
/-- isinstance of a datum against a built-in class -/
def tyD : Dt → String
  | .non => "NoneType" | .bl _ => "bool" | .int _ => "int" | .str _ => "str" | .lst _ => "list" | .tup _ => "tuple" | .dct _ _ => "dict" | .ty _ => "type" | .ins _ _ _ _ => "object" | .cls _ => "type" | .exc _ _ _ _ => "object"
/-- of a built-in class, no class itself -/
def kitD : Dt → Bool
  | .ty _ | .ins _ _ _ _ | .cls _ | .exc _ _ _ _ => false
  | _ => true
theorem tyX_of {M : Md} {H : Hp} {v : V} (x : DX K (cut M H) v d) (h : kitD d = true) : TyX K H v (.type (tyD d)) := by
  cases x with
  | non => exact .base .non
  | bl b => exact .base (.bl b)
  | int i => exact .base (.int i)
  | str z => exact .base (.str z)
  | ty n => cases h
  | ins _ _ _ => cases h
  | cls _ => cases h
  | exc _ _ _ _ => cases h
  | exc0 _ => cases h
  | lst hs ha =>
    rcases (cut_sub M H).seq hs with (e | ⟨o, e⟩) | ⟨o, _, _, e, c, _⟩
    · exact .base (.lst e)
    · exact .base (.frz e)
    · exact .kList e c
  | tup hs ha =>
    rcases same_T (cut_sub M H) hs with (e | ⟨o, e⟩) | ⟨o, _, _, e, c, _⟩
    · exact .base (.tup e)
    · exact .fTuple e
    · exact .kTuple e c
  | dct hs ha =>
    rcases (cut_Rd hs).2 with e | ⟨o, e⟩
    · exact .base (.dK e)
    · exact .fDict e
theorem rd_isi {c : String} {b : Bool} (hd : kitD d = true) (e : kitB (tyD d) c = some b) (h : Ψ (.bl b)) : RD K (rIsi K) [d, .ty c] Ψ := fun M H vs m xx Q q => by
  obtain ⟨v, w, rfl, x1, x2⟩ := two_v xx
  cases x2
  exact ⟨v, .ty c, _, _, b, rfl, .ty c, tyX_of x1 hd, kit_ty e, q _ H _ (Same.refl H) (.bl _) h⟩
end
end DL

/-! Data level: repr, == of data, in, sets of texts. -/
namespace DL
open PySem PySem.Spec PyProof.Rows L2
variable [Tb]

/-! ### as the library's data -/
mutual
def Dt.py : Dt → PyData
  | .non => .none
  | .bl b => .bool b
  | .int i => .int i
  | .str x => .str x
  | .lst ds => .list (pys ds)
  | .tup ds => .tuple (pys ds)
  | .dct _ kvs => .dict (pyk kvs)
  | .ty n => .none
  | .ins _ _ _ _ => .none
  | .cls _ => .none
  | .exc _ _ _ _ => .none
def pys : List Dt → List PyData
  | [] => []
  | d :: ds => d.py :: pys ds
def pyk : List (Key × Dt) → List (PyData × PyData)
  | [] => []
  | (k, d) :: r => ((match k with | .inl i => PyData.int i | .inr x => .str x), d.py) :: pyk r
end
mutual
/-- data all through: no class in it -/
def Dt.pure : Dt → Bool
  | .non | .bl _ | .int _ | .str _ => true
  | .lst ds => pures ds
  | .tup ds => pures ds
  | .dct _ kvs => purek kvs
  | .ty _ => false
  | .ins _ _ _ _ => false
  | .cls _ => false
  | .exc _ _ _ _ => false
def pures : List Dt → Bool
  | [] => true
  | d :: ds => d.pure && pures ds
def purek : List (Key × Dt) → Bool
  | [] => true
  | (_, d) :: r => d.pure && purek r
end
mutual
/-- .. and no dict -/
def Dt.seqs : Dt → Bool
  | .non | .bl _ | .int _ | .str _ => true
  | .lst ds => seqss ds
  | .tup ds => seqss ds
  | .dct _ _ => false
  | .ty _ => false
  | .ins _ _ _ _ => false
  | .cls _ => false
  | .exc _ _ _ _ => false
def seqss : List Dt → Bool
  | [] => true
  | d :: ds => d.seqs && seqss ds
end
section
variable {K : PySem.W.Frag} {H : Hp}
mutual
theorem DX.dp : ∀ {d : Dt} {v : V}, DX K H v d → d.seqs = true → Dp K H v d.py
  | .non, _, h, _ => by cases h; simp only [Dt.py]; exact .non
  | .bl b, _, h, _ => by cases h; simp only [Dt.py]; exact .bl _
  | .int i, _, h, _ => by cases h; simp only [Dt.py]; exact .int _
  | .str x, _, h, _ => by cases h; simp only [Dt.py]; exact .str _
  | .lst ds, _, h, p => by
    cases h with
    | lst hs ha => simp only [Dt.py]; exact .lst hs (DXs.dp (ds := ds) ha (by simpa only [Dt.seqs] using p))
  | .tup ds, _, h, p => by
    cases h with
    | tup hs ha => simp only [Dt.py]; exact .tup hs (DXs.dp (ds := ds) ha (by simpa only [Dt.seqs] using p))
  | .dct _ _, _, _, p => by simp only [Dt.seqs] at p; cases p
  | .ty _, _, _, p => by simp only [Dt.seqs] at p; cases p
theorem DXs.dp : ∀ {ds : List Dt} {vs : List V}, DXs K H vs ds → seqss ds = true → DpAll K H vs (pys ds)
  | [], _, h, _ => by cases h; simp only [pys]; exact .nil
  | d :: ds, _, h, p => by
    simp only [seqss, Bool.and_eq_true] at p
    cases h with
    | cons h1 h2 => simp only [pys]; exact .cons (DX.dp h1 p.1) (DXs.dp h2 p.2)
end
end

/-! ### reading, dicts too: no dict is that of the modules -/
mutual
inductive Rds (h : Heap) : Value → PyData → Prop
  | none : Rds h .none .none
  | bool (b : Bool) : Rds h (.bool b) (.bool b)
  | int (i : Int) (t : Tok) : Rds h (.int i t) (.int i)
  | str (x : Str) (t : Tok) : Rds h (.str x t) (.str x)
  | list {a : Addr} {o : Obj} {vs : Array Value} {n : Nat} {xs : List PyData} : h.get? a = some o → o.cls = .type "list" → o.data = .seq vs n → RdsAll h vs.toList xs → Rds h (.ref a) (.list xs)
  | tuple {a : Addr} {o : Obj} {vs : Array Value} {n : Nat} {xs : List PyData} : h.get? a = some o → o.cls = .type "tuple" → o.data = .seq vs n → RdsAll h vs.toList xs → Rds h (.ref a) (.tuple xs)
  | dict {a : Addr} {o : Obj} {es : Array DictEntry} {n : Nat} {kvs : List (PyData × PyData)} : h.get? a = some o → o.cls = .type "dict" → o.data = .dict es n → (a == sysModules) = false →
      RdsAll h (es.toList.map (·.key)) (kvs.map (·.1)) → RdsAll h (es.toList.map (·.val)) (kvs.map (·.2)) → Rds h (.ref a) (.dict kvs)
inductive RdsAll (h : Heap) : List Value → List PyData → Prop
  | nil : RdsAll h [] []
  | cons {v : Value} {vs : List Value} {d : PyData} {ds : List PyData} : Rds h v d → RdsAll h vs ds → RdsAll h (v :: vs) (d :: ds)
end
section
variable {h : Heap}
mutual
theorem Rds.reads : ∀ {v : Value} {d : PyData}, Rds h v d → ∃ as, Reads h v d as
  | _, _, .none => ⟨_, .none⟩
  | _, _, .bool b => ⟨_, .bool b⟩
  | _, _, .int i t => ⟨_, .int i t⟩
  | _, _, .str x t => ⟨_, .str x t⟩
  | _, _, .list h1 h2 h3 h4 => let ⟨_, q⟩ := RdsAll.reads h4; ⟨_, .list h1 h2 h3 q⟩
  | _, _, .tuple h1 h2 h3 h4 => let ⟨_, q⟩ := RdsAll.reads h4; ⟨_, .tuple h1 h2 h3 q⟩
  | _, _, .dict h1 h2 h3 _ h4 h5 => let ⟨_, q⟩ := RdsAll.reads h4; let ⟨_, r⟩ := RdsAll.reads h5; ⟨_, .dict h1 h2 h3 q r⟩
theorem RdsAll.reads : ∀ {v : List Value} {d : List PyData}, RdsAll h v d → ∃ as, ReadsAll h v d as
  | _, _, .nil => ⟨_, .nil⟩
  | _, _, .cons h1 h2 => let ⟨_, q⟩ := Rds.reads h1; let ⟨_, r⟩ := RdsAll.reads h2; ⟨_, .cons q r⟩
end
variable {prog : Program} {w : World}
mutual
theorem Rds.reprK : ∀ {v : Value} {d : PyData}, Rds h v d → d.showable = true → d.shown.length ≤ sizeLine → ∃ bs, ReadAtMost h d.depth bs ∧ ReprK prog w bs h d.depth v d.shown
  | _, _, .none, _, _ => ⟨[], (fun _ z => nomatch z), by simp only [PyData.shown]; exact .of_is ReprIs.none _ _ _⟩
  | _, _, .bool b, _, _ => ⟨[], (fun _ z => nomatch z), by simp only [PyData.shown]; exact .of_is (ReprIs.bool b) _ _ _⟩
  | _, _, .int i t, hs, _ => ⟨[], (fun _ z => nomatch z), by simp only [PyData.shown]; exact .of_is (ReprIs.int t (of_decide_eq_true (by simpa only [PyData.showable] using hs))) _ _ _⟩
  | _, _, .str x t, _, hz => ⟨[], (fun _ z => nomatch z), by simp only [PyData.shown] at hz ⊢; exact .of_is (ReprIs.str x t hz) _ _ _⟩
  | _, _, .list (a := a) (vs := vs) (xs := xs) h1 h2 h3 h4, hs, hz => by
    simp only [PyData.shown] at hz
    simp only [PyData.showable] at hs
    obtain ⟨bs, hb, hk⟩ := RdsAll.reprK h4 hs fun t ht => Nat.le_trans (listText_mem_le ht) hz
    obtain ⟨as, hr⟩ := RdsAll.reads h4
    have r : Reads h (.ref a) (.list xs) _ := .list h1 h2 h3 hr
    have lt : PyData.depthAll xs < (PyData.list xs).depth := by simp only [PyData.depth]; omega
    refine ⟨a :: bs, .cons r (Nat.le_of_lt lt) hb, ?_⟩
    simp only [PyData.depth, PyData.shown]
    obtain ⟨l⟩ := vs
    cases l with
    | cons x l => exact .list h1 h2 h3 (not_mem_of_deeper r lt hb) (by simpa using hk.length_eq) fun i y e => hk.item i y (by simpa using e)
    | nil =>
      have hr' : ReadsAll h [] xs _ := hr
      cases hr'
      simp only [PyData.shownAll, listText_nil]
      exact .listEmpty h1 h2 h3
  | _, _, .tuple (a := a) (xs := xs) h1 h2 h3 h4, hs, hz => by
    simp only [PyData.shown] at hz
    simp only [PyData.showable] at hs
    obtain ⟨bs, hb, hk⟩ := RdsAll.reprK h4 hs fun t ht => Nat.le_trans (tupleText_mem_le ht) hz
    obtain ⟨as, hr⟩ := RdsAll.reads h4
    have r : Reads h (.ref a) (.tuple xs) _ := .tuple h1 h2 h3 hr
    have lt : PyData.depthAll xs < (PyData.tuple xs).depth := by simp only [PyData.depth]; omega
    refine ⟨a :: bs, .cons r (Nat.le_of_lt lt) hb, ?_⟩
    simp only [PyData.depth, PyData.shown]
    exact .tuple h1 h2 h3 (not_mem_of_deeper r lt hb) hk
  | _, _, .dict (a := a) (es := es) (kvs := kvs) h1 h2 h3 h0 h4 h5, hs, hz => by
    simp only [PyData.shown] at hz
    simp only [PyData.showable] at hs
    obtain ⟨s1, s2⟩ := PyData.showableKv_split kvs hs
    have big : ∀ {t : Str} {p : Str}, p ∈ PyData.shownKv kvs → t.length ≤ p.length → t.length ≤ sizeLine := fun hp hl => Nat.le_trans hl (Nat.le_trans (dictText_mem_le hp) hz)
    obtain ⟨b1, q1, k1⟩ := RdsAll.reprK h4 s1 fun t ht => let ⟨_, hp, hl⟩ := PyData.shownKv_key_le kvs t ht; big hp hl
    obtain ⟨b2, q2, k2⟩ := RdsAll.reprK h5 s2 fun t ht => let ⟨_, hp, hl⟩ := PyData.shownKv_val_le kvs t ht; big hp hl
    obtain ⟨as, r1⟩ := RdsAll.reads h4
    obtain ⟨cs, r2⟩ := RdsAll.reads h5
    have r : Reads h (.ref a) (.dict kvs) _ := .dict h1 h2 h3 r1 r2
    have lt : PyData.depthKv kvs < (PyData.dict kvs).depth := by simp only [PyData.depth]; omega
    have hb : ReadAtMost h (PyData.depthKv kvs) (b1 ++ b2) := (q1.mono (PyData.depthAll_keys_le kvs)).append (q2.mono (PyData.depthAll_vals_le kvs))
    refine ⟨a :: (b1 ++ b2), .cons r (Nat.le_of_lt lt) hb, ?_⟩
    simp only [PyData.depth, PyData.shown, PyData.shownKv_eq]
    exact .dict h1 h2 h3 h0 (not_mem_of_deeper r lt hb) (.of_two es.toList _ _ (k1.more_le (fun b m => List.mem_append_left _ m) (PyData.depthAll_keys_le kvs)) (k2.more_le (fun b m => List.mem_append_right _ m) (PyData.depthAll_vals_le kvs)))
theorem RdsAll.reprK : ∀ {vs : List Value} {ds : List PyData}, RdsAll h vs ds → PyData.showableAll ds = true → (∀ t ∈ PyData.shownAll ds, t.length ≤ sizeLine) →
    ∃ bs, ReadAtMost h (PyData.depthAll ds) bs ∧ ReprAllK prog w bs h (PyData.depthAll ds) vs (PyData.shownAll ds)
  | _, _, .nil, _, _ => ⟨[], (fun _ z => nomatch z), by simp only [PyData.shownAll]; exact .nil⟩
  | _, _, .cons (d := d) (ds := ds) r rs, hs, hz => by
    simp only [PyData.showableAll, Bool.and_eq_true] at hs
    simp only [PyData.shownAll, List.mem_cons] at hz
    obtain ⟨b1, q1, k1⟩ := Rds.reprK r hs.1 (hz _ (.inl rfl))
    obtain ⟨b2, q2, k2⟩ := RdsAll.reprK rs hs.2 fun t ht => hz t (.inr ht)
    have e : PyData.depthAll (d :: ds) = max d.depth (PyData.depthAll ds) := by simp only [PyData.depthAll]
    rw [e]
    refine ⟨b1 ++ b2, (q1.mono (Nat.le_max_left _ _)).append (q2.mono (Nat.le_max_right _ _)), ?_⟩
    simp only [PyData.shownAll]
    exact .cons ((k1.more fun b m => List.mem_append_left _ m).level_le (Nat.le_max_left _ _)) (k2.more_le (fun b m => List.mem_append_right _ m) (Nat.le_max_right _ _))
end
/-- repr(v) -/
theorem repr_run {v : Value} {d : PyData} {A : Around} {E : Value → Shared → Prop} {s : Shared} {Q : Value → Shared → Prop} (r : Rds s.heap v d) (hs : d.showable = true) (hg : A.guards = some []) (hu : A.units + (d.depth + 1) < cLine)
    (hz : d.shown.length ≤ sizeLine) (hQ : ∀ h' u tk, (∀ b o, s.heap.get? b = some o → h'.get? b = some o) → Q (.str d.shown u) { s with heap := h', toks := tk }) : wpAny (model prog w) A (call (.builtin "repr") [v]) Q E s := by
  have triv : ∀ b o, s.heap.get? b = some o → s.heap.get? b = some o := fun _ _ z => z
  cases r with
  | none => simp only [PyData.shown] at hQ; exact PySem.P.repr_of_none (hQ _ _ _ triv)
  | bool b => simp only [PyData.shown] at hQ; exact PySem.P.repr_of_bool (hQ _ _ _ triv)
  | int i t => simp only [PyData.shown] at hQ; exact PySem.P.repr_of_int (of_decide_eq_true (by simpa only [PyData.showable] using hs)) (hQ _ _ _ triv)
  | str x t => simp only [PyData.shown] at hQ hz; exact PySem.P.repr_of_str (hQ _ _ _ triv) hz
  | @list a o vs n xs h1 h2 h3 h4 =>
    simp only [PyData.shown] at hQ hz
    simp only [PyData.showable] at hs
    simp only [PyData.depth] at hu
    obtain ⟨bs, hb, hk⟩ := RdsAll.reprK (prog := prog) (w := w) h4 hs fun t ht => Nat.le_trans (listText_mem_le ht) hz
    obtain ⟨as, hr⟩ := RdsAll.reads h4
    have na : a ∉ bs := not_mem_of_deeper (.list h1 h2 h3 hr) (by simp only [PyData.depth]; omega) hb
    refine call_repr_slot (by omega) ⟨o, h1, h2⟩ F.slot_list_repr.toG ?_
    obtain ⟨l⟩ := vs
    cases l with
    | nil =>
      have hr' : ReadsAll s.heap [] xs _ := hr
      cases hr'
      simp only [PyData.shownAll, listText_nil] at hQ
      exact call_list_repr_empty ⟨o, h1, h2⟩ h1 h3 ⟨_, _, rfl, hQ _ _ _ triv⟩
    | cons x l => exact call_list_reprK h1 h2 h3 na (by simpa using hk.length_eq) (fun i y e => hk.item i y (by simpa using e)) (A := A.in1) hg (fun b _ => Clear.nil b) (by show A.units + 1 + _ < cLine; omega) triv (fun h' u tk k => ⟨_, _, rfl, hQ h' u tk k⟩) hz
  | @tuple a o vs n xs h1 h2 h3 h4 =>
    simp only [PyData.shown] at hQ hz
    simp only [PyData.showable] at hs
    simp only [PyData.depth] at hu
    obtain ⟨bs, hb, hk⟩ := RdsAll.reprK (prog := prog) (w := w) h4 hs fun t ht => Nat.le_trans (tupleText_mem_le ht) hz
    obtain ⟨as, hr⟩ := RdsAll.reads h4
    have na : a ∉ bs := not_mem_of_deeper (.tuple h1 h2 h3 hr) (by simp only [PyData.depth]; omega) hb
    refine call_repr_slot (by omega) ⟨o, h1, h2⟩ F.slot_tuple_repr ?_
    exact call_tuple_reprK h1 h2 h3 na hk (A := A.in1) hg (fun b _ => Clear.nil b) (by show A.units + 1 + _ < cLine; omega) triv (fun h' u tk k => ⟨_, _, rfl, hQ h' u tk k⟩) hz
  | @dict a o es n kvs h1 h2 h3 h0 h4 h5 =>
    simp only [PyData.shown] at hQ hz
    simp only [PyData.showable] at hs
    simp only [PyData.depth] at hu
    obtain ⟨s1, s2⟩ := PyData.showableKv_split kvs hs
    have big : ∀ {t : Str} {p : Str}, p ∈ PyData.shownKv kvs → t.length ≤ p.length → t.length ≤ sizeLine := fun hp hl => Nat.le_trans hl (Nat.le_trans (dictText_mem_le hp) hz)
    obtain ⟨b1, q1, k1⟩ := RdsAll.reprK (prog := prog) (w := w) h4 s1 fun t ht => let ⟨_, hp, hl⟩ := PyData.shownKv_key_le kvs t ht; big hp hl
    obtain ⟨b2, q2, k2⟩ := RdsAll.reprK (prog := prog) (w := w) h5 s2 fun t ht => let ⟨_, hp, hl⟩ := PyData.shownKv_val_le kvs t ht; big hp hl
    obtain ⟨as, r1⟩ := RdsAll.reads h4
    obtain ⟨cs, r2⟩ := RdsAll.reads h5
    have hb : ReadAtMost s.heap (PyData.depthKv kvs) (b1 ++ b2) := (q1.mono (PyData.depthAll_keys_le kvs)).append (q2.mono (PyData.depthAll_vals_le kvs))
    have na : a ∉ b1 ++ b2 := not_mem_of_deeper (.dict h1 h2 h3 r1 r2) (by simp only [PyData.depth]; omega) hb
    refine call_repr_slot (by omega) ⟨o, h1, h2⟩ F.slot_dict_repr ?_
    rw [PyData.shownKv_eq] at hQ hz
    exact call_dict_reprK h1 h2 h3 h0 na (.of_two es.toList _ _ (k1.more_le (fun b m => List.mem_append_left _ m) (PyData.depthAll_keys_le kvs)) (k2.more_le (fun b m => List.mem_append_right _ m) (PyData.depthAll_vals_le kvs)))
      (A := A.in1) hg (fun b _ => Clear.nil b) (by show A.units + 1 + _ < cLine; omega) triv (fun h' u tk k => ⟨_, _, rfl, hQ h' u tk k⟩) hz
end
section
variable {X : Cx} {pins : List (Addr × Obj)} {σ : L2.St} {H : Hp} {s : Shared}
mutual
theorem rd_ok {a : Addr} {u : HO} (I : Inv X pins σ H s) (h : Rd H a u) : ObjOk X.prog X.w H s.heap a u := h.elim (fun z => I.hok _ _ z) fun ⟨o, z⟩ => (I.hok _ _ z).2
theorem DX.rds (I : Inv X pins σ H s) : ∀ {d : Dt} {v : V} {u : Value}, DX X.K H v d → RelV v u → d.pure = true → Rds s.heap u d.py
  | .non, _, _, h, r, _ => by cases h; cases r; simp only [Dt.py]; exact .none
  | .bl b, _, _, h, r, _ => by cases h; cases r; simp only [Dt.py]; exact .bool b
  | .int i, _, _, h, r, _ => by cases h; obtain ⟨t, rfl⟩ := r; simp only [Dt.py]; exact .int i t
  | .str x, _, _, h, r, _ => by cases h; obtain ⟨t, rfl⟩ := r; simp only [Dt.py]; exact .str x t
  | .lst ds, _, _, h, r, p => by
    cases h with
    | lst hs ha =>
      cases r
      obtain ⟨its, rv, ⟨o, n, ho, hc, hdn, hd⟩, _⟩ := I.list hs
      simp only [Dt.py]
      exact .list ho hc hd (DXs.rds I (ds := ds) ha rv (by simpa only [Dt.pure] using p))
  | .tup ds, _, _, h, r, p => by
    cases h with
    | tup hs ha =>
      cases r
      obtain ⟨its, rv, ⟨o, ho, hc, n, hd⟩, _⟩ := I.tuple hs
      simp only [Dt.py]
      exact .tuple ho hc hd (DXs.rds I (ds := ds) ha rv (by simpa only [Dt.pure] using p))
  | .dct _ ds, _, _, h, r, p => by
    cases h with
    | @dct a kvs _ hs ha =>
      cases r
      obtain ⟨_, ne, vs, rel, o, es, ep, ho, hex, hd, _, pr, _⟩ := rd_ok I hs
      have two := DXk.rds I (ds := ds) ha rel pr (by simpa only [Dt.pure] using p)
      simp only [Dt.py]
      exact .dict ho hex.1 hd ne two.1 two.2
  | .ty _, _, _, _, _, p => by simp only [Dt.pure] at p; cases p
theorem DXs.rds (I : Inv X pins σ H s) : ∀ {ds : List Dt} {vs : List V} {us : List Value}, DXs X.K H vs ds → Vals vs us → pures ds = true → RdsAll s.heap us (pys ds)
  | [], _, _, h, r, _ => by cases h; cases r; simp only [pys]; exact .nil
  | d :: ds, _, _, h, r, p => by
    simp only [pures, Bool.and_eq_true] at p
    cases h with
    | cons h1 h2 =>
      cases r with
      | cons r1 r2 => simp only [pys]; exact .cons (DX.rds I h1 r1 p.1) (DXs.rds I h2 r2 p.2)
theorem DXk.rds (I : Inv X pins σ H s) : ∀ {ds : List (Key × Dt)} {kvs : List (Key × V)} {vs : List (Key × Value)} {es : List DictEntry}, DXk X.K H kvs ds → KV kvs vs → Pairs (mixKind X.prog X.w) es vs → purek ds = true →
    RdsAll s.heap (es.map (·.key)) ((pyk ds).map (·.1)) ∧ RdsAll s.heap (es.map (·.val)) ((pyk ds).map (·.2))
  | [], _, _, _, h, r, pr, _ => by
    cases h
    cases r
    cases pr
    simp only [pyk, List.map_nil]
    exact ⟨.nil, .nil⟩
  | (k, d) :: ds, _, _, _, h, r, pr, p => by
    simp only [purek, Bool.and_eq_true] at p
    cases h with
    | cons h1 h2 =>
      cases r with
      | cons r1 r2 =>
        cases pr with
        | cons p1 p2 p3 =>
          have ih := DXk.rds I h2 r2 p3 p.2
          have e1 : k = _ := r1.1
          have hk := p1
          rw [← e1, mixKind_is] at hk
          simp only [pyk, List.map_cons]
          refine ⟨.cons ?_ ih.1, .cons (by rw [p2]; exact DX.rds I h1 r1.2 p.1) ih.2⟩
          rcases keyIs_shape hk with ⟨i, t, rfl, e⟩ | ⟨x, t, rfl, e⟩
          · rw [e]; exact .int i t
          · rw [e]; exact .str x t
end
def rRepr (K : PySem.W.Frag) : List V → Hp → VK → Prop := fun xs H Q => ∃ x d, xs = [x] ∧ DX K H x d ∧ d.pure = true ∧ d.py.showable = true ∧ d.py.depth ≤ 60 ∧ d.py.shown.length ≤ sizeLine ∧ Q (.str d.py.shown) H
theorem call_reprX (hg : X.A.guards = some []) (hu : X.A.units + 64 < cLine) : CallR X (.builtin "repr") (rRepr X.K) := by
  intro pins s σ H xs us Q I r h
  obtain ⟨x, d, rfl, dx, dp, ds, dd, dz, q⟩ := h
  obtain ⟨u, rfl, ru⟩ := r.one
  exact repr_run (DX.rds I dx ru dp) ds hg (by omega) dz fun h' u tk k => ⟨.str d.py.shown, H, I.kept k, ⟨u, rfl⟩, q⟩
end
section
variable {K : PySem.W.Frag} {Ψ : Dt → Prop} {d : Dt}
/-- fit to be shown -/
structure Fit (d : Dt) : Prop where
  pure : d.pure = true
  sh : d.py.showable = true
  dep : d.py.depth ≤ 60
  sz : d.py.shown.length ≤ sizeLine
theorem rd_repr (f : Fit d) (h : Ψ (.str d.py.shown)) : RD K (rRepr K) [d] Ψ := fun M H vs m xx Q q => by
  obtain ⟨v, rfl, x⟩ := one_v xx
  exact ⟨v, d, rfl, x.mono (cut_sub M H), f.pure, f.sh, f.dep, f.sz, q _ H _ (Same.refl H) (.str _) h⟩
end
end DL

/-! Data level: == against the empty list, in, sets of texts, displays of dicts, join. -/
namespace DL
open PySem PySem.Spec PyProof.Rows L2
variable [Tb]

/-! ### == of a dict and a text -/
section
variable {A : Around} {s : Shared}
theorem dict_eq_declines {prog : Program} {w : World} {E : Value → Shared → Prop} {l : Addr} {b : Str} {u : Tok} {Q : Value → Shared → Prop} (hl : s.TypeIs (.ref l) "dict") (h : Q .notImplemented s) :
    wpAny (model prog w) A (call (.builtin "dict.__eq__") [.ref l, .str b u]) Q E s := by
  refine wpAny_call_entry PySem.F.slot_dict_eq hl PySem.F.entry_dict_eq ?_ (PySem.F.args_dict_eq_2 _ _)
  show wpAny _ _ (Builtin.Dict.dictSlotArgs "__eq__" ⟨[.ref l, .str b u], []⟩ >>= _) _ _ s
  apply wpAny_bind
  unfold Builtin.Dict.dictSlotArgs
  refine wpAny_bind (wpAny_notOrdered_dict hl (wpAny_pure (wpAny_bind (wpAny_isInstance (T := "str") (typeIs_str s b u) PySem.F.sub_str_dict ?_))))
  simp only [Bool.not_false, if_true]
  exact wpAny_bind (wpAny_rule (wpAny_pure ⟨_, rfl, h⟩))
theorem str_eq_declines (b : Str) (u : Tok) (l : Addr) (c : Value) (dd : Option Addr) (es : Array DictEntry) (n : Nat) (sl : Array (Option Value)) :
    Meets (Builtin.«str.__eq__» ⟨[.str b u, .ref l], []⟩) (fun _ R s => s.heap.get? l = some { cls := c, dict := dd, data := .dict es n, slots := sl } ∧ R (.ok (.ret .notImplemented)) s) :=
  .of_wp fun prog w A R s h => by
    obtain ⟨hp, g, d, tk, os⟩ := s
    obtain ⟨hl, h⟩ := h
    wp_walk using wpAny_load hl
    exact ⟨_, rfl, h⟩
theorem rc_dict_str {l : Addr} {dd : Option Addr} {es : Array DictEntry} {n : Nat} {sl : Array (Option Value)} (b : Str) (u : Tok) (ho : s.heap.get? l = some { cls := .type "dict", dict := dd, data := .dict es n, slots := sl }) (hu : A.units < cLine) : SeqAt.RcAt A s (.ref l) (.str b u) false := fun prog w E Q h =>
  SeqAt.rc_eq_decline_or (k := false) ⟨_, ho, rfl⟩ (typeIs_str s b u) (by decide) PySem.F.sub_str_dict PySem.F.slot_dict_eq PySem.F.slot_str_eq_refl
    (fun _ hq => dict_eq_declines ⟨_, ho, rfl⟩ hq)
    (fun _ hq => call_meets PySem.F.slot_str_eq_refl (typeIs_str s b u) PySem.F.entry_str_eq (PySem.F.args_str_eq_2 _ _) (str_eq_declines b u l _ _ _ _ _) ⟨ho, hq⟩)
    (fun _ hq => wpAny_of_eq (rfl : isSame (.ref l) (.str b u) = pure false) hq) (.inr hu) h
theorem rc_str_dict {l : Addr} {dd : Option Addr} {es : Array DictEntry} {n : Nat} {sl : Array (Option Value)} (b : Str) (u : Tok) (ho : s.heap.get? l = some { cls := .type "dict", dict := dd, data := .dict es n, slots := sl }) (hu : A.units < cLine) : SeqAt.RcAt A s (.str b u) (.ref l) false := fun prog w E Q h =>
  SeqAt.rc_eq_decline_or (k := false) (typeIs_str s b u) ⟨_, ho, rfl⟩ (by decide) PySem.F.sub_dict_str PySem.F.slot_str_eq PySem.F.slot_dict_eq
    (fun _ hq => call_meets PySem.F.slot_str_eq (typeIs_str s b u) PySem.F.entry_str_eq (PySem.F.args_str_eq_2 _ _) (str_eq_declines b u l _ _ _ _ _) ⟨ho, hq⟩)
    (fun _ hq => dict_eq_declines ⟨_, ho, rfl⟩ hq)
    (fun _ hq => wpAny_of_eq (rfl : isSame (.str b u) (.ref l) = pure false) hq) (.inr hu) h
theorem eq_dict_str {l : Addr} {o : Obj} {es : Array DictEntry} {n : Nat} (b : Str) (u : Tok) (ho : s.heap.get? l = some o) (hc : o.cls = .type "dict") (hd : o.data = .dict es n) (hu : A.units < cLine) : SeqAt.EqAt A s (.ref l) (.str b u) false := fun prog w E Q h => by
  obtain ⟨c, dd, dt, sl⟩ := o
  simp only at hc hd
  subst hc hd
  unfold eqBool
  refine wpAny_holding (wpAny_ite_split (fun z => absurd (eq_of_beq z) nofun) fun _ => ?_)
  exact wpAny_bind (rc_dict_str b u ho hu prog w E _ (wpAny_truthy_bool h))
theorem eq_str_dict {l : Addr} {o : Obj} {es : Array DictEntry} {n : Nat} (b : Str) (u : Tok) (ho : s.heap.get? l = some o) (hc : o.cls = .type "dict") (hd : o.data = .dict es n) (hu : A.units < cLine) : SeqAt.EqAt A s (.str b u) (.ref l) false := fun prog w E Q h => by
  obtain ⟨c, dd, dt, sl⟩ := o
  simp only at hc hd
  subst hc hd
  unfold eqBool
  refine wpAny_holding (wpAny_ite_split (fun z => absurd (eq_of_beq z) nofun) fun _ => ?_)
  exact wpAny_bind (rc_str_dict b u ho hu prog w E _ (wpAny_truthy_bool h))
end

/-! ### in a list, not in: some answer -/
/-- two data that == tells apart, or not -/
inductive Cmp : Dt → Dt → Prop
  | seq {d e : Dt} (h1 : d.seqs = true) (h2 : e.seqs = true) (l1 : d.py.canLay0 = true) (l2 : e.py.canLay0 = true) (z : d.py.depth ≤ 30) : Cmp d e
  | ds {a : Addr} {kvs : List (Key × Dt)} {x : Str} : Cmp (.dct a kvs) (.str x)
  | sd {a : Addr} {kvs : List (Key × Dt)} {x : Str} : Cmp (.str x) (.dct a kvs)
  | dd {a : Addr} {kvs kws : List (Key × Dt)} : Cmp (.dct a kvs) (.dct a kws)
def rInAny (K : PySem.W.Frag) : R2 := fun x y H Q => ∃ d ds, DX K H x d ∧ DX K H y (.lst ds) ∧ (∀ e ∈ ds, Cmp e d) ∧ ∀ b, Q (.bl b) H
section
variable {X : Cx}
theorem cmp_at {pins : List (Addr × Obj)} {σ : L2.St} {H : Hp} {s : Shared} (I : Inv X pins σ H s) {A : Around} (hu : A.units + 40 < cLine) {e d : Dt} {x y : V} {u v : Value} (c : Cmp e d) (hx : DX X.K H x e) (hy : DX X.K H y d) (rx : RelV x u) (ry : RelV y v) :
    ∃ b, SeqAt.EqAt A s u v b := by
  cases c with
  | seq h1 h2 l1 l2 z =>
    obtain ⟨as, r1⟩ := Dp.reads I _ _ _ (hx.dp h1) rx
    obtain ⟨bs, r2⟩ := Dp.reads I _ _ _ (hy.dp h2) ry
    have one : ReadsAll s.heap [u] [e.py] (as ++ []) := .cons r1 .nil
    have q := SeqAt.items_eqAt (A := A) (vs := #[u]) one r2 (by simp [PyData.canLayAll0, l1]) l2 (by simp only [PyData.depthAll]; omega) u (by simp)
    exact ⟨_, q.of_in1⟩
  | ds =>
    cases hx with
    | dct hs _ =>
      cases rx
      obtain ⟨t, rfl⟩ : ∃ t, v = Value.str _ t := by cases hy; exact ry
      obtain ⟨_, _, _, _, o, _, _, ho, hex, hdat, _⟩ := rd_ok I hs
      exact ⟨false, eq_dict_str _ t ho hex.1 hdat (by omega)⟩
  | sd =>
    cases hy with
    | dct hs _ =>
      cases ry
      obtain ⟨t, rfl⟩ : ∃ t, u = Value.str _ t := by cases hx; exact rx
      obtain ⟨_, _, _, _, o, _, _, ho, hex, hdat, _⟩ := rd_ok I hs
      exact ⟨false, eq_str_dict _ t ho hex.1 hdat (by omega)⟩
  | dd =>
    cases hx
    cases hy
    cases rx
    cases ry
    exact ⟨true, SeqAt.EqAt.same _⟩
theorem cmp_items {pins : List (Addr × Obj)} {σ : L2.St} {H : Hp} {s : Shared} (I : Inv X pins σ H s) {A : Around} (hu : A.units + 40 < cLine) {d : Dt} {y : V} {v : Value} (hy : DX X.K H y d) (ry : RelV y v) :
    ∀ {ds : List Dt} {xs : List V} {us : List Value}, (∀ e ∈ ds, Cmp e d) → DXs X.K H xs ds → Vals xs us → ∀ u ∈ us, ∃ b, SeqAt.EqAt A s u v b
  | [], _, _, _, h, r => by
    cases h
    cases r
    intro u hu'
    cases hu'
  | e :: ds, _, _, c, h, r => by
    cases h with
    | cons h1 h2 =>
      cases r with
      | cons r1 r2 =>
        intro u hm
        rcases List.mem_cons.mp hm with z | z
        · rw [z]; exact cmp_at I hu (c e List.mem_cons_self) h1 hy r1 ry
        · exact cmp_items I hu hy ry (fun e' he' => c e' (List.mem_cons_of_mem _ he')) h2 r2 u z
open Classical in
theorem pick_eq {A : Around} {s : Shared} {v : Value} {us : List Value} (h : ∀ u ∈ us, ∃ b, SeqAt.EqAt A s u v b) : ∃ e : Value → Bool, ∀ u ∈ us, SeqAt.EqAt A s u v (e u) :=
  ⟨fun u => if z : ∃ b, SeqAt.EqAt A s u v b then z.choose else false, fun u hu => by
    have z := h u hu
    show SeqAt.EqAt A s u v (dite _ _ _)
    rw [dif_pos z]
    exact z.choose_spec⟩
theorem op_inAny (hu : X.A.units + 64 < cLine) : OpR X (compareOp .In) (rInAny X.K) := by
  intro pins s σ H x y v u Q I rx ry h
  obtain ⟨d, ds, hx, hy, c, q⟩ := h
  cases hy with
  | lst hs ha =>
    cases ry
    obtain ⟨its, rv, hl, _⟩ := I.list hs
    obtain ⟨e, he⟩ := pick_eq (cmp_items I (A := X.A.in1) (by show X.A.units + 1 + 40 < cLine; omega) hx rx c ha rv)
    exact SeqAt.in_listAt e hl.isList (fun z hz => he z (by simpa using hz)) ⟨.bl _, H, I, rfl, q _⟩
theorem op_notInAny (hu : X.A.units + 64 < cLine) : OpR X (compareOp .NotIn) (rInAny X.K) := by
  intro pins s σ H x y v u Q I rx ry h
  obtain ⟨d, ds, hx, hy, c, q⟩ := h
  cases hy with
  | lst hs ha =>
    cases ry
    obtain ⟨its, rv, hl, _⟩ := I.list hs
    obtain ⟨e, he⟩ := pick_eq (cmp_items I (A := X.A.in1) (by show X.A.units + 1 + 40 < cLine; omega) hx rx c ha rv)
    exact SeqAt.notIn_listAt e hl.isList (fun z hz => he z (by simpa using hz)) ⟨.bl _, H, I, rfl, q _⟩
/-! ### == and != against the empty list, the empty tuple -/
def rEqNil (K : PySem.W.Frag) : R2 := fun x y H Q => ∃ a b xs, x = .ref a ∧ y = .ref b ∧ SqL K H a xs ∧ SqL K H b [] ∧ Q (.bl xs.isEmpty) H
def rNeNil (K : PySem.W.Frag) : R2 := fun x y H Q => ∃ a b xs, x = .ref a ∧ y = .ref b ∧ SqL K H a xs ∧ SqL K H b [] ∧ Q (.bl (!xs.isEmpty)) H
theorem op_eqNil (hu : X.A.units + 64 < cLine) : OpR X (compareOp .Eq) (rEqNil X.K) := by
  intro pins s σ H x y v u Q I rx ry h
  obtain ⟨a, b, xs, rfl, rfl, hs, ht, q⟩ := h
  cases rx
  cases ry
  obtain ⟨its, rv, hl, _⟩ := I.list hs
  obtain ⟨its2, rv2, hl2, _⟩ := I.list ht
  cases rv2
  cases rv with
  | nil => exact SeqAt.eq_listAt (e := fun _ => true) hl.isList hl2.isList rfl (by omega) (fun j h1 => absurd h1 (by simp)) ⟨.bl _, H, I, rfl, q⟩
  | cons r1 r2 => exact SeqAt.eq_list_lengthsAt hl.isList hl2.isList (by simp) (by omega) ⟨.bl _, H, I, rfl, q⟩
theorem op_neNil (hu : X.A.units + 64 < cLine) : OpR X (compareOp .NotEq) (rNeNil X.K) := by
  intro pins s σ H x y v u Q I rx ry h
  obtain ⟨a, b, xs, rfl, rfl, hs, ht, q⟩ := h
  cases rx
  cases ry
  obtain ⟨its, rv, hl, _⟩ := I.list hs
  obtain ⟨its2, rv2, hl2, _⟩ := I.list ht
  cases rv2
  cases rv with
  | nil => exact SeqAt.RcNeAt.lists (e := fun _ => true) hl.isList hl2.isList rfl (by omega) (fun j h1 => absurd h1 (by simp)) _ _ _ _ ⟨.bl _, H, I, rfl, q⟩
  | cons r1 r2 => exact SeqAt.RcNeAt.lists_lengths hl.isList hl2.isList (by simp) (by omega) _ _ _ _ ⟨.bl _, H, I, rfl, q⟩
def rEqTNil (K : PySem.W.Frag) : R2 := fun x y H Q => ∃ a b xs, x = .ref a ∧ y = .ref b ∧ SqT K H a xs ∧ SqT K H b [] ∧ Q (.bl xs.isEmpty) H
theorem op_eqTNil (hu : X.A.units + 64 < cLine) : OpR X (compareOp .Eq) (rEqTNil X.K) := by
  intro pins s σ H x y v u Q I rx ry h
  obtain ⟨a, b, xs, rfl, rfl, hs, ht, q⟩ := h
  cases rx
  cases ry
  obtain ⟨its, rv, hl, _⟩ := I.tuple hs
  obtain ⟨its2, rv2, hl2, _⟩ := I.tuple ht
  cases rv2
  refine SeqAt.eq_tupleAt (e := fun _ => true) hl hl2 (by omega) (fun j h1 h2 => absurd h2 (by simp)) ⟨.bl _, H, I, ?_, q⟩
  cases rv with
  | nil => rfl
  | cons r1 r2 => show _ = Value.bool _; simp
end
section
variable {K : PySem.W.Frag} {Ψ : Dt → Prop} {d : Dt} {ds es : List Dt}
theorem od_eqNil (h : Ψ (.bl ds.isEmpty)) : OD K (rEqNil K) (.lst ds) (.lst []) Ψ := fun M H u v m h1 h2 Q q => by
  cases h1 with
  | lst hs ha =>
    cases h2 with
    | lst ht hb =>
      cases hb
      have e := ha.len
      refine ⟨_, _, _, rfl, rfl, (cut_sub M H).seq hs, (cut_sub M H).seq ht, ?_⟩
      cases ha with
      | nil => exact q _ H _ (Same.refl H) (.bl _) h
      | cons _ _ => exact q _ H _ (Same.refl H) (.bl _) h
theorem od_neNil (h : Ψ (.bl (!ds.isEmpty))) : OD K (rNeNil K) (.lst ds) (.lst []) Ψ := fun M H u v m h1 h2 Q q => by
  cases h1 with
  | lst hs ha =>
    cases h2 with
    | lst ht hb =>
      cases hb
      refine ⟨_, _, _, rfl, rfl, (cut_sub M H).seq hs, (cut_sub M H).seq ht, ?_⟩
      cases ha with
      | nil => exact q _ H _ (Same.refl H) (.bl _) h
      | cons _ _ => exact q _ H _ (Same.refl H) (.bl _) h
theorem od_eqTNil (h : Ψ (.bl ds.isEmpty)) : OD K (rEqTNil K) (.tup ds) (.tup []) Ψ := fun M H u v m h1 h2 Q q => by
  cases h1 with
  | tup hs ha =>
    cases h2 with
    | tup ht hb =>
      cases hb
      refine ⟨_, _, _, rfl, rfl, same_T (cut_sub M H) hs, same_T (cut_sub M H) ht, ?_⟩
      cases ha with
      | nil => exact q _ H _ (Same.refl H) (.bl _) h
      | cons _ _ => exact q _ H _ (Same.refl H) (.bl _) h
theorem od_inAny (c : ∀ e ∈ ds, Cmp e d) (h : ∀ b, Ψ (.bl b)) : OD K (rInAny K) d (.lst ds) Ψ := fun M H u v m h1 h2 Q q =>
  ⟨d, ds, h1.mono (cut_sub M H), h2.mono (cut_sub M H), c, fun b => q _ H _ (Same.refl H) (.bl b) (h b)⟩
/-- a text among texts -/
theorem flat_strs' : ∀ xs : List Str, (xs.map V.str).all flatV = true
  | [] => rfl
  | _ :: xs => flat_strs' xs
theorem inV_strs (x : Str) : ∀ xs : List Str, inV (.str x) (xs.map V.str) = decide (x ∈ xs)
  | [] => rfl
  | y :: ys => by
    have ih := inV_strs x ys
    show (eqV (.str y) (.str x) || inV (.str x) (ys.map V.str)) = _
    rw [ih]
    show ((y == x) || _) = _
    by_cases e : y = x
    · subst e; simp
    · rw [beq_eq_false_iff_ne.mpr e, Bool.false_or]
      exact decide_eq_decide.mpr ⟨fun h => List.mem_cons_of_mem _ h, fun h => by
        rcases List.mem_cons.mp h with z | z
        · exact absurd z.symm e
        · exact z⟩
theorem od_inS {neg : Bool} {x : Str} {xs : List Str} {d : Dt} (hs : seqD d = some (xs.map Dt.str)) (h : Ψ (.bl (if neg then !decide (x ∈ xs) else decide (x ∈ xs)))) : OD K (rIn K neg) (.str x) d Ψ := fun M H u v m h1 h2 Q q => by
  rw [h1.str_eq]
  have fin : ∀ p, (SqL K H p (xs.map V.str) ∨ SqT K H p (xs.map V.str)) → rIn K neg (.str x) (.ref p) H Q := fun p hp =>
    ⟨p, _, rfl, hp, rfl, flat_strs' xs, by rw [inV_strs]; exact q _ H _ (Same.refl H) (.bl _) h⟩
  cases h2 with
  | lst hs' ha => cases hs; rw [ha.strs] at hs'; exact fin _ (.inl ((cut_sub M H).seq hs'))
  | tup hs' ha => cases hs; rw [ha.strs] at hs'; exact fin _ (.inr (same_T (cut_sub M H) hs'))
  | _ => cases hs
/-- any datum among texts, flat ones -/
theorem od_inF {neg : Bool} {vs : List V} {x : V} {xs : List Dt} {d e : Dt} (hs : seqD e = some xs) (hx : ∀ H, DX K H x d) (hxs : ∀ H ws, DXs K H ws xs → ws = vs) (f1 : flatV x = true) (f2 : vs.all flatV = true) (hd : ∀ H w, DX K H w d → w = x)
    (h : Ψ (.bl (if neg then !inV x vs else inV x vs))) : OD K (rIn K neg) d e Ψ := fun M H u v m h1 h2 Q q => by
  rw [hd _ _ h1]
  have fin : ∀ p, (SqL K H p vs ∨ SqT K H p vs) → rIn K neg x (.ref p) H Q := fun p hp => ⟨p, _, rfl, hp, f1, f2, q _ H _ (Same.refl H) (.bl _) h⟩
  cases h2 with
  | lst hs' ha => cases hs; rw [hxs _ _ ha] at hs'; exact fin _ (.inl ((cut_sub M H).seq hs'))
  | tup hs' ha => cases hs; rw [hxs _ _ ha] at hs'; exact fin _ (.inr (same_T (cut_sub M H) hs'))
  | _ => cases hs

/-! ### methods of texts with one argument; join -/
def MD (K : PySem.W.Frag) (r : V → List V → Hp → VK → Prop) (d e : Dt) (Ψ : Dt → Prop) : Prop :=
  ∀ (M : Md) (H : Hp) (x y : V), MOk M H → DX K (cut M H) x d → DX K (cut M H) y e → ∀ Q : VK, (∀ v H2 d, Same H H2 → DX K (cut M H2) v d → Ψ d → Q v H2) → r x [y] H Q
variable {pf : Bool} {ρ : List Sl} {ta te : TE} {Φ : Dt → List Sl → Prop}
theorem w_m1 {r : V → List V → Hp → VK → Prop} (h : Wp K pf ta ρ fun d ρ1 => (∃ z, d = .str z) ∧ Wp K pf te ρ1 fun e ρ2 => MD K r d e fun g => Φ g ρ2) : Wp K pf (tM1 r ta te) ρ Φ := fun M σ H S Q q =>
  h M σ H S _ fun v H1 d ρ1 s1 S1 x1 ⟨⟨z, ez⟩, k⟩ => by
    subst ez
    refine ⟨⟨z, x1.str_eq⟩, k M σ H1 S1 _ fun v2 H2 e ρ2 s2 S2 x2 k2 => ?_⟩
    exact k2 M H2 v v2 S2.mok (x1.mono s2.dx) x2 _ fun w H3 g e3 x3 f => q w H3 g ρ2 ((s1.trans s2).trans (Tr.same pf M e3)) (S2.same e3) x3 f
theorem md_join {z : Str} {xs : List Str} (hs : seqD d = some (xs.map Dt.str)) (hz : (xs.map (·.length)).sum + xs.length * z.length ≤ 16777216) (h : Ψ (.str (Txt.join z xs))) :
    MD K (fun x xs H Q => ∃ a p, ∃ ys : List Str, x = .str a ∧ xs = [.ref p] ∧ (SqL K H p (ys.map V.str) ∨ SqT K H p (ys.map V.str)) ∧ (ys.map (·.length)).sum + ys.length * a.length ≤ 16777216 ∧ Q (.str (Txt.join a ys)) H) (.str z) d Ψ := fun M H u v m h1 h2 Q q => by
  rw [h1.str_eq]
  cases h2 with
  | lst hs' ha => cases hs; rw [ha.strs] at hs'; exact ⟨z, _, xs, rfl, rfl, .inl ((cut_sub M H).seq hs'), hz, q _ H _ (Same.refl H) (.str _) h⟩
  | tup hs' ha => cases hs; rw [ha.strs] at hs'; exact ⟨z, _, xs, rfl, rfl, .inr (same_T (cut_sub M H) hs'), hz, q _ H _ (Same.refl H) (.str _) h⟩
  | _ => cases hs
/-! ### displays of dicts -/
theorem w_dnewK (h : ∀ a, Φ (.dct a []) ρ) : Wp K pf tDNewK ρ Φ := fun M σ H S Q q p hp =>
  q (.ref p) _ (.dct p []) ρ (Tr.same pf M (same_new hp)) (S.same (same_new hp)) (.dct (.inl (cut_at (S.mok.new hp) upd_same)) .nil) (h p)
/-- one written pair of a text and a flat datum or a list .. that is told by Wp -/
theorem w_disp1 {k : Str} (h : Wp K true te ρ fun d ρ1 => ∀ a, Φ (.dct a [(.inr k, d)]) ρ) : Wp K pf (tDisp [(tC (.str k), te)]) ρ Φ := fun M σ H S Q q p hp => by
  have S1 := S.aside (o := .dK []) hp (same_new hp) upd_same
  refine h { M with F := p :: M.F } σ _ S1 _ fun v H2 d ρ' s S2 x f => ⟨s.sm rfl p _ upd_same, [(.inr k, v)], rfl, by show 1 ≤ 15; decide, ?_⟩
  have e : mergeK [] [((.inr k : Key), v)] = [((.inr k : Key), v)] := rfl
  rw [e]
  have all : Same H (upd H2 p (.dK [((.inr k : Key), v)])) := fun a u z => by
    rw [upd_ne (ne_of_none z hp)]
    exact s.sm rfl a u (by rw [upd_ne (ne_of_none z hp)]; exact z)
  have x' : DX K (cut M (upd H2 p (.dK [((.inr k : Key), v)]))) v d := x.mono fun a u z => by
    obtain ⟨c, y⟩ := cut_of z
    have na : a ≠ p := fun n => c (.inr (.inl (by rw [n]; exact List.mem_cons_self)))
    exact cut_at (fun t => c (has_aside a t)) (by rw [upd_ne na]; exact y)
  exact q (.ref p) _ (.dct p [(.inr k, d)]) ρ (Tr.same pf M all) (S.same all) (.dct (.inl (cut_at (S.mok.new hp) upd_same)) (.cons x' .nil)) (f p)
end
end DL

/-! Data level: the pen opened, defs' promises from their bodies. -/
namespace DL
open PySem PySem.Spec PyProof.Rows L2
variable [Tb]

def powns (es : List Dt) (ρ : List Sl) : List Sl := ρ.map fun s => match s with
  | .pen _ => .pown es
  | .pown _ => .pown es
  | s => s
def pdats (es : List Dt) (ρ : List Sl) : List Sl := ρ.map fun s => match s with
  | .pen _ => .dat (.lst es)
  | .pown _ => .dat (.lst es)
  | s => s
section
variable {K : PySem.W.Frag} {pf : Bool} {ρ : List Sl} {te ti : TE} {tt : TT} {t : TS} {D : DE} {i : Nat} {Φ : Dt → List Sl → Prop}
theorem Sd.writeP {M : Md} {H : Hp} {σ : L2.St} {p : Addr} {ws : List V} {es : List Dt} {o0 : HO} (S : Sd K M H σ ρ) (hp : M.p = some p) (h00 : ∃ vs0, H p = some (.lst vs0)) (x : DXs K (cut M H) ws es) : Sd K M (upd H p (.lst ws)) σ (powns es ρ) ∧ Stp M H M (upd H p (.lst ws)) := by
  have has : M.has p := .inl (.inl hp)
  have sc : Same (cut M H) (cut M (upd H p (.lst ws))) := fun a u z => by
    obtain ⟨c, y⟩ := cut_of z
    exact cut_at c (by rw [upd_ne fun n => c (by rw [n]; exact has)]; exact y)
  refine ⟨⟨by unfold powns; rw [List.length_map]; exact S.len, by unfold powns; rw [List.length_map]; exact S.olen, ⟨fun a h => ?_, S.mok.pF, S.mok.FO, S.mok.nd, S.mok.tbU rfl (fun a ha ps z => by rw [upd_ne fun n => (by obtain ⟨vs0, h00⟩ := h00; rw [n, h00] at z; cases z)]; exact z) sc⟩, fun j s h => ?_⟩, ⟨rfl, rfl, fun a o z c d => ⟨by rw [upd_ne fun n => c (.inl (by rw [n]; exact hp))]; exact z, d⟩⟩⟩
  · by_cases n : a = p
    · exact ⟨_, by rw [n]; exact upd_same⟩
    · obtain ⟨u, z⟩ := S.mok.live a h
      exact ⟨u, by rw [upd_ne n]; exact z⟩
  · unfold powns at h
    rw [List.getElem?_map] at h
    cases e : ρ[j]? with
    | none => rw [e] at h; cases h
    | some s0 =>
      rw [e] at h
      obtain ⟨o, h1, h2⟩ := S.ok j s0 e
      refine ⟨o, h1, ?_⟩
      have h := Option.some.inj h
      cases s0 with
      | any => subst h; trivial
      | dat d => subst h; obtain ⟨v, a1, a2⟩ := h2; exact ⟨v, a1, a2.mono sc⟩
      | val u d => subst h; obtain ⟨a1, a2⟩ := h2; exact ⟨a1, a2.mono sc⟩
      | own es' =>
        subst h
        obtain ⟨l, vs, a1, a2, a3, a4⟩ := h2
        exact ⟨l, vs, a1, a2, by rw [upd_ne fun y => (S.mok.pp hp).2 (by rw [← y]; exact List.mem_of_getElem? a2)]; exact a3, a4.mono sc⟩
      | obj C0 b0 ns0 es' =>
        subst h
        obtain ⟨l, dx0, vs, a1, a2, a3, a5, a4⟩ := h2
        exact ⟨l, dx0, vs, a1, a2, by rw [upd_ne fun y => (S.mok.pp hp).2 (by rw [← y]; exact List.mem_of_getElem? a2)]; exact a3, a5, a4.mono sc⟩
      | ownd es' =>
        subst h
        obtain ⟨l, vs, a1, a2, a3, a4⟩ := h2
        exact ⟨l, vs, a1, a2, by rw [upd_ne fun y => (S.mok.pp hp).2 (by rw [← y]; exact List.mem_of_getElem? a2)]; exact a3, a4.mono sc⟩
      | pen m =>
        subst h
        obtain ⟨p', a1, a2, _⟩ := h2
        obtain rfl : p' = p := Option.some.inj (a2.symm.trans hp)
        exact ⟨p', ws, a1, a2, upd_same, x.mono sc⟩
      | pown es' =>
        subst h
        obtain ⟨p', _, a1, a2, _⟩ := h2
        obtain rfl : p' = p := Option.some.inj (a2.symm.trans hp)
        exact ⟨p', ws, a1, a2, upd_same, x.mono sc⟩
theorem ws_setpen {ds0 : List Dt} (e0 : ρ[i]? = some (.pown ds0)) (h : Wp K pf te ρ fun d ρ1 => Wp K pf ti ρ1 fun dj ρ2 => ∃ (ds : List Dt) (j : Nat), ρ2[i]? = some (.pown ds) ∧ dj = .int j ∧ j < ds.length ∧ D.nx (powns (ds.set j d) ρ2)) :
    Ws K (tAsg te (gSub (tVar i) ti rSetL)) ρ D := fun M σ H S E k => by
  obtain ⟨o, h1, p, vs0, e1, e2, e3, e4⟩ := S.ok i _ e0
  subst e1
  refine h M σ H S _ fun v H1 d ρ1 s1 S1 x1 h2 => ?_
  refine ⟨.ref p, h1, h2 M σ H1 S1 _ fun w H2 dj ρ2 s2 S2 x2 ⟨ds, j, g1, g2, g3, g4⟩ => ?_⟩
  subst g2
  obtain ⟨o', z1, p', vs, y1, y2, y3, y4⟩ := S2.ok i _ g1
  obtain rfl : p' = p := Option.some.inj (y2.symm.trans e2)
  refine ⟨p', vs, j, j, rfl, x2.int_eq, y3, ?_, ?_⟩
  · unfold ixN
    rw [if_pos (Int.natCast_nonneg j), if_pos (by rw [y4.len]; exact Int.ofNat_lt.mpr g3)]
    rfl
  · obtain ⟨S3, s3⟩ := S2.writeP (o0 := .lst vs) y2 ⟨vs, y3⟩ (y4.set (x1.mono s2.dx) j)
    exact k.nx M σ _ _ ((s1.st.trans s2.st).trans s3) S3 g4
/-- the pen read: as long as nothing is written it is a list like any other -/
theorem Sd.freezeP {M : Md} {H : Hp} {σ : L2.St} {ds : List Dt} (S : Sd K M H σ ρ) (hs : ρ[i]? = some (.pown ds)) : Sd K { M with p := none } H σ (pdats ds ρ) := by
  obtain ⟨o0, h0, p, vs, e0, hp, e2, e3⟩ := S.ok i _ hs
  have has : ∀ a, ({ M with p := none } : Md).has a → M.has a := fun a h => by
    rcases h with h | h | h
    · exact (Md.inP0 rfl a h).elim
    · exact .inr (.inl h)
    · exact .inr (.inr h)
  have sc : Same (cut M H) (cut { M with p := none } H) := cut_le has
  have np : ¬ ({ M with p := none } : Md).has p := fun z => by
    rcases z with z | z | z
    · exact (Md.inP0 rfl p z).elim
    · exact (S.mok.pp hp).1 z
    · exact (S.mok.pp hp).2 z
  refine ⟨by unfold pdats; rw [List.length_map]; exact S.len, by unfold pdats; rw [List.length_map]; exact S.olen, ⟨fun a h => S.mok.live a (has a h), fun a h => (Md.inP0 rfl a h).elim, S.mok.FO, S.mok.nd, fun t ht => (nomatch ht)⟩, fun j s h => ?_⟩
  unfold pdats at h
  rw [List.getElem?_map] at h
  cases e : ρ[j]? with
  | none => rw [e] at h; cases h
  | some s0 =>
    rw [e] at h
    obtain ⟨o, h1, h2⟩ := S.ok j s0 e
    refine ⟨o, h1, ?_⟩
    have h := Option.some.inj h
    cases s0 with
    | any => subst h; trivial
    | dat d => subst h; obtain ⟨v, a1, a2⟩ := h2; exact ⟨v, a1, a2.mono sc⟩
    | val u d => subst h; obtain ⟨a1, a2⟩ := h2; exact ⟨a1, a2.mono sc⟩
    | own es' => subst h; obtain ⟨l, vs', a1, a2, a3, a4⟩ := h2; exact ⟨l, vs', a1, a2, a3, a4.mono sc⟩
    | obj C0 b0 ns0 es' => subst h; obtain ⟨l, dx0, vs', a1, a2, a3, a5, a4⟩ := h2; exact ⟨l, dx0, vs', a1, a2, a3, a5, a4.mono sc⟩
    | ownd es' => subst h; obtain ⟨l, vs', a1, a2, a3, a4⟩ := h2; exact ⟨l, vs', a1, a2, a3, a4.mono sc⟩
    | pen m =>
      subst h
      obtain ⟨p', a1, a2, _⟩ := h2
      obtain rfl : p' = p := Option.some.inj (a2.symm.trans hp)
      exact ⟨.ref p', a1, .lst (.inl (.inl (cut_at np e2))) (e3.mono sc)⟩
    | pown es' =>
      subst h
      obtain ⟨p', _, a1, a2, _⟩ := h2
      obtain rfl : p' = p := Option.some.inj (a2.symm.trans hp)
      exact ⟨.ref p', a1, .lst (.inl (.inl (cut_at np e2))) (e3.mono sc)⟩
theorem wp_pen {ds : List Dt} (hs : ρ[i]? = some (.pown ds)) (h : Wp K true te (pdats ds ρ) fun d _ => flatD d = true ∧ Φ d ρ) : Wp K pf te ρ Φ := fun M σ H S Q q =>
  h _ σ H (S.freezeP hs) Q fun v H2 d ρ' s S3 x ⟨f, z⟩ => q v H2 d ρ (Tr.same pf M (s.sm rfl)) (S.same (s.sm rfl)) (flat_any f x) z
theorem wt_pen {ds : List Dt} {Θ : Bool → List Sl → Prop} (hs : ρ[i]? = some (.pown ds)) (h : Wt K true tt (pdats ds ρ) fun b _ => Θ b ρ) : Wt K pf tt ρ Θ := fun M σ H S Q q =>
  h _ σ H (S.freezeP hs) Q fun b H2 ρ' s S3 z => q b H2 ρ (Tr.same pf M (s.sm rfl)) (S.same (s.sm rfl)) z
theorem Sd.openP {M : Md} {H : Hp} {σ : L2.St} {n : Nat} (S : Sd K M H σ ρ) (hs : ρ[i]? = some (.pen n)) : ∃ (ns : List Int) (c : Nat) (g : Int), c ≤ n ∧ 0 ≤ g ∧ ns.length ≤ 63 ∧ Sd K M H σ (powns [.lst (ns.map Dt.int), .int c, .int g] ρ) := by
  obtain ⟨o0, h0, p, e0, hp, l, ns, c, g, b1, b2, b3, b4, b5⟩ := S.ok i _ hs
  have asInts : ∀ ns : List Int, DXs K (cut M H) (ns.map V.int) (ns.map Dt.int) := fun ns => by
    induction ns with
    | nil => exact .nil
    | cons n r ih => exact .cons (.int n) ih
  have xs : DXs K (cut M H) [.ref l, .int c, .int g] [.lst (ns.map Dt.int), .int c, .int g] := .cons (.lst b2 (asInts ns)) (.cons (.int _) (.one (.int _)))
  refine ⟨ns, c, g, b3, b4, b5, by unfold powns; rw [List.length_map]; exact S.len, by unfold powns; rw [List.length_map]; exact S.olen, S.mok, fun j s h => ?_⟩
  unfold powns at h
  rw [List.getElem?_map] at h
  cases e : ρ[j]? with
  | none => rw [e] at h; cases h
  | some s0 =>
    rw [e] at h
    obtain ⟨o, h1, h2⟩ := S.ok j s0 e
    refine ⟨o, h1, ?_⟩
    have h := Option.some.inj h
    cases s0 with
    | any => subst h; trivial
    | dat d => subst h; exact h2
    | val u d => subst h; exact h2
    | own es' => subst h; exact h2
    | obj C0 b0 ns0 es' => subst h; exact h2
    | ownd es' => subst h; exact h2
    | pen m =>
      subst h
      obtain ⟨p', a1, a2, _⟩ := h2
      obtain rfl : p' = p := Option.some.inj (a2.symm.trans hp)
      exact ⟨p', _, a1, a2, b1, xs⟩
    | pown es' =>
      subst h
      obtain ⟨p', _, a1, a2, _⟩ := h2
      obtain rfl : p' = p := Option.some.inj (a2.symm.trans hp)
      exact ⟨p', _, a1, a2, b1, xs⟩
theorem ws_open {n : Nat} (hs : ρ[i]? = some (.pen n)) (h : ∀ (ns : List Int) (c : Nat) (g : Int), c ≤ n → 0 ≤ g → ns.length ≤ 63 → Ws K t (powns [.lst (ns.map Dt.int), .int c, .int g] ρ) D) : Ws K t ρ D := fun M σ H S E k =>
  let ⟨ns, c, g, h1, h2, h3, S2⟩ := S.openP hs
  h ns c g h1 h2 h3 M σ H S2 E k
/-- what is left of the pen in a slot -/
inductive PenS (n : Nat) : Sl → Prop
  | pen {m : Nat} (h : m ≤ n) : PenS n (.pen m)
  | pown {ns : List Int} {c : Nat} {g : Int} (h1 : c ≤ n) (h2 : 0 ≤ g) (h3 : ns.length ≤ 63) : PenS n (.pown [.lst (ns.map Dt.int), .int c, .int g])
theorem Pen.le {M : Md} {H : Hp} {p : Addr} {m n : Nat} (h : Pen K M H p m) (e : m ≤ n) : Pen K M H p n := by
  obtain ⟨l, ns, c, g, b1, b2, b3, b4⟩ := h
  exact ⟨l, ns, c, g, b1, b2, Nat.le_trans b3 e, b4⟩
theorem PenS.of {M : Md} {H : Hp} {j n : Nat} {o : Option V} {s : Sl} (h : PenS n s) (k : SlOk K M H j o s) : ∃ p, M.p = some p ∧ Pen K M H p n := by
  cases h with
  | pen h => obtain ⟨p, _, a2, a3⟩ := k; exact ⟨p, a2, a3.le h⟩
  | @pown ns c g h1 h2 h3 =>
    obtain ⟨p, vs, _, a2, a3, a4⟩ := k
    cases a4 with
    | cons x1 r1 =>
      cases r1 with
      | cons x2 r2 =>
        cases r2 with
        | cons x3 r3 =>
          cases r3
          rw [x2.int_eq, x3.int_eq] at a3
          cases x1 with
          | lst hs ha =>
            rw [ha.ints] at hs
            exact ⟨p, a2, _, ns, c, g, a3, hs, h1, h2, h3⟩
end

/-! ### a def's promise from its body -/
def slots (ds : List Dt) (m : Nat) : List Sl := ds.map Sl.dat ++ List.replicate m .any
section
variable {P : Program} {w : World} {K : PySem.W.Frag} {mg : Str → Option Value} {base : Heap} {t : TS}
theorem start_at {N : List Str} {vs : List V} {j : Nat} (h : j < vs.length) : (L2.start N vs)[j]? = vs[j]?.map some := by
  unfold L2.start
  rw [List.getElem?_append_left (by rw [List.length_map]; exact h), List.getElem?_map]
theorem sd_start {N : List Str} {M : Md} {H : Hp} {vs : List V} {ds : List Dt} (hO : M.O = []) (m : MOk M H) (x : DXs K (cut M H) vs ds) (hl : vs.length ≤ N.length) : Sd K (M.body N.length) H (L2.start N vs) (slots ds (N.length - ds.length)) := by
  have e := x.len
  have ec : cut (M.body N.length) H = cut M H := cut_congr (Md.body_has hO N.length) H
  refine ⟨?_, ?_, m.body hO _, fun j s h => ?_⟩
  · unfold L2.start slots
    rw [List.length_append, List.length_append, List.length_map, List.length_map, List.length_replicate, List.length_replicate, e]
  · unfold slots Md.body
    rw [List.length_append, List.length_map, List.length_replicate, List.length_replicate]
    omega
  · unfold slots at h
    by_cases hj : j < ds.length
    · rw [List.getElem?_append_left (by rw [List.length_map]; exact hj), List.getElem?_map] at h
      cases ed : ds[j]? with
      | none => rw [ed] at h; cases h
      | some d =>
        rw [ed] at h
        have h := Option.some.inj h
        subst h
        obtain ⟨v, h1, h2⟩ := x.getd ed
        refine ⟨some v, ?_, v, rfl, by rw [ec]; exact h2⟩
        rw [start_at (by rw [e]; exact hj), h1]
        rfl
    · rw [List.getElem?_append_right (by rw [List.length_map]; omega), List.getElem?_replicate] at h
      split at h
      · have h := Option.some.inj h
        subst h
        refine ⟨none, ?_, trivial⟩
        unfold L2.start
        rw [List.getElem?_append_right (by rw [List.length_map]; omega), List.getElem?_replicate, List.length_map]
        rw [if_pos (by rename_i hm; rw [List.length_map] at hm; omega)]
      · cases h
/-- a def that changes nothing -/
theorem read_P {N : List Str} {W : List Dt → (Dt → Prop) → Prop} {vs : List V} {H : Hp} {Q : VK} {E : XK} (h : spP K W vs H Q E) (hl : vs.length ≤ N.length)
    (b : ∀ ds Φ, ds.length = vs.length → W ds Φ → Ws K t (slots ds (N.length - ds.length)) { nx := fun _ => Φ .non, rt := fun d _ => Φ d }) : t { nx := fun _ H' => Q .non H', rt := Q } (L2.start N vs) H := by
  obtain ⟨M, ds, Φ, hp, hO, m, x, w, q⟩ := h
  have keep : ∀ {M' : Md} {H' : Hp}, Stp (M.body N.length) H M' H' → Same H H' := fun s a o z => (s.keep a o z (Md.inP0 hp a) no_rep).1
  have sub : ∀ {M' : Md} {H' : Hp}, Stp (M.body N.length) H M' H' → Same (cut M' H') (cut M H') := fun {M' H'} s => cut_le fun a z => by
    rcases z with z | z | z
    · exact (Md.inP0 hp a z).elim
    · exact .inr (.inl (by rw [s.F]; exact z))
    · rw [hO] at z; cases z
  refine b ds Φ x.len.symm w (M.body N.length) _ H (sd_start hO m x hl) _ ⟨fun M' σ' H' ρ' s S z => q .non H' .non (keep s) .non z, fun M' v H' d ρ' σ' s S x z => q v H' d (keep s) (x.mono (sub s)) z, fun M' σ' H' ρ' s S z => z, fun M' σ' H' ρ' s S z => z, fun _ _ _ _ _ _ _ _ _ _ _ _ z => z⟩
/-- a def that draws -/
theorem read_N {N : List Str} {W : Nat → List Dt → (Dt → Nat → Prop) → Prop} {vs : List V} {H : Hp} {Q : VK} {E : XK} (h : spN K W vs H Q E) (hl : vs.length ≤ N.length)
    (b : ∀ n ds Φ, ds.length + 1 = vs.length → W n ds Φ → Ws K t (.pen n :: slots ds (N.length - (ds.length + 1))) { nx := fun ρ => ∃ n' s, ρ[0]? = some s ∧ PenS n' s ∧ Φ .non n', rt := fun d ρ => ∃ n' s, ρ[0]? = some s ∧ PenS n' s ∧ Φ d n' }) :
    t { nx := fun _ H' => Q .non H', rt := Q } (L2.start N vs) H := by
  obtain ⟨M, p, n, ws, ds, Φ, rfl, hp, hO, m, P0, x, w, q⟩ := h
  have ec : ∀ H', cut (M.body N.length) H' = cut M H' := fun H' => cut_congr (Md.body_has hO N.length) H'
  have keep : ∀ {M' : Md} {H' : Hp}, Stp (M.body N.length) H M' H' → ∀ a o, H a = some o → ¬ M.inP a → H' a = some o := fun s a o z c => (s.keep a o z c no_rep).1
  have sub : ∀ {M' : Md} {H' : Hp}, Stp (M.body N.length) H M' H' → Same (cut M' H') (cut M H') := fun {M' H'} s => cut_le fun a z => by
    rcases z with z | z | z
    · exact .inl ((s.inP a).mpr z)
    · exact .inr (.inl (by rw [s.F]; exact z))
    · rw [hO] at z; cases z
  have tabs : ∀ {M' : Md} {H' : Hp}, Stp (M.body N.length) H M' H' → MOk M' H' → TabsM M H' := fun {M' H'} s m t ht => (m.tb t (by rw [s.ts]; exact ht)).step (fun _ z => z) (sub s)
  have pen : ∀ {M' : Md} {H' : Hp} {σ' : L2.St} {ρ' : List Sl} {n' : Nat} {sl : Sl}, Stp (M.body N.length) H M' H' → Sd K M' H' σ' ρ' → ρ'[0]? = some sl → PenS n' sl → Pen K M H' p n' := fun {M' H' σ' ρ' n' sl} s S e ps => by
    obtain ⟨o, _, k⟩ := S.ok 0 sl e
    obtain ⟨p', h1, l, ns, c, g, b1, b2, b3⟩ := ps.of k
    have e1 : M'.p = M.p := s.p
    obtain rfl : p' = p := Option.some.inj (h1.symm.trans (e1.trans hp))
    exact ⟨l, ns, c, g, b1, (sub s).seq b2, b3⟩
  have S0 : Sd K (M.body N.length) H (L2.start N (.ref p :: ws)) (.pen n :: slots ds (N.length - (ds.length + 1))) := by
    have hx : DXs K (cut M H) (V.int 0 :: ws) (Dt.int 0 :: ds) := .cons (.int 0) x
    have S1 := sd_start (N := N) hO m hx (by simpa using hl)
    refine ⟨?_, ?_, S1.mok, fun j s h => ?_⟩
    · have := S1.len
      unfold slots L2.start at this ⊢
      simp only [List.length_append, List.length_map, List.length_replicate, List.length_cons] at this ⊢
      omega
    · have := S1.olen
      unfold slots at this ⊢
      simp only [List.length_append, List.length_map, List.length_replicate, List.length_cons] at this ⊢
      omega
    · cases j with
      | zero =>
        have h := Option.some.inj (show some (Sl.pen n) = some s from h)
        subst h
        obtain ⟨l, ns, c, g, b1, b2, b3⟩ := P0
        exact ⟨some (.ref p), rfl, p, rfl, hp, l, ns, c, g, b1, by rw [ec]; exact b2, b3⟩
      | succ j =>
        obtain ⟨o, h1, h2⟩ := S1.ok (j + 1) s (by
          show (slots (Dt.int 0 :: ds) _)[j + 1]? = _
          unfold slots at h ⊢
          simpa using h)
        refine ⟨o, ?_, h2⟩
        unfold L2.start at h1 ⊢
        simpa using h1
  refine b n ds Φ (by rw [List.length_cons, x.len]) w (M.body N.length) _ H S0 _ ⟨fun M' σ' H' ρ' s S ⟨n', sl, e, ps, z⟩ => q .non H' .non n' ⟨keep s, tabs s S.mok⟩ (pen s S e ps) .non z, fun M' v H' d ρ' σ' s S x ⟨n', sl, e, ps, z⟩ => q v H' d n' ⟨keep s, tabs s S.mok⟩ (pen s S e ps) (x.mono (sub s)) z, fun M' σ' H' ρ' s S z => z, fun M' σ' H' ρ' s S z => z, fun _ _ _ _ _ _ _ _ _ _ _ _ z => z⟩
end
end DL

/-! set(t) of a tuple, whatever its things are: J i tells what is known of the set when i of them are in it. -/
namespace DL
open PySem PySem.Spec PyProof.Rows L2
variable [Tb]

/-- what stands in h0 stands in h -/
abbrev Kp (h0 h : Heap) : Prop := ∀ b o, h0.get? b = some o → h.get? b = some o
theorem tup_kp {h0 h : Heap} {l : Addr} {items : Array Value} (t : h0.IsTuple l items) (k : Kp h0 h) : h.IsTuple l items := t.elim fun o z => ⟨o, k _ _ z.1, z.2⟩
/-- an empty set, just made -/
def objS (w : World) : Obj := { cls := .type "set", dict := none, data := .set #[] 0 (.fresh 0 0 (!w.params.followText "set-order")) }
/-- one more thing put in -/
def Fills (P : Program) (w : World) (A : Around) (h0 : Heap) (S : Addr) (items : Array Value) (J : Nat → Heap → Prop) : Prop :=
  ∀ (i : Nat) (v : Value) (s : Shared) (Q : Bool → Shared → Prop) (E : Value → Shared → Prop), items[i]? = some v → J i s.heap → Kp h0 s.heap →
    (∀ b h' tk, Heap.SameBut S s.heap h' → J (i + 1) h' → Q b { s with heap := h', toks := tk }) → wpAny (model P w) A (setAdd S v) Q E s
/-- what is known of the set hangs on its own object and on what stood before -/
structure Own1 (h0 : Heap) (S : Addr) (J : Nat → Heap → Prop) : Prop where
  at_ : ∀ i h h', J i h → h'.get? S = h.get? S → Kp h0 h' → J i h'
  there : ∀ i h, J i h → ∃ o, h.get? S = some o
section
variable {P : Program} {w : World} {A : Around} {E : Value → Shared → Prop} {h0 : Heap} {S I l : Addr} {items : Array Value} {J : Nat → Heap → Prop} {R : Result → Shared → Prop}
theorem kp_but {h h' : Heap} {b : Addr} (k : Kp h0 h) (n : h0.get? b = none) (x : ∀ c o, c ≠ b → h.get? c = some o → h'.get? c = some o) : Kp h0 h' := fun c o e => x c o (fun z => by rw [z, n] at e; cases e) (k c o e)
theorem fillG (hh : A.in1.handled = none) (hl : h0.IsTuple l items) (own : Own1 h0 S J) (put : Fills P w A.in1 h0 S items J) (nS : h0.get? S = none) (nI : h0.get? I = none) (ne : S ≠ I) :
    ∀ (m i : Nat) (h : Heap) (g : Array GenState) (d : Drawn) (tk : Nat) (os : OsState), i + m = items.size → h.IsTupleIter I l i → J i h → Kp h0 h →
      (∀ h' tk', J items.size h' → Kp h0 h' → R (.ok (.ret .none)) ⟨h', g, d, tk', os⟩) → codeAny (model P w) A (.builtin "set.update.loop" ⟨[.ref S, .ref I], []⟩) R ⟨h, g, d, tk, os⟩ := by
  intro m
  induction m with
  | zero =>
    intro i h g d tk os e it j kp k
    obtain ⟨o, ho⟩ := own.there i h j
    refine codeAny_builtin F.entry_set_update_loop ?_
    rw [Around.under_plainId F.plain_set_update_loop _]
    refine wpAny_bind (m := pyNext (.ref I)) (wpAny_pyNext_tuple_end hh it (tup_kp hl kp) (Array.getElem?_eq_none (by omega)) fun h' x => wpAny_pure ?_)
    have kp' := kp_but kp nI fun c o n q => x c o n q
    rw [← show i = items.size from e] at k
    exact k h' tk (own.at_ _ _ _ j ((x S o ne ho).trans ho.symm) kp') kp'
  | succ m ih =>
    intro i h g d tk os e it j kp k
    obtain ⟨o, ho⟩ := own.there i h j
    have at_ : items[i]? = some items[i] := Array.getElem?_eq_getElem (by omega)
    refine codeAny_builtin F.entry_set_update_loop ?_
    rw [Around.under_plainId F.plain_set_update_loop _]
    refine wpAny_bind (m := pyNext (.ref I)) (wpAny_pyNext_tuple_item it (tup_kp hl kp) at_ fun h1 it1 x1 => ?_)
    have kp1 := kp_but kp nI fun c o n q => (x1.2 c n).trans q
    refine wpAny_bind (m := holding [items[i]] (setAdd S items[i])) (wpAny_holding (put i _ ⟨h1, g, d, tk, os⟩ _ _ at_ (own.at_ _ _ _ j (x1.2 S ne) kp1) kp1 fun b h2 tk2 x2 j2 => ?_))
    have kp2 := kp_but kp1 nS fun c o n q => (x2.2 c n).trans q
    refine wpAny_pure ⟨plainId_quiet F.plain_set_update_loop _, ih (i + 1) h2 g d tk2 os (by omega) ?_ j2 kp2 k⟩
    obtain ⟨q, q1, q2⟩ := it1
    exact ⟨q, (x2.2 I (Ne.symm ne)).trans q1, q2⟩
/-- the class called with one thing: an empty set is laid, then its __init__ -/
theorem set_called {s : Shared} {a : Value} {Q : Value → Shared → Prop} (h : wpAny (model P w) A.in1.in1 (Builtin.«set.__init__» ⟨[.ref s.heap.objs.size, a], []⟩)
      (fun fin s' => match fin with | .done f => wants (fun r s₂ => r = .none ∧ Q (.ref s.heap.objs.size) s₂) E (.ok f) s' | .again c' => c'.quiet = true ∧ codeAny (model P w) A.in1 c' (wants (fun r s₂ => r = .none ∧ Q (.ref s.heap.objs.size) s₂) E) s')
      (fun e s' => wants (fun r s₂ => r = .none ∧ Q (.ref s.heap.objs.size) s₂) E (.error e) s') { s with heap := s.heap.push (objS w) }) :
    wpAny (model P w) A (call (.type "set") [a]) Q E s := by
  have C := F.called_set
  obtain ⟨c, tl, up⟩ := C.mro
  have m := C.made
  have u := C.sub
  have n1 := C.notType
  have n2 := C.canCreate
  have n3 := F.typeCall_set_1 a
  have i1 := C.init.lookup
  have i2 := C.init.bind (.ref s.heap.objs.size)
  have ty : Shared.TypeIs { s with heap := s.heap.push (objS w) } (.ref s.heap.objs.size) "set" := ⟨_, Heap.get?_push_size _ rfl, rfl⟩
  refine wpAny_call (codeAny_of_tree (wpAny_pure ⟨Code.quiet_builtin _ (by decide +kernel), codeAny_builtin F.entry_type_call ?_⟩))
  rw [Around.under_plain (weight_type_call_type "set" [a] []) rfl]
  repeat (any_goals (first | assumption | wp_step))
  refine codeAny_mono (code_set_led1 a (E := E) (Q₁ := fun v s₁ => v = .ref s.heap.objs.size ∧ s₁ = { s with heap := s.heap.push (objS w) }) ⟨rfl, rfl⟩) ?_
  rintro (e | f) s₁ z
  · exact z
  cases f with
  | ret v =>
    obtain ⟨rfl, rfl⟩ := z
    repeat (any_goals (first | assumption | wp_step))
    refine codeAny_mono (codeAny_call_builtin C.init.plain F.entry_set_init (check_set_init_1 ty h)) ?_
    rintro (e | f) s₂ z
    · exact z
    cases f with
    | ret v =>
      obtain ⟨rfl, z⟩ := z
      repeat (any_goals (first | assumption | wp_step))
    | _ => exact z.elim
  | _ => exact z.elim
/-- set(t) -/
theorem call_setG {s : Shared} {Q : Value → Shared → Prop} (hh : A.handled = none) (hl : s.heap.IsTuple l items) (own : Own1 s.heap s.heap.objs.size J) (start : ∀ h', h'.get? s.heap.objs.size = some (objS w) → Kp s.heap h' → J 0 h')
    (put : Fills P w A.in1.in1.in1 s.heap s.heap.objs.size items J) (k : ∀ h' tk, J items.size h' → Kp s.heap h' → Q (.ref s.heap.objs.size) { s with heap := h', toks := tk }) :
    wpAny (model P w) A (call (.type "set") [.ref l]) Q E s := by
  refine set_called ?_
  have gone : ∀ b, s.heap.objs.size ≤ b → s.heap.get? b = none := fun b hb => by
    cases e : s.heap.get? b with
    | none => rfl
    | some o => exact absurd (Heap.lt_size e) (Nat.not_lt.mpr hb)
  have one : Kp s.heap (s.heap.push (objS w)) := fun b o e => Heap.get?_push_of_some _ e
  have hl1 : (s.heap.push (objS w)).IsTuple l items := tup_kp hl one
  have ty : Shared.TypeIs { s with heap := s.heap.push (objS w) } (.ref s.heap.objs.size) "set" := ⟨_, Heap.get?_push_size _ rfl, rfl⟩
  have tyl : Shared.TypeIs { s with heap := s.heap.push (objS w) } (.ref l) "tuple" := hl1.typeIs
  have t1 := F.sub_tuple_set
  have t2 := F.sub_tuple_frozenset
  have t3 : (Value.type "tuple" == Value.type "dict") = false := by decide
  have setAt : (s.heap.push (objS w)).get? s.heap.objs.size = some (objS w) := Heap.get?_push_size _ rfl
  obtain ⟨⟨oc, od, odt, osl⟩, hol, hcl, nl, hdl⟩ := id hl1
  dsimp only at hcl hdl
  subst hcl hdl
  unfold Builtin.«set.__init__» noKeywords Builtin.Frozenset.updateFrom
  generalize hPI : pyIter = PI
  wp_walk
  subst hPI
  refine wpAny_pyIter_tuple hl1 (wpAny_bind (wpAny_runValue ?_))
  have two : Kp s.heap ((s.heap.push (objS w)).push { cls := .type "tuple_iterator", data := .fields #[.ref l, .int 0 0] }) := fun b o e => Heap.get?_push_of_some _ (one b o e)
  have dead : A.in1.in1.in1.handled = none := by simp [hh]
  have n1 : s.heap.get? (s.heap.push (objS w)).objs.size = none := gone _ (by rw [Heap.size_push]; exact Nat.le_succ _)
  have ne : s.heap.objs.size ≠ (s.heap.push (objS w)).objs.size := by rw [Heap.size_push]; exact Nat.ne_of_lt (Nat.lt_succ_self _)
  exact fillG dead hl own put (gone _ (Nat.le_refl _)) n1 ne items.size 0 _ _ _ _ _ (Nat.zero_add _) ⟨_, Heap.get?_push_size _ rfl, rfl, rfl⟩ (start _ (Heap.get?_push_of_some _ setAt) two) two
    fun h' tk' j kp => wpAny_pure (wpAny_pure ⟨rfl, k h' tk' j kp⟩)
end
end DL

/-! set(t) of a tuple of texts, its length. -/
namespace DL
open PySem PySem.Spec PyProof.Rows L2
variable [Tb]

/-- one text more, if it isn't there -/
def addU (acc : List Str) (x : Str) : List Str := if x ∈ acc then acc else acc ++ [x]
def uniq (xs : List Str) : List Str := xs.foldl addU []
theorem uniq_snoc (xs : List Str) (x : Str) : uniq (xs ++ [x]) = addU (uniq xs) x := by
  unfold uniq
  rw [List.foldl_append]
  rfl
theorem uniq_mem (xs : List Str) (y : Str) : y ∈ uniq xs ↔ y ∈ xs := by
  have go : ∀ (r acc : List Str), y ∈ r.foldl addU acc ↔ y ∈ acc ∨ y ∈ r := by
    intro r
    induction r with
    | nil => intro acc; simp
    | cons x r ih =>
      intro acc
      rw [List.foldl_cons, ih]
      unfold addU
      by_cases c : x ∈ acc
      · rw [if_pos c]
        constructor
        · rintro (h | h)
          · exact .inl h
          · exact .inr (List.mem_cons_of_mem _ h)
        · rintro (h | h)
          · exact .inl h
          · rcases List.mem_cons.mp h with e | h
            · exact .inl (by rw [e]; exact c)
            · exact .inr h
      · rw [if_neg c, List.mem_append, List.mem_singleton, List.mem_cons, or_assoc]
  rw [show uniq xs = xs.foldl addU [] from rfl, go xs []]
  simp
theorem uniq_le : ∀ (r acc : List Str), (r.foldl addU acc).length ≤ acc.length + r.length
  | [], acc => Nat.le_refl _
  | x :: r, acc => by
    rw [List.foldl_cons]
    have h := uniq_le r (addU acc x)
    have h2 : (addU acc x).length ≤ acc.length + 1 := by
      unfold addU
      split
      · omega
      · rw [List.length_append, List.length_singleton]; exact Nat.le_refl _
    rw [List.length_cons]
    omega
theorem uniq_len (xs : List Str) : (uniq xs).length ≤ xs.length := by
  have := uniq_le xs []
  simpa [uniq] using this
theorem uniq_nodup (xs : List Str) : (uniq xs).length = xs.length ↔ xs.Nodup := by
  have go : ∀ (r acc : List Str), (r.foldl addU acc).length = acc.length + r.length ↔ (∀ x ∈ r, x ∉ acc) ∧ r.Nodup := by
    intro r
    induction r with
    | nil => intro acc; simp
    | cons x r ih =>
      intro acc
      rw [List.foldl_cons, List.length_cons, List.nodup_cons]
      by_cases c : x ∈ acc
      · have e : addU acc x = acc := if_pos c
        rw [e]
        have h := uniq_le r acc
        constructor
        · intro z; omega
        · intro z; exact absurd c (z.1 x List.mem_cons_self)
      · have e : addU acc x = acc ++ [x] := if_neg c
        have h := ih (acc ++ [x])
        rw [List.length_append, List.length_singleton] at h
        rw [e, show acc.length + (r.length + 1) = acc.length + 1 + r.length by omega, h]
        constructor
        · rintro ⟨h1, h2⟩
          refine ⟨fun y hy => ?_, fun hx => h1 x hx (by simp), h2⟩
          rcases List.mem_cons.mp hy with e | hy
          · rw [e]; exact c
          · exact fun z => h1 y hy (List.mem_append_left _ z)
        · rintro ⟨h1, h2, h3⟩
          refine ⟨fun y hy z => ?_, h3⟩
          rcases List.mem_append.mp z with z | z
          · exact h1 y (List.mem_cons_of_mem _ hy) z
          · rw [List.mem_singleton.mp z] at hy; exact h2 hy
  have h := go xs []
  simpa [uniq] using h

section
variable {P : Program} {w : World} {A : Around} {E : Value → Shared → Prop} {s : Shared}
/-- the set at S holds just the texts of xs -/
abbrev SetS (P : Program) (w : World) (h : Heap) (S : Addr) (xs : List Str) : Prop := h.SetOf (PySem.strKind P w) S (fun j => decide (j ∈ xs)) (uniq xs).length
theorem SetS.at {h h' : Heap} {S : Addr} {xs : List Str} (q : SetS P w h S xs) (k : ∀ o, h.get? S = some o → h'.get? S = some o) : SetS P w h' S xs := by
  obtain ⟨o, es, ep, t, ho, r⟩ := q
  exact ⟨o, es, ep, t, k o ho, r⟩
theorem addS {h : Heap} {S : Addr} {xs : List Str} {x : Str} (q : h.SetOf (PySem.strKind P w) S (fun j => decide (j ∈ xs) || decide (j = x)) (if decide (x ∈ xs) = true then (uniq xs).length else (uniq xs).length + 1)) : SetS P w h S (xs ++ [x]) := by
  have e1 : (fun j : Str => decide (j ∈ xs) || decide (j = x)) = fun j => decide (j ∈ xs ++ [x]) := by
    funext j
    simp
  have e2 : (if decide (x ∈ xs) = true then (uniq xs).length else (uniq xs).length + 1) = (uniq (xs ++ [x])).length := by
    rw [uniq_snoc]
    unfold addU
    by_cases c : x ∈ xs
    · rw [if_pos (decide_eq_true c), if_pos ((uniq_mem xs x).mpr c)]
    · rw [if_neg (by rw [decide_eq_false c]; exact Bool.false_ne_true), if_neg fun z => c ((uniq_mem xs x).mp z), List.length_append, List.length_singleton]
  rw [e1, e2] at q
  exact q
/-- set(t), t a tuple of texts -/
theorem call_setS {l : Addr} {items : Array Value} (xs : List Str) {Q : Value → Shared → Prop} (hh : A.handled = none) (hl : s.heap.IsTuple l items)
    (hit : ∀ (i : Nat) (v : Value), items[i]? = some v → ∃ x t, xs[i]? = some x ∧ v = Value.str x t) (hz : items.size = xs.length) (hb : xs.length + 1 < scanBound)
    (h : ∀ (h' : Heap) (tk : Nat), SetS P w h' s.heap.objs.size xs → (∀ b o, s.heap.get? b = some o → h'.get? b = some o) → Q (.ref s.heap.objs.size) { s with heap := h', toks := tk }) :
    wpAny (model P w) A (call (.type "set") [.ref l]) Q E s := by
  refine call_setG (J := fun i h => SetS P w h s.heap.objs.size (xs.take i)) hh hl ⟨fun i h h' q e _ => q.at fun o z => e.trans z, fun i h q => ?_⟩ (fun h' e _ => ?_) (fun i v s1 Q1 E1 hv q _ k => ?_) fun h' tk q kp => h h' tk (by rw [hz, List.take_length] at q; exact q) kp
  · obtain ⟨o, _, _, _, ho, _⟩ := q
    exact ⟨o, ho⟩
  · have z := (setObjOf_fresh (knd := PySem.strKind P w) (!w.params.followText "set-order")).setOf e (by unfold scanBound; omega)
    rw [show (fun _ : Str => false) = fun j => decide (j ∈ xs.take 0) by funext j; simp] at z
    exact z
  · obtain ⟨x, t, hx, rfl⟩ := hit i v hv
    have room := uniq_len (xs.take i)
    rw [List.length_take] at room
    refine wpAny_holding (wpAny_bind ((PySem.strKind P w).pyHash (k := x) (strKind_is _ _ _ _) ?_))
    refine wpAny_setAddHashed_of (knd := PySem.strKind P w) (s := { s1 with toks := s1.toks + 1 }) (strKind_is _ _ _ _) rfl q (by omega) fun h' sb q2 => k _ h' _ sb ?_
    show SetS P w h' _ (xs.take (i + 1))
    rw [List.take_add_one, hx]
    exact addS q2
end
/-! ### len(set(t)) -/
def tLenS (K : PySem.W.Frag) (ta : TE) : TE := fun σ H Q => ta σ H fun x H1 => ∃ (l : Addr) (xs : List Str), x = .ref l ∧ SqT K H1 l (xs.map V.str) ∧ xs.length ≤ 1000 ∧ Q (.int ((uniq xs).length : Nat)) H1
theorem pe_lenS {X : Cx} {a : Expr} {ta : TE} {p p2 q pos : Pos} (hc : X.calm = true) (hg : Gl X "len") (hm : X.mg "len" = none) (hg2 : Gl X "set") (hm2 : X.mg "set" = none) (ha : PE X a ta)
    (na : starEach [a] X.env = (false, eval a X.env) :: starEach [] X.env := by rfl) :
    PE X (.Call (.Name "len" p) [.Call (.Name "set" p2) [a] [] q] [] pos) (tLenS X.K ta) := by
  constructor
  intro pins s σ H Q I h
  refine Call_ (ld_blt I hg hm boot_len (PyProof.Rows.callWith_builtin1 (PyProof.Rows.args_cons ?_ rfl) rfl rfl))
  refine Call_ (ld_blt I hg2 hm2 boot_set (PyProof.Rows.callWith_type1 (PyProof.Rows.args_cons ?_ na) na rfl))
  refine thn (ha.run pins s σ H _ I h) ?_
  intro v s1 ⟨x, H1, I1, r1, l, xs, ex, hq, hz, q1⟩
  subst ex
  cases r1
  refine PyProof.Rows.args_nil ?_
  obtain ⟨its, r, ht, _⟩ := I1.tuple hq
  have hl : its.toArray.size = xs.length := by rw [List.size_toArray, ← r.length, List.length_map]
  refine call_setS xs (I1.ok.hd hc) ht ?_ hl (by unfold scanBound; omega) ?_
  · intro i v e
    have e' : its[i]? = some v := by simpa using e
    have hi : i < xs.length := by rw [← hl]; exact (Array.getElem?_eq_some_iff.mp e).1
    obtain ⟨u, hu, t, hu'⟩ := r.get (i := i) (x := .str xs[i]) (by simp [hi])
    rw [e'] at hu
    exact ⟨xs[i], t, List.getElem?_eq_getElem hi, (Option.some.inj hu).trans hu'⟩
  · intro h' tk hS hk
    refine PyProof.Rows.args_nil ?_
    obtain ⟨o, es, ep, t, ho, hex, hd, _, _, _, hf, hn⟩ := hS
    have I2 : Inv X pins σ H1 { s1 with heap := h', toks := tk } := I1.kept hk
    have := uniq_len xs
    exact call_len_set ho hex hd hf (by rw [hn]; omega) ⟨.int (uniq xs).length, H1, I2.tok _, ⟨_, by rw [hn]⟩, q1⟩
section
variable {K : PySem.W.Frag} {pf : Bool} {ρ : List Sl} {te : TE} {Φ : Dt → List Sl → Prop}
theorem w_lenS (h : Wp K pf te ρ fun d ρ1 => ∃ xs : List Str, d = .tup (xs.map Dt.str) ∧ xs.length ≤ 1000 ∧ Φ (.int ((uniq xs).length : Nat)) ρ1) : Wp K pf (tLenS K te) ρ Φ := fun M σ H S Q q =>
  h M σ H S _ fun v H1 d ρ1 s1 S1 x1 ⟨xs, e, hz, f⟩ => by
    subst e
    cases x1 with
    | tup hs ha =>
      rw [ha.strs] at hs
      exact ⟨_, xs, rfl, same_T (cut_sub M H1) hs, hz, q _ H1 _ ρ1 s1 S1 (.int _) f⟩
end
end DL

/-! Data level: defs by promises; comprehensions that filter and map; lists put together. -/
namespace DL
open PySem PySem.Spec PyProof.Rows L2
variable [Tb]

section
variable {P : Program} {w : World} {K : PySem.W.Frag} {mg : Str → Option Value} {base : Heap} {k : Nat} {f : Addr} {fd : FuncData} {ps N : List Str} {x qual : Str} {st : Stmt}
/-- a def that changes nothing, by its body -/
theorem defP {W : List Dt → (Dt → Prop) → Prop} (F : Fun K x qual st f fd) (S : FnScope N ps (defScope st)) (hW : ∀ ds Φ, W ds Φ → ds.length = ps.length) (hN : ps.length ≤ N.length)
    (hb : ∀ (cdv : Value) (A : Around) (outer : List Env) (s : Shared) (H : Hp) (E : XK), Room k (A.deeper (envOfC qual (defScope st) s.heap.objs.size f cdv)) →
      (A.deeper (envOfC qual (defScope st) s.heap.objs.size f cdv)).guards = some [] → ∃ t, PSs (cxOf CX0 P w K mg base N qual (defScope st) f cdv A outer s H E).nox (defBody st) t ∧
        ∀ ds Φ, W ds Φ → Ws K t (slots ds (N.length - ds.length)) { nx := fun _ => Φ .non, rt := fun d _ => Φ d }) : FnG P w K mg base CX0 (k + 1) f fd ps (spP K W) := by
  have len : ∀ vs H Q E, spP K W vs H Q E → vs.length = ps.length := fun vs H Q E ⟨M, ds, Φ, _, _, _, x, w, _⟩ => x.len.trans (hW ds Φ w)
  refine okG F S len fun cdv A outer s H vs Q E hr hg h => ?_
  obtain ⟨t, h1, h2⟩ := hb cdv A outer s H E hr hg
  exact ⟨t, h1, read_P (E := E) h (by rw [len _ _ _ _ h]; exact hN) fun ds Φ _ w => h2 ds Φ w⟩
/-- .. that shows nothing: whatever is being shown around it -/
theorem defP0 {W : List Dt → (Dt → Prop) → Prop} (F : Fun K x qual st f fd) (S : FnScope N ps (defScope st)) (hW : ∀ ds Φ, W ds Φ → ds.length = ps.length) (hN : ps.length ≤ N.length)
    (hb : ∀ (cdv : Value) (A : Around) (outer : List Env) (s : Shared) (H : Hp) (E : XK), Room k (A.deeper (envOfC qual (defScope st) s.heap.objs.size f cdv)) →
      ∃ t, PSs (cxOf CX0 P w K mg base N qual (defScope st) f cdv A outer s H E).nox (defBody st) t ∧
        ∀ ds Φ, W ds Φ → Ws K t (slots ds (N.length - ds.length)) { nx := fun _ => Φ .non, rt := fun d _ => Φ d }) : FnOk P w K mg base CX0 (k + 1) f fd ps (spP K W) := by
  have len : ∀ vs H Q E, spP K W vs H Q E → vs.length = ps.length := fun vs H Q E ⟨M, ds, Φ, _, _, _, x, w, _⟩ => x.len.trans (hW ds Φ w)
  refine F.ok S len fun cdv A outer s H vs Q E hr h => ?_
  obtain ⟨t, h1, h2⟩ := hb cdv A outer s H E hr
  exact ⟨t, h1, read_P (E := E) h (by rw [len _ _ _ _ h]; exact hN) fun ds Φ _ w => h2 ds Φ w⟩
/-- a def that draws, by its body -/
theorem defN {W : Nat → List Dt → (Dt → Nat → Prop) → Prop} (F : Fun K x qual st f fd) (S : FnScope N ps (defScope st)) (hW : ∀ n ds Φ, W n ds Φ → ds.length + 1 = ps.length) (hN : ps.length ≤ N.length)
    (hb : ∀ (cdv : Value) (A : Around) (outer : List Env) (s : Shared) (H : Hp) (E : XK), Room k (A.deeper (envOfC qual (defScope st) s.heap.objs.size f cdv)) →
      (A.deeper (envOfC qual (defScope st) s.heap.objs.size f cdv)).guards = some [] → ∃ t, PSs (cxOf CX0 P w K mg base N qual (defScope st) f cdv A outer s H E).nox (defBody st) t ∧
        ∀ n ds Φ, W n ds Φ → Ws K t (.pen n :: slots ds (N.length - (ds.length + 1))) { nx := fun ρ => ∃ n' s, ρ[0]? = some s ∧ PenS n' s ∧ Φ .non n', rt := fun d ρ => ∃ n' s, ρ[0]? = some s ∧ PenS n' s ∧ Φ d n' }) :
    FnG P w K mg base CX0 (k + 1) f fd ps (spN K W) := by
  have len : ∀ vs H Q E, spN K W vs H Q E → vs.length = ps.length := fun vs H Q E ⟨M, p, n, ws, ds, Φ, e, _, _, _, _, x, w, _⟩ => by
    rw [e, List.length_cons, x.len]; exact hW n ds Φ w
  refine okG F S len fun cdv A outer s H vs Q E hr hg h => ?_
  obtain ⟨t, h1, h2⟩ := hb cdv A outer s H E hr hg
  exact ⟨t, h1, read_N (E := E) h (by rw [len _ _ _ _ h]; exact hN) fun n ds Φ _ w => h2 n ds Φ w⟩
end

/-! ### lists put together -/
def rCatL (K : PySem.W.Frag) : R2 := fun x y H Q => ∃ l b xs zs, x = .ref l ∧ y = .ref b ∧ SqL K H l xs ∧ SqL K H b zs ∧ xs.length + zs.length ≤ sizeLine ∧ ∀ p, H p = none → Q (.ref p) (upd H p (.lst (xs ++ zs)))
theorem op_catL {X : Cx} : OpR X (binaryOp .Add) (rCatL X.K) := by
  intro pins s σ H x y v u Q I rx ry h
  obtain ⟨l, b, xs, zs, rfl, rfl, hH, hB, hz, q⟩ := h
  cases rx
  cases ry
  obtain ⟨its, r, ⟨⟨c1, dd1, d1, s1⟩, n, e, hc, _, hd⟩, _⟩ := I.list hH
  obtain ⟨its2, r2, ⟨⟨c2, dd2, d2, s2⟩, n2, e2, hc2, _, hd2⟩, _⟩ := I.list hB
  simp only at hc hd hc2 hd2
  subst hc hd hc2 hd2
  have l1 := r.length
  have l2 := r2.length
  refine concat_meets ⟨_, e, rfl⟩ ⟨_, e2, rfl⟩ noFill_list_add seq_list_add PySem.F.slot_list_add PySem.F.entry_list_add (PySem.F.args_list_add_2 _ _) (list_addW l b its.toArray its2.toArray n n2 dd1 dd2 s1 s2 (by rw [List.size_toArray, List.size_toArray]; omega)) ⟨e, e2, ?_⟩
  have ea : its.toArray ++ its2.toArray = (its ++ its2).toArray := by simp
  rw [ea]
  exact ⟨.ref _, _, I.lnew (t' := s.toks) (r.append r2) (by rw [List.length_append]; omega), rfl, q _ I.fresh⟩
section
variable {K : PySem.W.Frag} {pf : Bool} {ρ : List Sl} {te : TE} {tt : TT} {wi : TI} {j : Nat} {Φ : Dt → List Sl → Prop}
theorem set_any {ρ : List Sl} {j : Nat} {s : Sl} (e : ρ[j]? = some .any) : (ρ.set j s).set j .any = ρ := by
  rw [List.set_set]
  apply List.ext_getElem?
  intro i
  by_cases c : j = i
  · subst c
    rw [List.getElem?_set_self (List.getElem?_eq_some_iff.mp e).1, e]
  · rw [List.getElem?_set_ne c]
/-- [f(d) for d in .. if b(d)] -/
theorem w_lcF (b : Dt → Bool) (f : Dt → Dt) (e : ρ[j]? = some .any) (h : WI K pf wi ρ fun ds ρ1 => ρ1 = ρ ∧ ds.length ≤ 50000 ∧ (∀ d ∈ ds, Wt K pf tt (ρ.set j (.dat d)) fun c ρ2 => c = b d ∧ ρ2 = ρ.set j (.dat d)) ∧
      (∀ d ∈ ds, b d = true → Wp K pf te (ρ.set j (.dat d)) fun y ρ3 => y = f d ∧ ρ3 = ρ.set j (.dat d)) ∧ Φ (.lst ((ds.filter b).map f)) ρ) : Wp K pf (tLc wi (gName j) tt te [j]) ρ Φ := by
  refine w_lc (js := [j]) (fun _ z => z) fun M σ H S R q => h M σ H S R fun J H1 ds ρ1 s1 S1 w ⟨e1, hz, ht, he, z⟩ => q J H1 ds ρ1 s1 S1 w ?_
  subst e1
  have w0 : wipeS ρ1 [j] = ρ1 := by
    show ρ1.set j .any = ρ1
    have := set_any (s := .any) e
    rw [List.set_set] at this
    exact this
  have w1 : ∀ d, wipeS (ρ1.set j (.dat d)) [j] = ρ1 := fun d => set_any e
  refine ⟨⟨fun i acc ρ2 => ρ2 = ρ1 ∧ acc = ((ds.take i).filter b).map f, ⟨w0, rfl⟩, hz, fun i d acc ρ2 hd ⟨e2, ea⟩ => ?_, fun acc ρ2 ⟨e2, ea⟩ => ?_⟩⟩
  · subst e2 ea
    have hm := List.mem_of_getElem? hd
    have tk : ds.take (i + 1) = ds.take i ++ [d] := by rw [List.take_add_one, hd]; rfl
    refine wg_name ((ht d hm).imp fun c ρ4 ⟨ec, e4⟩ => ?_)
    subst e4
    cases c with
    | true =>
      rw [if_pos rfl]
      refine (he d hm ec.symm).imp fun y ρ5 ⟨ey, e5⟩ => ?_
      subst e5 ey
      refine ⟨w1 d, ?_⟩
      rw [tk, List.filter_append, List.map_append]
      show _ = _ ++ List.map f (List.filter b [d])
      rw [List.filter_cons, if_pos ec.symm]
      rfl
    | false =>
      rw [if_neg Bool.false_ne_true]
      refine ⟨w1 d, ?_⟩
      rw [tk, List.filter_append, List.map_append]
      show _ = _ ++ List.map f (List.filter b [d])
      rw [List.filter_cons, if_neg (by rw [← ec]; exact Bool.false_ne_true)]
      simp
  · subst e2 ea
    rw [List.take_length]
    exact z
/-- [f(d) for d in ..] -/
theorem w_lcM (f : Dt → Dt) (e : ρ[j]? = some .any) (h : WI K pf wi ρ fun ds ρ1 => ρ1 = ρ ∧ ds.length ≤ 50000 ∧
      (∀ d ∈ ds, Wp K pf te (ρ.set j (.dat d)) fun y ρ3 => y = f d ∧ ρ3 = ρ.set j (.dat d)) ∧ Φ (.lst (ds.map f)) ρ) : Wp K pf (tLc wi (gName j) tYes te [j]) ρ Φ :=
  w_lcF (fun _ => true) f e fun M σ H S R q => h M σ H S R fun J H1 ds ρ1 s1 S1 w ⟨e1, hz, he, z⟩ => q J H1 ds ρ1 s1 S1 w ⟨e1, hz, fun d _ => wt_yes ⟨rfl, rfl⟩, fun d hd _ => he d hd, by rw [List.filter_eq_self.mpr fun _ _ => rfl]; exact z⟩
theorem od_cat {ds es : List Dt} {Ψ : Dt → Prop} (hz : ds.length + es.length ≤ 100000) (h : Ψ (.lst (ds ++ es))) : OD K (rCatL K) (.lst ds) (.lst es) Ψ := fun M H u v m h1 h2 Q q => by
  cases h1 with
  | lst hs ha =>
    cases h2 with
    | lst ht hb =>
      exact ⟨_, _, _, _, rfl, rfl, (cut_sub M H).seq hs, (cut_sub M H).seq ht, by rw [ha.len, hb.len]; exact Nat.le_trans hz (by decide), fun p hp => q _ _ _ (same_new hp) (dx_new_l m hp (ha.append hb)) h⟩
end
end DL

/-! Data level: what the laws share: names, rows, kinds; the pen's own statements; what is no longer looked at. -/
namespace DL
open PySem PySem.Spec PyProof.Rows L2
variable [Tb]
/-! ### the built-ins that are meant -/
structure Bt (mg : Str → Option Value) : Prop where
  isi : mg "isinstance" = none
  int : mg "int" = none
  bool : mg "bool" = none
  str : mg "str" = none
  tuple : mg "tuple" = none
  list : mg "list" = none
  len : mg "len" = none
  all : mg "all" = none
  set : mg "set" = none
  range : mg "range" = none
  abs : mg "abs" = none
  repr : mg "repr" = none
  enumerate : mg "enumerate" = none
  sorted : mg "sorted" = none
/-! ### what is asked of a datum -/
def isInt : Dt → Bool
  | .int _ => true
  | _ => false
def isStr : Dt → Bool
  | .str _ => true
  | _ => false
def isTup : Dt → Bool
  | .tup _ => true
  | _ => false
abbrev noTy : Dt → Bool := kitD
theorem noTy_ne {d : Dt} (h : noTy d = true) : kitD d = true := h
theorem kit_int {d : Dt} (h : noTy d = true) : ∃ b, kitB (tyD d) "int" = some b ∧ (b = true → ∀ c, kitB (tyD d) "bool" = some c → isInt d = !c) ∧ (b = false → isInt d = false) := by
  cases d with
  | ty n => cases h
  | ins _ _ _ _ => cases h
  | cls _ => cases h
  | exc _ _ _ _ => cases h
  | int i => exact ⟨true, by (dsimp only [tyD, isStr, isTup]; decide +kernel), fun _ c e => by rw [show kitB (tyD (.int i)) "bool" = some false by (dsimp only [tyD, isStr, isTup]; decide +kernel)] at e; cases e; rfl, fun z => nomatch z⟩
  | bl i => exact ⟨true, by (dsimp only [tyD, isStr, isTup]; decide +kernel), fun _ c e => by rw [show kitB (tyD (.bl i)) "bool" = some true by (dsimp only [tyD, isStr, isTup]; decide +kernel)] at e; cases e; rfl, fun z => nomatch z⟩
  | _ => exact ⟨false, by (dsimp only [tyD, isStr, isTup]; decide +kernel), (fun z => nomatch z), fun _ => rfl⟩
theorem kit_bool {d : Dt} (h : noTy d = true) : ∃ b, kitB (tyD d) "bool" = some b := by
  cases d with
  | ty n => cases h
  | ins _ _ _ _ => cases h
  | cls _ => cases h
  | exc _ _ _ _ => cases h
  | bl i => exact ⟨true, by (dsimp only [tyD, isStr, isTup]; decide +kernel)⟩
  | _ => exact ⟨false, by (dsimp only [tyD, isStr, isTup]; decide +kernel)⟩
theorem kit_str {d : Dt} (h : noTy d = true) : kitB (tyD d) "str" = some (isStr d) := by
  cases d with
  | ty n => cases h
  | ins _ _ _ _ => cases h
  | cls _ => cases h
  | exc _ _ _ _ => cases h
  | _ => (dsimp only [tyD, isStr, isTup]; decide +kernel)
theorem kit_tup {d : Dt} (h : noTy d = true) : kitB (tyD d) "tuple" = some (isTup d) := by
  cases d with
  | ty n => cases h
  | ins _ _ _ _ => cases h
  | cls _ => cases h
  | exc _ _ _ _ => cases h
  | _ => (dsimp only [tyD, isStr, isTup]; decide +kernel)
theorem isStr_of {d : Dt} (h : isStr d = true) : ∃ z, d = .str z := by
  cases d with
  | str z => exact ⟨z, rfl⟩
  | _ => cases h
theorem isTup_of {d : Dt} (h : isTup d = true) : ∃ z, d = .tup z := by
  cases d with
  | tup z => exact ⟨z, rfl⟩
  | _ => cases h
theorem ifT {p q : Prop} (h : p) : if true = true then p else q := by rw [if_pos rfl]; exact h
theorem ifF {p q : Prop} (h : q) : if false = true then p else q := by rw [if_neg Bool.false_ne_true]; exact h
/-- small letters; names -/
def low (x : Str) : Bool := !decide (x.cps.toList < ("a" : Str).cps.toList) && !decide (("z" : Str).cps.toList < x.cps.toList)
def lowD : Dt → Bool
  | .str x => low x
  | _ => false
def isName : Dt → Bool
  | .str z => decide (1 ≤ z.length) && decide (z.length ≤ 8) && (DL.signs z).all lowD
  | _ => false
def isOwn : Dt → Bool
  | .str z => isName (.str z) && !decide (z = ("shore" : Str))
  | _ => false
/-- a text that len can tell -/
def shortD : Dt → Bool
  | .str z => decide (z.length ≤ 1000)
  | .ty _ | .ins _ _ _ _ | .cls _ | .exc _ _ _ _ => false
  | _ => true
theorem shortD_no {d : Dt} (h : shortD d = true) : noTy d = true := by
  cases d with
  | ty n => cases h
  | ins _ _ _ _ => cases h
  | cls _ => cases h
  | exc _ _ _ _ => cases h
  | _ => rfl
theorem len1000 {z : Str} (h : z.length ≤ 1000) : lenD (.str z) = some z.length := by
  show (if z.length ≤ sizeLine then some z.length else none) = _
  rw [if_pos (Nat.le_trans h (by decide))]
theorem signs_len (z : Str) : (DL.signs z).length = z.length := by unfold DL.signs; rw [List.length_map, Array.length_toList]; rfl
theorem signs_mem {z : Str} {d : Dt} (h : d ∈ DL.signs z) : ∃ c, d = .str ⟨#[c]⟩ := by
  unfold DL.signs at h
  obtain ⟨c, _, e⟩ := List.mem_map.mp h
  exact ⟨c, e.symm⟩
theorem map_bl (g : Dt → Bool) (ds : List Dt) : ds.map (fun d => Dt.bl (g d)) = (ds.map g).map Dt.bl := by rw [List.map_map]; rfl
theorem all_id (g : Dt → Bool) (ds : List Dt) : (ds.map g).all id = ds.all g := by rw [List.all_map]; rfl
theorem isName_str {d : Dt} (h : isName d = true) : ∃ z, d = .str z := by
  cases d with
  | str z => exact ⟨z, rfl⟩
  | _ => cases h
theorem isOwn_eq {z : Str} : isOwn (.str z) = (isName (.str z) && !decide (z = ("shore" : Str))) := rfl
theorem isOwn_no {d : Dt} (h : isName d = false) : isOwn d = false := by
  cases d with
  | str z => rw [isOwn_eq, h, Bool.false_and]
  | _ => rfl
theorem isOwn_str {d : Dt} (h : isOwn d = true) : ∃ z, d = .str z := by
  cases d with
  | str z => exact ⟨z, rfl⟩
  | _ => cases h
def strsOf : List Dt → List Str
  | [] => []
  | .str z :: ds => z :: strsOf ds
  | _ :: ds => strsOf ds
theorem strsOf_map : ∀ ss : List Str, strsOf (ss.map Dt.str) = ss
  | [] => rfl
  | z :: ss => by show z :: strsOf (ss.map Dt.str) = _; rw [strsOf_map ss]
theorem all_str {p : Dt → Bool} (hp : ∀ d, p d = true → ∃ z, d = .str z) : ∀ {ds : List Dt}, ds.all p = true → ∃ ss : List Str, ds = ss.map Dt.str
  | [], _ => ⟨[], rfl⟩
  | d :: ds, h => by
    rw [List.all_cons, Bool.and_eq_true] at h
    obtain ⟨z, rfl⟩ := hp d h.1
    obtain ⟨ss, rfl⟩ := all_str hp h.2
    exact ⟨z :: ss, rfl⟩
def rowIs (xs : List Dt) : Bool := xs.all isOwn && decide (strsOf xs).Nodup
def isRow : Dt → Int → Bool
  | .tup xs, m => decide ((xs.length : Int) ≤ m) && rowIs xs
  | _, _ => false
def wordOf (ms : List Str) : Dt → Bool
  | .str z => decide (z ∈ ms)
  | _ => false
theorem wordOf_str {ms : List Str} {d : Dt} (h : wordOf ms d = true) : ∃ z, d = .str z := by
  cases d with
  | str z => exact ⟨z, rfl⟩
  | _ => cases h
def isWords (ms : List Str) : Dt → Bool
  | .tup xs => !xs.isEmpty && (xs.all (wordOf ms) && decide (strsOf xs).Nodup)
  | _ => false
/-- a thing whose texts len can tell -/
def thingD : Dt → Bool
  | .tup xs => decide (xs.length ≤ 1000) && xs.all shortD
  | .ty _ | .ins _ _ _ _ | .cls _ | .exc _ _ _ _ => false
  | _ => true
theorem thingD_no {d : Dt} (h : thingD d = true) : noTy d = true := by
  cases d with
  | ty n => cases h
  | ins _ _ _ _ => cases h
  | cls _ => cases h
  | exc _ _ _ _ => cases h
  | _ => rfl
theorem thingD_tup {xs : List Dt} (h : thingD (.tup xs) = true) : xs.length ≤ 1000 ∧ ∀ x ∈ xs, shortD x = true := by
  have h : (decide (xs.length ≤ 1000) && xs.all shortD) = true := h
  rw [Bool.and_eq_true] at h
  exact ⟨of_decide_eq_true h.1, List.all_eq_true.mp h.2⟩
theorem uniq_dec (ss : List Str) : decide (((uniq ss).length : Int) = (ss.length : Nat)) = decide ss.Nodup := decide_eq_decide.mpr ⟨fun h => (uniq_nodup ss).mp (Int.ofNat.inj h), fun h => by rw [(uniq_nodup ss).mpr h]⟩
theorem filter_isEmpty {α : Type} (p : α → Bool) : ∀ xs : List α, (xs.filter p).isEmpty = xs.all fun x => !p x
  | [] => rfl
  | x :: xs => by
    rw [List.filter_cons, List.all_cons]
    cases c : p x with
    | true => rfl
    | false => rw [if_neg Bool.false_ne_true, filter_isEmpty p xs]; rfl
theorem map_isEmpty {α β : Type} (f : α → β) (xs : List α) : (xs.map f).isEmpty = xs.isEmpty := by cases xs <;> rfl
/-- the k-th is not among those before it -/
def freshAt (ss : List Str) (k : Nat) : Bool := match ss[k]? with
  | some z => !decide (z ∈ ss.take k)
  | none => true
theorem fresh_nodup : ∀ (ss : List Str) (n : Nat), n ≤ ss.length → ((List.range n).all (freshAt ss) = true ↔ (ss.take n).Nodup)
  | ss, 0, _ => by simp
  | ss, n + 1, h => by
    have hn : ss[n]? = some ss[n] := List.getElem?_eq_getElem h
    have tk : ss.take (n + 1) = ss.take n ++ [ss[n]] := by rw [List.take_add_one, hn]; rfl
    have ih := fresh_nodup ss n (by omega)
    rw [List.range_succ, List.all_append, Bool.and_eq_true, ih, tk, List.nodup_append]
    have e : [n].all (freshAt ss) = !decide (ss[n] ∈ ss.take n) := by
      show (freshAt ss n && true) = _
      unfold freshAt
      rw [hn, Bool.and_true]
    rw [e]
    constructor
    · rintro ⟨h1, h2⟩
      have h2 : ss[n] ∉ ss.take n := by simpa using h2
      exact ⟨h1, by simp, fun a ha b hb => by
        have := List.mem_singleton.mp hb
        subst this
        exact fun z => h2 (z ▸ ha)⟩
    · rintro ⟨h1, _, h3⟩
      refine ⟨h1, ?_⟩
      have : ss[n] ∉ ss.take n := fun z => h3 _ z _ (by simp) rfl
      simpa using this
theorem fresh_all (ss : List Str) : (List.range ss.length).all (freshAt ss) = decide ss.Nodup := by
  have := fresh_nodup ss ss.length (Nat.le_refl _)
  rw [List.take_length] at this
  cases c : (List.range ss.length).all (freshAt ss) with
  | true => exact (decide_eq_true (this.mp c)).symm
  | false => exact (decide_eq_false fun z => by rw [this.mpr z] at c; cases c).symm
/-- k as a datum: whether it is a double -/
def dupD (ss : List Str) : Dt → Bool
  | .int i => !freshAt ss i.toNat
  | _ => false
theorem rangeD_dup (ss : List Str) : ((rangeD 0 (((ss.length : Nat) : Int)).toNat).filter (dupD ss)).isEmpty = decide ss.Nodup := by
  rw [filter_isEmpty, ← fresh_all]
  unfold rangeD
  rw [List.all_map, Int.toNat_natCast]
  congr 1
  funext a
  show (!dupD ss (.int (0 + (a : Nat)))) = _
  show (!(!freshAt ss (0 + (a : Int)).toNat)) = _
  rw [Bool.not_not, Int.zero_add, Int.toNat_natCast]
theorem rangeD_mem {n : Nat} {d : Dt} (h : d ∈ rangeD 0 n) : ∃ i : Nat, i < n ∧ d = .int i := by
  unfold rangeD at h
  obtain ⟨i, hi, e⟩ := List.mem_map.mp h
  exact ⟨i, List.mem_range.mp hi, by rw [← e, Int.zero_add]⟩
section
variable {K : PySem.W.Frag} {pf : Bool} {ρ : List Sl} {Φ : Dt → List Sl → Prop}
theorem w_isi {i : Nat} {c : String} {d : Dt} {b : Bool} (e : ρ[i]? = some (.dat d)) (hd : noTy d = true) (hk : kitB (tyD d) c = some b) (h : Φ (.bl b) ρ) : Wp K pf (tCB (rIsi K) (tCons (tVar i) (tCons (tC (.ty c)) tNil))) ρ Φ :=
  w_cb <| wa_cons <| w_var e <| wa_cons <| w_c (fun _ => .ty c) <| wa_nil <| rd_isi (noTy_ne hd) hk h
end
section
variable {K : PySem.W.Frag} {pf : Bool} {ρ : List Sl} {Φ : Dt → List Sl → Prop}
/-- [k for k in range(len(t)) if t[k] in t[:k]] == [] -/
theorem w_dups {i j : Nat} {ss : List Str} (e0 : ρ[i]? = some (.dat (.tup (ss.map Dt.str)))) (ej : ρ[j]? = some .any) (hij : j ≠ i) (hz : ss.length ≤ 1000) (h : Φ (.bl (decide ss.Nodup)) ρ) :
    Wp K pf (tOp (rEqNil K) (tLc (iRng1 (tCons (tCB (fun xs H Q => ∃ x n, xs = [x] ∧ LenV K x H n ∧ Q (.int n) H) (tCons (tVar i) tNil)) tNil)) (gName j)
      (tTest (tOp (rIn K false) (tOp (rIxT K) (tVar i) (tVar j)) (tSl (rSlA K) (tVar i) tNoPart (tPart (tVar j))))) (tVar j) [j]) (tLst tNil)) ρ Φ := by
  have hl : (ss.map Dt.str).length = ss.length := List.length_map _
  have a0 : ∀ s, (ρ.set j s)[i]? = some (.dat (.tup (ss.map Dt.str))) := fun s => by rw [List.getElem?_set_ne hij]; exact e0
  have aj : ∀ s, (ρ.set j s)[j]? = some s := fun s => List.getElem?_set_self (List.getElem?_eq_some_iff.mp ej).1
  refine w_op <| w_lcF (dupD ss) (fun d => d) ej <| wi_rng1 <| wa_cons <| w_cb <| wa_cons <| w_var e0 <| wa_nil <| rd_len rfl <| wa_nil ⟨_, rfl, by omega, by omega, rfl, by rw [rangeD_len]; omega, fun d hm => ?_, fun d hm _ => w_var (aj _) ⟨rfl, rfl⟩, ?_⟩
  · obtain ⟨n, hn, rfl⟩ := rangeD_mem hm
    have hn : n < ss.length := by omega
    have e1 : (ss.map Dt.str)[n]? = some (.str ss[n]) := by rw [List.getElem?_map, List.getElem?_eq_getElem hn]; rfl
    refine wt_test <| w_op <| w_op <| w_var (a0 _) <| w_var (aj _) <| od_ixT (atI_nat' e1) <| w_sl <| w_var (a0 _) <| wo_none <| wo_some <| w_var (aj _) ⟨_, rfl, sd_tup ?_⟩
    rw [cutD_to n rfl, ← List.map_take]
    refine od_inS (neg := false) (xs := ss.take n) rfl ⟨_, rfl, ?_, rfl⟩
    show decide _ = !freshAt ss ((n : Nat) : Int).toNat
    rw [Int.toNat_natCast]
    unfold freshAt
    rw [List.getElem?_eq_getElem hn]
    show _ = !!_
    rw [Bool.not_not]
  · refine w_lst <| wa_nil ⟨Nat.zero_le _, od_eqNil ?_⟩
    rw [map_isEmpty, hl, rangeD_dup]
    exact h
end
theorem in_seqK {X : Cx} (K : PySem.W.Frag) (h : X.K = K) : OpR X (compareOp .In) (rIn K false) := by subst h; exact op_in_seq
theorem notIn_seqK {X : Cx} (K : PySem.W.Frag) (h : X.K = K) : OpR X (compareOp .NotIn) (rIn K true) := by subst h; exact op_notIn_seq
theorem isiK {X : Cx} (K : PySem.W.Frag) (h : X.K = K) : CallR X (.builtin "isinstance") (rIsi K) := by subst h; exact call_isi
theorem ixK {X : Cx} (K : PySem.W.Frag) (h : X.K = K) : IxR X (rIx K) := by subst h; exact ix_seq
theorem ixTK {X : Cx} (K : PySem.W.Frag) (h : X.K = K) : IxR X (rIxT K) := by subst h; exact ix_tup
theorem slTK {X : Cx} (K : PySem.W.Frag) (h : X.K = K) : SlR X (rSlA K) := by subst h; exact sl_tupA
theorem lenK {X : Cx} (K : PySem.W.Frag) (h : X.K = K) : CallR X (.builtin "len") (fun xs H Q => ∃ x n, xs = [x] ∧ LenV K x H n ∧ Q (.int n) H) := by subst h; exact call_len
theorem allK {X : Cx} (K : PySem.W.Frag) (h : X.K = K) (hc : X.calm = true) : CallR X (.builtin "all") (rAll K) := by subst h; exact cr_all hc
theorem listK {X : Cx} (K : PySem.W.Frag) (h : X.K = K) : CallR X (.type "list") (fun xs H Q => ∃ p ys, xs = [.ref p] ∧ (SqL K H p ys ∨ SqT K H p ys) ∧ ∀ l, H l = none → Q (.ref l) (upd H l (.lst ys))) := by subst h; exact call_list_of
theorem tupleK {X : Cx} (K : PySem.W.Frag) (h : X.K = K) : CallR X (.type "tuple") (fun xs H Q => ∃ p ys, xs = [.ref p] ∧ ((SqL K H p ys ∧ ∀ l, H l = none → Q (.ref l) (upd H l (.tup ys))) ∨ (SqT K H p ys ∧ Q (.ref p) H))) := by subst h; exact call_tuple_of
theorem slK {X : Cx} (K : PySem.W.Frag) (h : X.K = K) : SlR X (rSlL K) := by subst h; exact sl_list
section
variable {K : PySem.W.Frag} {ρ : List Sl} {t u : TS} {D : DE}
theorem ws_seqI (I : List Sl → Prop) (h : Ws K t ρ { D with nx := I }) (k : ∀ ρ', I ρ' → Ws K u ρ' D) : Ws K (tSeq t u) ρ D := fun M σ H S E k0 =>
  h M σ H S { E with nx := u E } ⟨fun M' σ' H' ρ' s S' z => k ρ' z M' σ' H' S' E (k0.step s), k0.rt, k0.bk, k0.ct, k0.ex⟩
end
/-! ### what is no longer looked at -/
inductive Wk : List Sl → List Sl → Prop
  | nil : Wk [] []
  | keep {s : Sl} {r r' : List Sl} : Wk r r' → Wk (s :: r) (s :: r')
  | drop {s : Sl} {r r' : List Sl} : Wk r r' → Wk (s :: r) (.any :: r')
theorem Wk.len {r r' : List Sl} (h : Wk r r') : r.length = r'.length := by
  induction h with
  | nil => rfl
  | keep _ ih => show _ + 1 = _ + 1; rw [ih]
  | drop _ ih => show _ + 1 = _ + 1; rw [ih]
theorem Wk.at {r r' : List Sl} (h : Wk r r') : ∀ (i : Nat) (s : Sl), r'[i]? = some s → s = .any ∨ r[i]? = some s := by
  induction h with
  | nil => intro i s e; simp at e
  | @keep t r r' _ ih =>
    intro i s e
    cases i with
    | zero => exact .inr e
    | succ i => rw [List.getElem?_cons_succ] at e ⊢; exact ih i s e
  | @drop t r r' _ ih =>
    intro i s e
    cases i with
    | zero => exact .inl (Option.some.inj e).symm
    | succ i => rw [List.getElem?_cons_succ] at e ⊢; exact ih i s e
section
variable {K : PySem.W.Frag} {ρ ρ' : List Sl} {t : TS} {D : DE}
theorem Wk.sd {M : Md} {H : Hp} {σ : L2.St} (h : Wk ρ ρ') (S : Sd K M H σ ρ) : Sd K M H σ ρ' := by
  refine ⟨by rw [← h.len]; exact S.len, by rw [← h.len]; exact S.olen, S.mok, fun i s e => ?_⟩
  rcases h.at i s e with z | z
  · subst z
    have hi : i < σ.length := by rw [S.len, h.len]; exact (List.getElem?_eq_some_iff.mp e).1
    exact ⟨_, List.getElem?_eq_getElem hi, trivial⟩
  · exact S.ok i s z
theorem ws_wk (h : Ws K t ρ { D with nx := fun ρ1 => ∃ ρ2, Wk ρ1 ρ2 ∧ D.nx ρ2 }) : Ws K t ρ D := fun M σ H S E k =>
  h M σ H S E ⟨fun M' σ' H' ρ1 s S' ⟨ρ2, w, z⟩ => k.nx M' σ' H' ρ2 s (w.sd S') z, k.rt, k.bk, k.ct, k.ex⟩
variable {pf : Bool} {Φ : Dt → List Sl → Prop}
theorem w_isInt {i : Nat} {d : Dt} (e : ρ[i]? = some (.dat d)) (hd : noTy d = true) (h : Φ (.bl (isInt d)) ρ) :
    Wp K pf (tAndV (tCB (rIsi K) (tCons (tVar i) (tCons (tC (.ty "int")) tNil))) (tNotV (tCB (rIsi K) (tCons (tVar i) (tCons (tC (.ty "bool")) tNil))))) ρ Φ := by
  obtain ⟨b, k1, k2, k3⟩ := kit_int hd
  obtain ⟨c, k4⟩ := kit_bool hd
  refine w_andV <| w_isi e hd k1 ⟨b, rfl, ?_⟩
  cases b with
  | true => exact ifT <| w_notV <| w_isi e hd k4 ⟨c, rfl, by rw [← k2 rfl c k4]; exact h⟩
  | false => exact ifF (by rw [← k3 rfl]; exact h)
end
/-- a def of the top: where it stands, how it is called -/
structure DF (K : PySem.W.Frag) (mg : Str → Option Value) (x : Str) (st : Stmt) (ps : List Str) where
  f : Addr
  fd : FuncData
  F : Fun K x x st f fd
  b : Binds K fd ps []
  g : mg x = some (.ref f)
section
variable {K : PySem.W.Frag} {pf : Bool} {ρ : List Sl} {tk : TA} {Φ : Dt → List Sl → Prop}
theorem w_callK {W : List Dt → (Dt → Prop) → Prop} {gV : List V → List V → List V} {E : XK} (hg : ∀ zs, gV [] zs = zs) (h : Wa K pf tk ρ fun ds ρ1 => W ds fun d => Φ d ρ1) : Wp K pf (tCallK (spP K W) gV E tNil tk) ρ Φ := fun M σ H S Q q => by
  have := w_call0 (E := E) h M σ H S Q q
  show tk σ H fun zs H2 => spP K W (gV [] zs) H2 Q E
  have e : (fun zs H2 => spP K W (gV [] zs) H2 Q E) = fun zs H2 => spP K W (zs ++ []) H2 Q E := by
    funext zs H2
    rw [hg, List.append_nil]
  rw [e]
  exact this
end
/-- two keywords, nothing by position -/
def gKw {α : Type} (us ws : List α) : List α := if us.isEmpty then ws else []
theorem gKw_nil {α : Type} (ws : List α) : gKw [] ws = ws := rfl
section
variable {P : Program} {w : World} {K : PySem.W.Frag} {mg : Str → Option Value} {base : Heap}
def spPen (K : PySem.W.Frag) : Sp := fun vs H Q _ => ∃ (a : Addr) (ns : List Int), vs = [.ref a] ∧ SqL K H a (ns.map V.int) ∧
  ∀ H' p l, Same H H' → H p = none → H l = none → p ≠ l → H' p = some (.lst [.ref l, .int 0, .int 0]) → H' l = some (.lst ((ns.take 63).map V.int)) → Q (.ref p) H'
theorem cutV_to {xs : List V} (n : Nat) : cutV xs none (some (n : Int)) = xs.take n := by
  unfold cutV
  rw [HT.sIx_none, HT.sIx_nat, List.drop_zero, Nat.sub_zero]
  by_cases c : n ≤ xs.length
  · rw [Nat.min_eq_left c]
  · rw [Nat.min_eq_right (by omega), List.take_of_length_le (Nat.le_refl _), List.take_of_length_le (by omega)]
/-- the law's head: the pen is made -/
theorem pen_head {N : List Str} {k : Nat} {u : TS} {E0 : XK} {Q : VK} {a : Addr} {ns : List Int} {H : Hp} (hN : N.length = k + 2) (hT : ∀ t ∈ Tb.T, H t.1 = some (.tbl #[])) (hS : SqL K H a (ns.map V.int)) (hlen : ns.length ≤ 63) (q : ∀ H', Q (.bl true) H')
    (h : Ws K u (.dat (.lst (ns.map Dt.int)) :: .pen 0 :: List.replicate k .any) { nx := fun _ => False, rt := fun d _ => d = .bl true }) :
    tSeq (tAsg (tCall (spPen K) [] E0 (tCons (tVar 0) tNil)) (gName 1)) u { nx := fun _ H' => Q .non H', rt := Q } (L2.start N [.ref a]) H := by
  refine ⟨.ref a, rfl, a, ns, rfl, hS, fun H' p l sm np nl npl ep el => ?_⟩
  have asInts : ∀ {H : Hp} (ns : List Int), DXs K H (ns.map V.int) (ns.map Dt.int) := fun {H} ns => by
    induction ns with
    | nil => exact .nil
    | cons n r ih => exact .cons (.int n) ih
  have has : ∀ x, (⟨some p, [], List.replicate (k + 2) none⟩ : Md).has x → x = p ∨ ∃ t ∈ Tb.T, t.1 = x := fun x z => by
    rcases z with z | z | z
    · rcases z with z | ⟨t, ht, e⟩
      · exact .inl (Option.some.inj z).symm
      · exact .inr ⟨t, ht, e⟩
    · cases z
    · exact (no_rep z).elim
  have sc : ∀ x o, H x = some o → (∀ ps, o ≠ .tbl ps) → cut ⟨some p, [], List.replicate (k + 2) none⟩ H' x = some o := fun x o z n => cut_at (fun c => by
    rcases has x c with e | ⟨t, ht, e⟩
    · rw [e, np] at z; cases z
    · rw [← e, hT t ht] at z; exact n _ (Option.some.inj z).symm) (sm x o z)
  have el' : cut ⟨some p, [], List.replicate (k + 2) none⟩ H' l = some (.lst ((ns.take 63).map V.int)) := cut_at (fun c => by
    rcases has l c with e | ⟨t, ht, e⟩
    · exact npl e.symm
    · rw [← e, hT t ht] at nl; cases nl) el
  have hS' : SqL K (cut ⟨some p, [], List.replicate (k + 2) none⟩ H') a (ns.map V.int) := by
    rcases hS with (h | ⟨o, h⟩) | h
    · exact .inl (.inl (sc _ _ h fun ps z => by cases z))
    · exact .inl (.inr ⟨o, sc _ _ h fun ps z => by cases z⟩)
    · exact .inr h
  have tb0 : TabsM ⟨some p, [], List.replicate (k + 2) none⟩ H' := fun t ht => ⟨#[], sm _ _ (hT t ht), True.intro, fun pos cv hc => by
    have z : codeAmong pos [] = some cv := hc
    simp [codeAmong] at z⟩
  refine h ⟨some p, [], List.replicate (k + 2) none⟩ _ H' ⟨?_, ?_, ⟨fun x z => by
      rcases has x z with e | ⟨t, ht, e⟩
      · rw [e]; exact ⟨_, ep⟩
      · rw [← e]; exact ⟨_, sm _ _ (hT t ht)⟩, fun x _ => ⟨(fun z => nomatch z), no_rep⟩, fun x z => (nomatch z), fun i j x z => ?_, tb0⟩, fun i s z => ?_⟩ _ ⟨fun _ _ _ _ _ _ z => z.elim, fun M' v H2 d ρ' σ' _ _ x e => ?_, fun _ _ _ _ _ _ z => z.elim, fun _ _ _ _ _ _ z => z.elim, fun _ _ _ _ _ _ _ _ _ _ _ _ z => z.elim⟩
  · unfold L2.start
    simp only [List.length_set, List.length_append, List.length_map, List.length_replicate, List.length_cons, List.length_nil]
    omega
  · show (List.replicate (k + 2) none).length = _
    simp only [List.length_replicate, List.length_cons]
  · have z : (List.replicate (k + 2) (none : Option Addr))[i]? = some (some x) := z
    rw [List.getElem?_replicate] at z
    split at z <;> cases z
  · cases i with
    | zero =>
      have z := Option.some.inj (show some (Sl.dat (.lst (ns.map Dt.int))) = some s from z)
      subst z
      exact ⟨some (.ref a), rfl, .ref a, rfl, .lst hS' (asInts ns)⟩
    | succ i =>
      cases i with
      | zero =>
        have z := Option.some.inj (show some (Sl.pen 0) = some s from z)
        subst z
        have e : ((L2.start N [.ref a]).set 1 (some (.ref p)))[1]? = some (some (.ref p)) := List.getElem?_set_self (by
          unfold L2.start
          simp only [List.length_append, List.length_map, List.length_replicate, List.length_cons, List.length_nil]
          omega)
        exact ⟨_, e, p, rfl, rfl, l, ns.take 63, 0, 0, ep, .inl (.inl el'), Nat.le_refl _, by decide, by rw [List.length_take]; omega⟩
      | succ i =>
        have z : (List.replicate k Sl.any)[i]? = some s := z
        have hi : i < k := by
          have := (List.getElem?_eq_some_iff.mp z).1
          rwa [List.length_replicate] at this
        have es : s = .any := by
          rw [List.getElem?_replicate, if_pos hi] at z
          exact (Option.some.inj z).symm
        subst es
        have hl : i + 1 + 1 < ((L2.start N [.ref a]).set 1 (some (.ref p))).length := by
          unfold L2.start
          simp only [List.length_set, List.length_append, List.length_map, List.length_replicate, List.length_cons, List.length_nil]
          omega
        exact ⟨_, List.getElem?_eq_getElem hl, trivial⟩
  · subst e
    show Q v H2
    rw [x.bl_eq]
    exact q H2
end
inductive Fac (K : PySem.W.Frag) (x : Str) (st : Stmt) : Prop
  | mk {f : Addr} {od an : Option Addr} {sl : Array (Option Value)} {oc kV dc pm cd ct : Value} (a : PySem.W.nsIn K mainGlobals x = some (some (.ref f)))
      (l : K.lookup f = some ⟨oc, od, .func (PySem.W.fnOf x x (defArgs st) (defBody st) (defScope st) .none kV dc pm an cd ct), sl⟩) (c : PySem.W.codeIn K cd x = true) (k : PySem.W.keepIn K (.ref f) = true) : Fac K x st
theorem Fac.df {K : PySem.W.Frag} {x : Str} {st : Stmt} {h : Heap} {mg : Str → Option Value} {ps : List Str} (F : Fac K x st) (X : K.In h) (G : h.Ns mainGlobals mg)
    (hb : ∀ (kV doc pm : Value) (an : Option Addr) (cdv ct : Value) (us : List Value), us.length = ps.length → bindArgs (PySem.W.fnOf x x (defArgs st) (defBody st) (defScope st) .none kV doc pm an cdv ct) ⟨us, []⟩ = pure (ps.zip us)) : Nonempty (DF K mg x st ps) := by
  cases F with
  | mk a l c k =>
    have F := fun_mk (st := st) l c k
    exact ⟨⟨_, _, F, F.binds hb, PySem.W.mg_of X G a⟩⟩
end DL

/-! Data level: dicts of one's own. -/
namespace DL
open PySem PySem.Spec PyProof.Rows L2
variable [Tb]

def putD (kvs : List (Key × Dt)) (k : Key) (d : Dt) : List (Key × Dt) :=
  if (kvs.any fun kv => decide (kv.1 = k)) = true then kvs.map (fun kv => if kv.1 = k then (kv.1, d) else kv) else kvs ++ [(k, d)]
section
variable {K : PySem.W.Frag} {H : Hp}
theorem DXk.any {k : Key} : ∀ {kvs : List (Key × V)} {ds : List (Key × Dt)}, DXk K H kvs ds → (kvs.any fun kv => decide (kv.1 = k)) = ds.any fun kv => decide (kv.1 = k)
  | _, [], x => by cases x; rfl
  | _, _ :: ds, x => by
    cases x with
    | cons x1 x2 => rw [List.any_cons, List.any_cons, DXk.any (ds := ds) x2]
theorem DXk.upd1 {k : Key} {v : V} {d : Dt} (y : DX K H v d) : ∀ {kvs : List (Key × V)} {ds : List (Key × Dt)}, DXk K H kvs ds → DXk K H (kvs.map fun kv => if kv.1 = k then (kv.1, v) else kv) (ds.map fun kv => if kv.1 = k then (kv.1, d) else kv)
  | _, [], x => by cases x; exact .nil
  | _, (k1, d1) :: ds, x => by
    cases x with
    | @cons _ v1 vs _ _ x1 x2 =>
      rw [List.map_cons, List.map_cons]
      by_cases c : k1 = k
      · rw [if_pos c, if_pos c]; exact .cons y (DXk.upd1 y (ds := ds) x2)
      · rw [if_neg c, if_neg c]; exact .cons x1 (DXk.upd1 y (ds := ds) x2)
theorem DXk.snoc {k : Key} {v : V} {d : Dt} (y : DX K H v d) : ∀ {kvs : List (Key × V)} {ds : List (Key × Dt)}, DXk K H kvs ds → DXk K H (kvs ++ [(k, v)]) (ds ++ [(k, d)])
  | _, [], x => by cases x; exact .cons y .nil
  | _, (k1, d1) :: ds, x => by
    cases x with
    | cons x1 x2 => exact .cons x1 (DXk.snoc y (ds := ds) x2)
theorem DXk.put {k : Key} {v : V} {d : Dt} {kvs : List (Key × V)} {ds : List (Key × Dt)} (x : DXk K H kvs ds) (y : DX K H v d) : DXk K H (putK kvs k v) (putD ds k d) := by
  unfold putK putD
  rw [x.any]
  split
  · exact x.upd1 y
  · exact x.snoc y
theorem DXk.len : ∀ {ds : List (Key × Dt)} {kvs : List (Key × V)}, DXk K H kvs ds → kvs.length = ds.length
  | [], _, h => by cases h; rfl
  | _ :: ds, _, h => by
    cases h with
    | cons h1 h2 => show _ + 1 = _ + 1; rw [DXk.len (ds := ds) h2]
end
section
variable {K : PySem.W.Frag} {ρ : List Sl} {te ti tk : TE} {tt : TT} {t u : TS} {D : DE} {i : Nat} {pf : Bool} {kvs : List (Key × Dt)}
theorem ws_newdict (hi : i < ρ.length) (h : D.nx (ρ.set i (.ownd []))) : Ws K (tAsg tDNewK (gName i)) ρ D := fun M σ H S E k q hq =>
  k.nx _ _ _ _ (Stp.own hq (same_new hq)) ((S.same (same_new hq)).ownd hi (S.mok.new hq) upd_same .nil (S.aside hq (same_new hq) upd_same)) h
theorem ws_dput {x : Str} (e0 : ρ[i]? = some (.ownd kvs)) (h : Wp K pf te ρ fun d ρ1 => ∃ kvs1, ρ1[i]? = some (.ownd kvs1) ∧ kvs1.length < 100000 ∧ D.nx (ρ1.set i (.ownd (putD kvs1 (.inr x) d)))) : Ws K (sDPut (tVar i) (tC (.str x)) te) ρ D := fun M σ H S E k => by
  obtain ⟨o, h1, l, vs0, e1, e2, e3, e4⟩ := S.ok i _ e0
  subst e1
  refine h M σ H S _ fun v H1 d ρ1 s1 S1 x1 ⟨kvs1, g1, g2, g3⟩ => ?_
  obtain ⟨o', z1, l', vs, y1, y2, y3, y4⟩ := S1.ok i _ g1
  have el : l' = l := Option.some.inj (Option.some.inj (y2.symm.trans e2))
  subst el
  refine ⟨.ref l', h1, l', _, rfl, .inl ⟨vs, .inr x, y3, rfl, by rw [y4.len]; exact Nat.lt_of_lt_of_le g2 (by decide), rfl⟩, ?_⟩
  obtain ⟨S3, s3⟩ := S1.writed (vs := vs) g1 y2 (y4.put x1)
  exact k.nx M σ _ _ (s1.st.trans s3) S3 g3
/-- a dict of one's own given out of hand -/
theorem Sd.freezed {M : Md} {H : Hp} {σ : L2.St} (S : Sd K M H σ ρ) (hs : ρ[i]? = some (.ownd kvs)) :
    ∃ a, Sd K { M with O := M.O.set i none } H σ (ρ.set i (.dat (.dct a kvs))) ∧ Stp M H { M with O := M.O.set i none } H := by
  have hO : ∀ a, some a ∈ M.O.set i none → some a ∈ M.O := fun a h => by
    rcases List.mem_or_eq_of_mem_set h with z | z
    · exact z
    · cases z
  have has : ∀ a, ({ M with O := M.O.set i none } : Md).has a → M.has a := fun a h => by
    rcases h with h | h | h
    · exact .inl h
    · exact .inr (.inl h)
    · exact .inr (.inr (hO a h))
  have sc : Same (cut M H) (cut { M with O := M.O.set i none } H) := cut_le has
  obtain ⟨o0, h0, l, vs, e0, e1, e2, e3⟩ := S.ok i _ hs
  have hset : ∀ (j : Nat) (a : Addr), (M.O.set i none)[j]? = some (some a) → i ≠ j ∧ M.O[j]? = some (some a) := fun j a h => by
    by_cases e : i = j
    · subst e
      rw [List.getElem?_set_self (List.getElem?_eq_some_iff.mp e1).1] at h
      cases Option.some.inj h
    · rw [List.getElem?_set_ne e] at h
      exact ⟨e, h⟩
  have nl : ¬ ({ M with O := M.O.set i none } : Md).has l := fun z => by
    have hm := List.mem_of_getElem? e1
    rcases z with z | z | z
    · exact (S.mok.pF l z).2 hm
    · exact S.mok.FO l z hm
    · obtain ⟨j, hj⟩ := List.getElem?_of_mem z
      obtain ⟨n, h2⟩ := hset j l hj
      exact n (S.mok.nd i j l e1 h2)
  refine ⟨l, ⟨by rw [List.length_set]; exact S.len, by show (M.O.set i none).length = _; rw [List.length_set, List.length_set]; exact S.olen, ⟨fun a h => S.mok.live a (has a h), fun a h => ⟨(S.mok.pF a h).1, fun z => (S.mok.pF a h).2 (hO a z)⟩, fun a h z => S.mok.FO a h (hO a z), fun j k a h1 h2 => S.mok.nd j k a (hset j a h1).2 (hset k a h2).2, S.mok.tbU rfl (fun _ _ _ z => z) sc⟩, fun j s h => ?_⟩, ⟨rfl, rfl, fun a o z c d => ⟨z, fun y => d (hO a y)⟩⟩⟩
  by_cases e : i = j
  · subst e
    rw [List.getElem?_set_self (by rw [← S.len]; exact S.slot hs)] at h
    have h := Option.some.inj h
    subst h
    exact ⟨o0, h0, .ref l, e0, .dct (.inl (cut_at nl e2)) (e3.mono sc)⟩
  · rw [List.getElem?_set_ne e] at h
    obtain ⟨o, h1, h2⟩ := S.ok j s h
    refine ⟨o, h1, ?_⟩
    cases s with
    | any => trivial
    | dat d => obtain ⟨v, a1, a2⟩ := h2; exact ⟨v, a1, a2.mono sc⟩
    | val u d => obtain ⟨a1, a2⟩ := h2; exact ⟨a1, a2.mono sc⟩
    | own es =>
      obtain ⟨l', ws', a1, a2, a3, a4⟩ := h2
      exact ⟨l', ws', a1, by show (M.O.set i none)[j]? = _; rw [List.getElem?_set_ne e]; exact a2, a3, a4.mono sc⟩
    | obj C0 b0 ns0 es =>
      obtain ⟨l', dx0, ws', a1, a2, a3, a5, a4⟩ := h2
      exact ⟨l', dx0, ws', a1, by show (M.O.set i none)[j]? = _; rw [List.getElem?_set_ne e]; exact a2, a3, a5, a4.mono sc⟩
    | ownd es =>
      obtain ⟨l', ws', a1, a2, a3, a4⟩ := h2
      exact ⟨l', ws', a1, by show (M.O.set i none)[j]? = _; rw [List.getElem?_set_ne e]; exact a2, a3, a4.mono sc⟩
    | pen m =>
      obtain ⟨p', a1, a2, l', ns, c, g, b1, b2, b3⟩ := h2
      exact ⟨p', a1, a2, l', ns, c, g, b1, sc.seq b2, b3⟩
    | pown es => obtain ⟨p', ws', a1, a2, a3, a4⟩ := h2; exact ⟨p', ws', a1, a2, a3, a4.mono sc⟩
theorem ws_freezed (hs : ρ[i]? = some (.ownd kvs)) (h : ∀ a, Ws K t (ρ.set i (.dat (.dct a kvs))) D) : Ws K t ρ D := fun M σ H S E k =>
  let ⟨a, S2, s2⟩ := S.freezed hs
  h a _ σ H S2 E (k.step s2)
/-- .. behind the statement -/
theorem ws_frz (h : Ws K t ρ { D with nx := fun ρ1 => ∃ kvs, ρ1[i]? = some (.ownd kvs) ∧ ∀ a, D.nx (ρ1.set i (.dat (.dct a kvs))) }) : Ws K t ρ D := fun M σ H S E k =>
  h M σ H S E ⟨fun M' σ' H' ρ1 s S' ⟨kvs, e, z⟩ => let ⟨a, S2, s2⟩ := S'.freezed e; k.nx _ σ' H' _ (s.trans s2) S2 (z a), k.rt, k.bk, k.ct, k.ex⟩
theorem wp_thawd {Φ : Dt → List Sl → Prop} (hs : ρ[i]? = some (.ownd kvs)) (h : ∀ a, Wp K true te (ρ.set i (.dat (.dct a kvs))) fun d _ => flatD d = true ∧ Φ d ρ) : Wp K pf te ρ Φ := fun M σ H S Q q =>
  let ⟨a, S2, _⟩ := S.freezed hs
  h a _ σ H S2 Q fun v H2 d ρ' s S3 x ⟨f, z⟩ => q v H2 d ρ (Tr.same pf M (s.sm rfl)) (S.same (s.sm rfl)) (flat_any f x) z
theorem wt_thawd {Φ : Bool → List Sl → Prop} (hs : ρ[i]? = some (.ownd kvs)) (h : ∀ a, Wt K true tt (ρ.set i (.dat (.dct a kvs))) fun b _ => Φ b ρ) : Wt K pf tt ρ Φ := fun M σ H S Q q =>
  let ⟨a, S2, _⟩ := S.freezed hs
  h a _ σ H S2 Q fun b H2 ρ' s S3 z => q b H2 ρ (Tr.same pf M (s.sm rfl)) (S.same (s.sm rfl)) z
end
end DL

/-! Data level: instances of own classes: fields, properties, dict parts; sorted of texts; what is made by a class. -/
namespace DL
open PySem PySem.Spec PyProof.Rows L2
variable [Tb]

/-! ### sorted(texts) -/
def rSortedS (K : PySem.W.Frag) : List V → Hp → VK → Prop := fun vs H Q => ∃ (a : Addr) (ss : List Str), vs = [V.ref a] ∧ (SqL K H a (ss.map V.str) ∨ SqL K H a (ss.map V.str)) ∧
  ∀ (ss' : List Str) (p : Addr), ss'.Perm ss → sortedS ss' = true → H p = none → Q (.ref p) (upd H p (.lst (ss'.map V.str)))
theorem cr_sortedS {X : Cx} : CallR X (.builtin "sorted") (rSortedS X.K) := by
  intro pins s σ H vs us Q I r h
  obtain ⟨a, ss, rfl, hs, q⟩ := h
  have hs : SqL X.K H a (ss.map V.str) := by rcases hs with z | z <;> exact z
  obtain ⟨its, rv, hl, hz⟩ := I.list hs
  rw [Vals.ref1 r]
  refine PyProof.Rows.sorted_strsAny hl.isList rv.strs (by rw [← rv.length]; exact hz) fun out ss' h1 h2 h3 => ?_
  obtain ⟨ep, he'⟩ := PyProof.Rows.sortedAll_at s.heap its out
  have hlen : (ss'.map V.str).length ≤ sizeLine := by
    rw [List.length_map, h2.length_eq]
    rw [List.length_map] at hz
    exact hz
  exact ⟨.ref _, upd H (s.heap.objs.size + 1) (.lst (ss'.map V.str)), I.laid (t' := s.toks) (fun _ _ => PyProof.Rows.sortedAll_old) (Nat.le_succ _) ⟨hlen, out.toList, ep, vals_of_strs h1, he'⟩, rfl, q _ _ h2 h3 (I.hok.fresh (Nat.le_succ _))⟩
section
variable {K : PySem.W.Frag} {Ψ : Dt → Prop} {ss : List Str}
theorem dxs_strs {H : Hp} : ∀ ss : List Str, DXs K H (ss.map V.str) (ss.map Dt.str)
  | [] => .nil
  | s :: r => .cons (.str s) (dxs_strs r)
theorem rd_sortedS (h : ∀ ss', ss'.Perm ss → sortedS ss' = true → Ψ (.lst (ss'.map Dt.str))) : RD K (rSortedS K) [.lst (ss.map Dt.str)] Ψ := fun M H vs m xx Q q => by
  obtain ⟨v, rfl, x⟩ := one_v xx
  cases x with
  | lst hs ha =>
    rw [ha.strs] at hs
    exact ⟨_, ss, rfl, .inl ((cut_sub M H).seq hs), fun ss' p hp h2 np => q _ _ _ (same_new np) (dx_new_l m np (dxs_strs ss')) (h ss' hp h2)⟩
end

/-! ### fields of instances, parts of dicts -/
def look (ns : List Str) (ds : List Dt) (f : Str) : Option Dt := (ns.zip ds).lookup f
theorem DXs.look {K : PySem.W.Frag} {H : Hp} {f : Str} {d : Dt} : ∀ {ns : List Str} {vs : List V} {ds : List Dt}, DXs K H vs ds → DL.look ns ds f = some d → ∃ v, (ns.zip vs).lookup f = some v ∧ DX K H v d
  | [], _, _, _, h => by unfold DL.look at h; simp at h
  | n :: ns, [], _, x, h => by cases x; unfold DL.look at h; simp at h
  | n :: ns, v :: vs, _, x, h => by
    cases x with
    | @cons _ _ d1 ds x1 x2 =>
      unfold DL.look at h
      rw [List.zip_cons_cons, List.lookup_cons] at h ⊢
      cases c : f == n with
      | true =>
        rw [c] at h
        have h := Option.some.inj h
        subst h
        exact ⟨v, rfl, x1⟩
      | false =>
        rw [c] at h
        exact DXs.look (ns := ns) x2 h
def valD (kvs : List (Key × Dt)) (k : Key) : Option Dt := (kvs.find? fun kv => decide (kv.1 = k)).map (·.2)
theorem DXk.val {K : PySem.W.Frag} {H : Hp} {k : Key} {d : Dt} : ∀ {kvs : List (Key × V)} {ds : List (Key × Dt)}, DXk K H kvs ds → valD ds k = some d → ∃ v, valV kvs k = some v ∧ DX K H v d
  | _, [], x, h => by cases x; cases h
  | _, (k1, d1) :: ds, x, h => by
    cases x with
    | @cons _ v1 vs _ _ x1 x2 =>
      unfold valD at h
      unfold valV
      rw [List.find?_cons] at h ⊢
      cases c : decide (k1 = k) with
      | true =>
        have h : some d1 = some d := by simpa [c] using h
        have h := Option.some.inj h
        subst h
        exact ⟨v1, by simp [c], x1⟩
      | false =>
        have h : valD ds k = some d := by simpa [c, valD] using h
        obtain ⟨v, e1, e2⟩ := DXk.val (ds := ds) x2 h
        exact ⟨v, by simpa [c, valV] using e1, e2⟩
section
variable {K : PySem.W.Frag} {pf : Bool} {ρ : List Sl} {ta tb te : TE} {tr tk : TA} {Φ : Dt → List Sl → Prop} {C : Addr}
theorem w_fld {f : Str} (c : Cls K C) (nF : NoAttr K C f) (h : Wp K pf ta ρ fun d ρ1 => ∃ a ns ds e, d = .ins C a ns ds ∧ look ns ds f = some e ∧ Φ e ρ1) : Wp K pf (tFld K ta f) ρ Φ := fun M σ H S Q q =>
  h M σ H S _ fun v H1 d ρ1 s1 S1 x1 ⟨a, ns, ds, e, ed, l, z⟩ => by
    subst ed
    cases x1 with
    | @ins _ _ dx _ vs _ hs hl ha =>
      obtain ⟨u, h1, h2⟩ := ha.look l
      exact ⟨a, C, dx, _, u, rfl, (cut_of hs).2, c, nF, h1, q u H1 e ρ1 s1 S1 h2 z⟩
theorem dget_rd {H : Hp} {a : Addr} {kvs : List (Key × V)} {k : Key} (e : Rd H a (.dK kvs)) : DGet H a (kV k) (valV kvs k) := .inl ⟨kvs, k, e, rfl, rfl⟩
theorem w_dget {k : Str} (h : Wp K pf ta ρ fun d ρ1 => Wp K pf tb ρ1 fun y ρ2 => ∃ a kvs e, d = .dct a kvs ∧ y = .str k ∧ valD kvs (.inr k) = some e ∧ Φ e ρ2) : Wp K pf (tDGet ta tb) ρ Φ := fun M σ H S Q q =>
  h M σ H S _ fun v1 H1 d1 ρ1 s1 S1 x1 k1 => k1 M σ H1 S1 _ fun v2 H2 d2 ρ2 s2 S2 x2 ⟨a, kvs, e, e1, e2, l, z⟩ => by
    subst e1 e2
    have x1' := x1.mono s2.dx
    cases x1' with
    | @dct _ vkvs _ hs ha =>
      obtain ⟨u, h1, h2⟩ := ha.val l
      rw [x2.str_eq]
      refine ⟨a, u, rfl, ?_, q u H2 e ρ2 (s1.trans s2) S2 h2 z⟩
      rw [← h1]
      exact dget_rd (k := .inr k) (cut_Rd hs).2
theorem w_prop {W : List Dt → (Dt → Prop) → Prop} {E : XK} (h : Wp K pf ta ρ fun d ρ1 => (∃ a ns ds, d = .ins C a ns ds) ∧ W [d] fun e => Φ e ρ1) : Wp K pf (tProp C (spP K W) [] E ta) ρ Φ := fun M σ H S Q q =>
  h M σ H S _ fun v H1 d ρ1 s1 S1 x1 ⟨⟨a, ns, ds, ed⟩, w⟩ => by
    have ec : ∀ H', cut M.callP H' = cut M H' := cut_congr M.callP_has
    have key : spP K W [v] H1 Q E := ⟨M.callP, [d], _, rfl, rfl, S1.mok.callP, by rw [ec]; exact .one x1, w, fun v H2 d e x f => q v H2 d ρ1 (s1.trans (Tr.same pf M e)) (S1.same e) (by rw [ec] at x; exact x) f⟩
    subst ed
    cases x1 with
    | @ins _ _ dx _ vs _ hs hl ha => exact ⟨a, dx, _, rfl, (cut_of hs).2, key⟩
/-- the pairs of a display: keys are texts, values are told by slots or flat: nothing is made on the way -/
def Wd (K : PySem.W.Frag) (trs : List (TE × TE)) (ρ : List Sl) (kvs : List (Key × Dt)) : Prop :=
  ∀ (M : Md) (σ : L2.St) (H : Hp), Sd K M H σ ρ → ∀ Q : List (V × V) → Hp → Prop, (∀ ps, DXk K (cut M H) ps kvs → Q (ps.map fun kv => (kV kv.1, kv.2)) H) → tPairs trs σ H Q
theorem wd_nil : Wd K [] ρ [] := fun M σ H S Q q => q [] .nil
theorem wd_var {k : Str} {i : Nat} {d : Dt} {trs : List (TE × TE)} {kvs : List (Key × Dt)} (e : ρ[i]? = some (.dat d)) (h : Wd K trs ρ kvs) : Wd K ((tC (.str k), tVar i) :: trs) ρ ((.inr k, d) :: kvs) := fun M σ H S Q q => by
  obtain ⟨o, h1, v, h2, h3⟩ := S.ok i _ e
  subst h2
  exact ⟨v, h1, h M σ H S _ fun ps x => q ((.inr k, v) :: ps) (.cons h3 x)⟩
end
theorem putK_new {kvs : List (Key × V)} {k : Key} {v : V} (h : k ∉ kvs.map (·.1)) : putK kvs k v = kvs ++ [(k, v)] := by
  unfold putK
  rw [if_neg]
  intro c
  obtain ⟨x, hx, e⟩ := List.any_eq_true.mp c
  exact h (List.mem_map.mpr ⟨x, hx, of_decide_eq_true e⟩)
theorem mergeK_new : ∀ (ps acc : List (Key × V)), ((acc ++ ps).map (·.1)).Nodup → mergeK acc ps = acc ++ ps
  | [], acc, _ => by rw [List.append_nil]; rfl
  | (k, v) :: ps, acc, h => by
    show mergeK (putK acc k v) ps = _
    have nk : k ∉ acc.map (·.1) := by
      rw [List.map_append, List.nodup_append] at h
      intro z
      exact h.2.2 k z k (by simp) rfl
    rw [putK_new nk, mergeK_new ps (acc ++ [(k, v)]) (by rw [List.append_assoc]; exact h), List.append_assoc]
    rfl
theorem DXk.keys {K : PySem.W.Frag} {H : Hp} : ∀ {kvs : List (Key × V)} {ds : List (Key × Dt)}, DXk K H kvs ds → kvs.map (·.1) = ds.map (·.1)
  | _, [], x => by cases x; rfl
  | _, _ :: ds, x => by
    cases x with
    | cons x1 x2 => rw [List.map_cons, List.map_cons, DXk.keys (ds := ds) x2]
section
variable {K : PySem.W.Frag} {pf : Bool} {ρ : List Sl} {ta tb te : TE} {tr tk : TA} {Φ : Dt → List Sl → Prop} {C : Addr}
theorem w_dispW {trs : List (TE × TE)} {kvs : List (Key × Dt)} (h : Wd K trs ρ kvs) (hn : (kvs.map (·.1)).Nodup) (h15 : kvs.length ≤ 15) (z : ∀ a, Φ (.dct a kvs) ρ) : Wp K pf (tDisp trs) ρ Φ := fun M σ H S Q q p hp => by
  have S1 := S.aside (o := .dK []) hp (same_new hp) upd_same
  refine h { M with F := p :: M.F } σ _ S1 _ fun ps x => ⟨upd_same, ps, rfl, ?_, ?_⟩
  · have := congrArg List.length x.keys
    rw [List.length_map, List.length_map] at this
    omega
  · rw [mergeK_new ps [] (by rw [List.nil_append, x.keys]; exact hn), List.nil_append]
    have all : Same H (upd (upd H p (.dK [])) p (.dK ps)) := fun a u z => by
      rw [upd_ne (ne_of_none z hp), upd_ne (ne_of_none z hp)]; exact z
    refine q (.ref p) _ (.dct p kvs) ρ (Tr.same pf M all) (S.same all) (.dct (.inl (cut_at (S.mok.new hp) upd_same)) (x.mono fun a u z => ?_)) (z p)
    obtain ⟨c, y⟩ := cut_of z
    have na : a ≠ p := fun n => c (.inr (.inl (by rw [n]; exact List.mem_cons_self)))
    exact cut_at (fun t => c (has_aside a t)) (by rw [upd_ne na]; exact y)
theorem ws_owndisp {trs : List (TE × TE)} {kvs : List (Key × Dt)} {D : DE} {i : Nat} (hi : i < ρ.length) (h : Wd K trs ρ kvs) (hn : (kvs.map (·.1)).Nodup) (h15 : kvs.length ≤ 15) (z : D.nx (ρ.set i (.ownd kvs))) : Ws K (tAsg (tDisp trs) (gName i)) ρ D := fun M σ H S E k p hp => by
  have S1 := S.aside (o := .dK []) hp (same_new hp) upd_same
  refine h { M with F := p :: M.F } σ _ S1 _ fun ps x => ⟨upd_same, ps, rfl, ?_, ?_⟩
  · have := congrArg List.length x.keys
    rw [List.length_map, List.length_map] at this
    omega
  · rw [mergeK_new ps [] (by rw [List.nil_append, x.keys]; exact hn), List.nil_append]
    have all : Same H (upd (upd H p (.dK [])) p (.dK ps)) := fun a u z => by
      rw [upd_ne (ne_of_none z hp), upd_ne (ne_of_none z hp)]; exact z
    have S2 := S.aside (o := .dK ps) hp all upd_same
    have x2 : DXk K (cut { M with F := p :: M.F } (upd (upd H p (.dK [])) p (.dK ps))) ps kvs := x.mono fun a u z => by
      obtain ⟨c, y⟩ := cut_of z
      have na : a ≠ p := fun n => c (.inr (.inl (by rw [n]; exact List.mem_cons_self)))
      exact cut_at c (by rw [upd_ne na]; exact y)
    exact k.nx _ _ _ _ (Stp.own hp all) ((S.same all).ownd hi (S.mok.new hp) upd_same x2 S2) z
end
end DL

/-! Data level: how an instance is made: the stores of its fields, the promise of an __init__, the call of the class. -/
namespace DL
open PySem PySem.Spec PyProof.Rows L2
variable [Tb]

theorem putF_new {f : Str} {v : V} : ∀ {ns : List Str} {vs : List V}, f ∉ ns → ns.length = vs.length → putF f v (ns.zip vs) = (ns ++ [f]).zip (vs ++ [v])
  | [], [], _, _ => rfl
  | n :: ns, w :: vs, h, l => by
    rw [List.zip_cons_cons]
    show (if n = f then _ else (n, w) :: putF f v (ns.zip vs)) = _
    rw [if_neg fun e => h (by rw [e]; exact List.mem_cons_self), putF_new (fun z => h (List.mem_cons_of_mem _ z)) (by simpa using l)]
    rfl
/-- M with self set aside -/
abbrev Md.slf (M : Md) (self : Addr) : Md := { M with F := self :: M.F }
/-- stores of fields, one behind another, on the object that stands in slot 0 -/
def Fs (K : PySem.W.Frag) (C : Addr) (t : TS) (ρ : List Sl) (ns : List Str) (ds : List Dt) (Φ : List Str → List Dt → Prop) : Prop :=
  ∀ (M : Md) (self dx : Addr) (σ : L2.St) (H : Hp) (vs : List V), Sd K (M.slf self) H σ ρ → ρ[0]? = some (.dat (.cls self)) → M.p ≠ some self → some self ∉ M.O → H self = some (.ins C dx (ns.zip vs)) → ns.length = vs.length →
    DXs K (cut (M.slf self) H) vs ds → ∀ E : Ends, (∀ σ' H' ns' vs' ds', (∀ a o, H a = some o → a ≠ self → H' a = some o) → H' self = some (.ins C dx (ns'.zip vs')) → ns'.length = vs'.length →
      DXs K (cut (M.slf self) H') vs' ds' → Φ ns' ds' → E.nx σ' H') → t E σ H
section
variable {K : PySem.W.Frag} {C : Addr} {te : TE} {t : TS} {ρ : List Sl} {ns : List Str} {ds : List Dt} {Φ : List Str → List Dt → Prop} {f : Str}
theorem fs_step {M : Md} {self dx : Addr} {σ : L2.St} {H1 : Hp} {vs : List V} {v : V} {d : Dt} (S : Sd K (M.slf self) H1 σ ρ) (hs : H1 self = some (.ins C dx (ns.zip vs))) (hl : ns.length = vs.length) (hf : f ∉ ns)
    (x : DXs K (cut (M.slf self) H1) vs ds) (xv : DX K (cut (M.slf self) H1) v d) :
    Sd K (M.slf self) (upd H1 self (.ins C dx (putF f v (ns.zip vs)))) σ ρ ∧ (upd H1 self (.ins C dx (putF f v (ns.zip vs)))) self = some (.ins C dx ((ns ++ [f]).zip (vs ++ [v]))) ∧ (ns ++ [f]).length = (vs ++ [v]).length ∧
      DXs K (cut (M.slf self) (upd H1 self (.ins C dx (putF f v (ns.zip vs))))) (vs ++ [v]) (ds ++ [d]) := by
  refine ⟨S.poke, by rw [upd_same, putF_new hf hl], by rw [List.length_append, List.length_append, hl]; rfl, (x.append (.one xv)).mono fun a u z => ?_⟩
  obtain ⟨c, y⟩ := cut_of z
  exact cut_at c (by rw [upd_ne fun n => c (.inr (.inl (by rw [n]; exact List.mem_cons_self)))]; exact y)
theorem fs_cons (c : Cls K C) (nF : NoAttr K C f) (hf : f ∉ ns) (hn : ns.length < 900) (h : Wp K true te ρ fun d ρ1 => ρ1 = ρ ∧ Fs K C t ρ (ns ++ [f]) (ds ++ [d]) Φ) : Fs K C (tSeq (sFld K (tVar 0) te f) t) ρ ns ds Φ :=
  fun M self dx σ H vs S h0 np nO hs hl x E k => h _ σ H S _ fun v H1 d ρ1 s1 S1 xv ⟨e1, z⟩ => by
    subst e1
    have hs1 := s1.sm rfl _ _ hs
    obtain ⟨o, o1, v0, o2, o3⟩ := S1.ok 0 _ h0
    cases o3
    subst o2
    obtain ⟨T1, T2, T3, T4⟩ := fs_step (f := f) S1 hs1 hl hf (x.mono s1.dx) xv
    refine ⟨.ref self, o1, self, C, dx, _, rfl, hs1, c, nF, ?_, ?_⟩
    · rw [List.length_zip, ← hl, Nat.min_self]; omega
    · refine z M self dx σ _ (vs ++ [v]) T1 h0 np nO T2 T3 T4 E fun σ' H' ns' vs' ds' kp a1 a2 a3 a4 => k σ' H' ns' vs' ds' (fun a o e n => kp a o (by rw [upd_ne n]; exact s1.sm rfl _ _ e) n) a1 a2 a3 a4
theorem fs_one (c : Cls K C) (nF : NoAttr K C f) (hf : f ∉ ns) (hn : ns.length < 900) (h : Wp K true te ρ fun d ρ1 => ρ1 = ρ ∧ Φ (ns ++ [f]) (ds ++ [d])) : Fs K C (sFld K (tVar 0) te f) ρ ns ds Φ :=
  fun M self dx σ H vs S h0 np nO hs hl x E k => h _ σ H S _ fun v H1 d ρ1 s1 S1 xv ⟨e1, z⟩ => by
    subst e1
    have hs1 := s1.sm rfl _ _ hs
    obtain ⟨o, o1, v0, o2, o3⟩ := S1.ok 0 _ h0
    cases o3
    subst o2
    obtain ⟨T1, T2, T3, T4⟩ := fs_step (f := f) S1 hs1 hl hf (x.mono s1.dx) xv
    refine ⟨.ref self, o1, self, C, dx, _, rfl, hs1, c, nF, ?_, ?_⟩
    · rw [List.length_zip, ← hl, Nat.min_self]; omega
    · exact k σ _ _ _ _ (fun a o e n => by rw [upd_ne n]; exact s1.sm rfl _ _ e) T2 T3 T4 z
end

/-! ### the promise of an __init__ -/
/-- W: from the arguments' data to the fields' names and data -/
def spMk (K : PySem.W.Frag) (C : Addr) (W : List Dt → (List Str → List Dt → Prop) → Prop) : Sp := fun vs H Q _ => ∃ (M : Md) (self dx : Addr) (ws : List V) (ds : List Dt) (Φ : List Str → List Dt → Prop),
  vs = .ref self :: ws ∧ M.p = none ∧ M.O = [] ∧ H self = some (.ins C dx []) ∧ MOk (M.slf self) H ∧ DXs K (cut (M.slf self) H) ws ds ∧ W ds Φ ∧
    ∀ H2 ns us es, (∀ a o, H a = some o → a ≠ self → H2 a = some o) → H2 self = some (.ins C dx (ns.zip us)) → ns.length = us.length → DXs K (cut (M.slf self) H2) us es → Φ ns es → Q .non H2
section
variable {K : PySem.W.Frag} {C : Addr} {N : List Str} {W : List Dt → (List Str → List Dt → Prop) → Prop} {vs : List V} {H : Hp} {Q : VK} {E : XK} {tp tq : TS}
/-- its body: what comes ahead of the stores (tp), the stores (tq) -/
theorem read_I (h : spMk K C W vs H Q E) (hl : vs.length ≤ N.length)
    (b : ∀ self ds Φ, ds.length + 1 = vs.length → W ds Φ → Ws K tp (.dat (.cls self) :: slots ds (N.length - (ds.length + 1))) { nx := fun ρ => ρ[0]? = some (.dat (.cls self)) ∧ Fs K C tq ρ [] [] Φ, rt := fun _ _ => False }) :
    tp { nx := tq { nx := fun _ H' => Q .non H', rt := Q }, rt := Q } (L2.start N vs) H := by
  obtain ⟨M, self, dx, ws, ds, Φ, rfl, hp, hO, hs, m, x, w, q⟩ := h
  have hO' : (M.slf self).O = [] := hO
  have x0 : DXs K (cut (M.slf self) H) (.ref self :: ws) (.cls self :: ds) := .cons (.cls self) x
  have S0 := sd_start (N := N) hO' m x0 hl
  have e0 : slots (.cls self :: ds) (N.length - (Dt.cls self :: ds).length) = .dat (.cls self) :: slots ds (N.length - (ds.length + 1)) := rfl
  rw [e0] at S0
  refine b self ds Φ (by rw [List.length_cons, x.len]) w ((M.slf self).body N.length) _ H S0 _ ⟨fun M' σ' H' ρ' s S ⟨z0, z⟩ => ?_, fun _ _ _ _ _ _ _ _ _ z => z.elim, fun M' σ' H' ρ' s S z => z.elim, fun M' σ' H' ρ' s S z => z.elim, fun _ _ _ _ _ _ _ _ _ _ _ _ z => z.elim⟩
  have keep : ∀ a o, H a = some o → H' a = some o ∧ some a ∉ M'.O := fun a o e => s.keep a o e (Md.inP0 hp a) no_rep
  have eF : M'.F = self :: M.F := s.F
  have ep : M'.p = none := s.p.trans hp
  obtain ⟨p', F', O'⟩ := M'
  simp only at eF ep
  subst eF ep
  have hs' := keep self _ hs
  refine z ⟨none, M.F, O'⟩ self dx σ' H' [] S z0 (fun y => nomatch y) hs'.2 hs'.1 rfl .nil _ fun σ2 H2 ns us es kp a1 a2 a3 a4 => ?_
  have sub : Same (cut (Md.slf ⟨none, M.F, O'⟩ self) H2) (cut (M.slf self) H2) := cut_le fun a z => by
    rcases z with z | z | z
    · exact (Md.inP0 (M := M) hp a z).elim
    · exact .inr (.inl z)
    · have z : some a ∈ M.O := z
      rw [hO] at z; cases z
  exact q H2 ns us es (fun a o e n => kp a o (keep a o e).1 n) a1 a2 (a3.mono sub) a4
end

/-! ### the call of the class -/
section
variable {K : PySem.W.Frag} {C : Addr} {W : List Dt → (List Str → List Dt → Prop) → Prop} {ρ : List Sl} {pf : Bool} {tr tk : TA} {Φ : Dt → List Sl → Prop} {E : XK}
theorem make_ok {M : Md} {σ : L2.St} {H2 : Hp} {Q : VK} {ws : List V} {ds : List Dt} {x dx : Addr} (S : Sd K M H2 σ ρ) (hx : H2 x = none) (hdx : H2 dx = none) (ne : dx ≠ x) (xs : DXs K (cut M H2) ws ds)
    (w : W ds fun ns es => ∀ a, Φ (.ins C a ns es) ρ) (q : ∀ v H3 d ρ', Tr pf M H2 H3 → Sd K M H3 σ ρ' → DX K (cut M H3) v d → Φ d ρ' → Q v H3) :
    spMk K C W (.ref x :: ws) (upd (upd H2 dx (.own x)) x (.ins C dx [])) (fun v H3 => v = .non ∧ Q (.ref x) H3) E := by
  have s1 : Same H2 (upd (upd H2 dx (.own x)) x (.ins C dx [])) := fun a u z => by
    rw [upd_ne (ne_of_none z hx), upd_ne (ne_of_none z hdx)]; exact z
  have S1 := S.aside (q := x) hx s1 upd_same
  have nx := S.mok.new hx
  have ec : ∀ H', cut (M.callP.slf x) H' = cut (M.slf x) H' := fun H' => cut_congr (fun a => by
    constructor
    · rintro (z | z | z)
      · exact (Md.inP0 rfl a z).elim
      · rcases List.mem_cons.mp z with z | z
        · rw [z]; exact .inr (.inl List.mem_cons_self)
        · exact has_aside a ((M.callP_has a).mp (.inr (.inl z)))
      · first | exact (Md.inP0 rfl _ z).elim | cases z
    · rintro (z | z | z)
      · rcases (M.callP_has a).mpr (.inl z) with y | y | y
        · exact (Md.inP0 rfl a y).elim
        · exact .inr (.inl (List.mem_cons_of_mem _ y))
        · first | exact (Md.inP0 rfl _ y).elim | cases y
      · rcases List.mem_cons.mp z with z | z
        · rw [z]; exact .inr (.inl List.mem_cons_self)
        · rcases (M.callP_has a).mpr (.inr (.inl z)) with y | y | y
          · exact (Md.inP0 rfl a y).elim
          · exact .inr (.inl (List.mem_cons_of_mem _ y))
          · first | exact (Md.inP0 rfl _ y).elim | cases y
      · rcases (M.callP_has a).mpr (.inr (.inr z)) with y | y | y
        · exact (Md.inP0 rfl a y).elim
        · exact .inr (.inl (List.mem_cons_of_mem _ y))
        · cases y) H'
  have same_cut : Same (cut M H2) (cut (M.slf x) (upd (upd H2 dx (.own x)) x (.ins C dx []))) := fun a u z => by
    obtain ⟨c, y⟩ := cut_of z
    refine cut_at (fun t => ?_) (s1 a u y)
    rcases t with t | t | t
    · exact c (.inl t)
    · rcases List.mem_cons.mp t with t | t
      · rw [t, hx] at y; cases y
      · exact c (.inr (.inl t))
    · exact c (.inr (.inr t))
  refine ⟨M.callP, x, dx, ws, ds, _, rfl, rfl, rfl, upd_same, ?_, by rw [ec]; exact xs.mono same_cut, w, fun H3 ns us es kp e1 e2 e3 e4 => ⟨rfl, ?_⟩⟩
  · refine ⟨fun a z => ?_, fun a z => (Md.inP0 rfl a z).elim, fun a _ z => (nomatch z), fun i j a z => ?_, fun t ht => (nomatch ht)⟩
    · rcases z with z | z | z
      · first | exact (Md.inP0 rfl _ z).elim | cases z
      · rcases List.mem_cons.mp z with z | z
        · rw [z]; exact ⟨_, upd_same⟩
        · obtain ⟨o, e⟩ := S.mok.live a ((M.callP_has a).mp (.inr (.inl z)))
          exact ⟨o, s1 a o e⟩
      · first | exact (Md.inP0 rfl _ z).elim | cases z
    · have z : ([] : List (Option Addr))[i]? = some (some a) := z
      simp at z
  · have s3 : Same H2 H3 := fun a u z => kp a u (s1 a u z) (ne_of_none z hx)
    refine q (.ref x) H3 (.ins C x ns es) ρ (Tr.same pf M s3) (S.same s3) (.ins (cut_at nx e1) e2 ?_) (e4 x)
    rw [ec] at e3
    exact e3.mono (cut_le has_aside)
theorem w_make (h : Wa K pf tr ρ fun ds ρ1 => W ds fun ns es => ∀ a, Φ (.ins C a ns es) ρ1) : Wp K pf (tMake C (spMk K C W) [] E tr) ρ Φ := fun M σ H S Q q =>
  h M σ H S _ fun vs H1 ds ρ1 s1 S1 x1 w => fun x dx hx hdx ne => by
    rw [List.append_nil]
    exact make_ok S1 hx hdx ne x1 w fun v H3 d ρ' s S3 xd f => q v H3 d ρ' (s1.trans s) S3 xd f
/-- with keywords: g puts self, the written ones and the keywords' in their order, by values and by data alike -/
theorem w_makeK {n m : Nat} {gV : List V → List V → List V} {gD : List Dt → List Dt → List Dt} (hg : ∀ (x : Addr) (vs zs : List V) (ds es : List Dt) (H : Hp), vs.length = n → zs.length = m → DXs K H vs ds → DXs K H zs es → ∃ ws, gV (.ref x :: vs) zs = .ref x :: ws ∧ DXs K H ws (gD ds es))
    (h : Wa K pf tr ρ fun ds ρ1 => Wa K pf tk ρ1 fun es ρ2 => ds.length = n ∧ es.length = m ∧ W (gD ds es) fun ns fs => ∀ a, Φ (.ins C a ns fs) ρ2) : Wp K pf (tMakeK C n m (spMk K C W) gV E tr tk) ρ Φ := fun M σ H S Q q =>
  h M σ H S _ fun vs H1 ds ρ1 s1 S1 x1 k => k M σ H1 S1 _ fun zs H2 es ρ2 s2 S2 x2 ⟨l1, l2, w⟩ => by
    have h1 : vs.length = n := x1.len.trans l1
    have h2 : zs.length = m := x2.len.trans l2
    refine ⟨h1, h2, fun x dx hx hdx ne => ?_⟩
    obtain ⟨ws, e, xw⟩ := hg x vs zs ds es _ h1 h2 (x1.mono s2.dx) x2
    rw [e]
    exact make_ok S2 hx hdx ne xw w fun v H3 d ρ' s S3 xd f => q v H3 d ρ' ((s1.trans s2).trans s) S3 xd f
end
end DL

set_option maxHeartbeats 2000000
/-! An exception that a name keeps: it stays known behind its suite. -/
namespace DL
open PySem PySem.Spec PyProof.Rows L2
variable [Tb]

section
variable {X : Cx} {pins : List (Addr × Obj)} {σ : L2.St} {H : Hp} {s : Shared} {a : Addr} {oe : Obj} {cls : Value} {d : Option Addr}
theorem exh_ok {P : Program} {w : World} {h : Heap} {vs : Array Value} (e : h.get? a = some oe) (z : Zc cls d oe) (f : oe.data = .fields vs) : ObjOk P w H h a (exh a cls d) :=
  ⟨⟨oe, vs, e, z, f⟩, ⟨oe, e⟩, fun _ _ ⟨o, v, q, r⟩ k => ⟨o, v, k o q, r⟩⟩
/-- a pinned exception is told to the abstract heap -/
theorem note (I : Inv X ((a, oe) :: pins) σ H s) {vs : Array Value} (z : Zc cls d oe) (f : oe.data = .fields vs) (h0 : ∀ o, X.s_0.heap.get? a = some o → a ∈ X.ex) (hp : ∀ p ∈ X.pn ++ pins, p.1 ≠ a) :
    Inv X pins σ (upd H a (exh a cls d)) s := by
  obtain ⟨p1, p2, p3, p4, p5⟩ := I.pin (a, oe) (List.mem_append_right _ List.mem_cons_self)
  have na : ∀ {b : Addr} {u : HO}, H b = some u → b ≠ a := fun e n => by
    rw [n] at e
    exact nomatch p2.symm.trans e
  have sub : ∀ p ∈ X.pn ++ pins, p ∈ X.pn ++ ((a, oe) :: pins) := fun p h => by
    rcases List.mem_append.mp h with c | c
    · exact List.mem_append_left _ c
    · exact List.mem_append_right _ (List.mem_cons_of_mem _ c)
  refine ⟨I.ok, I.os, I.bare, ⟨I.base.keep, I.base.slot, fun b o e n x => ?_, I.base.there, fun b xs e => ?_, fun b o u e => ?_, fun b ps e => ?_⟩, I.loc, I.cell, ?_, fun x c e => ?_, fun p h => ?_, HOk.laidN I.hok (fun _ _ q => q) p2 (exh_ok p1 z f), I.len⟩
  · have nb : b ≠ a := fun m => x (by rw [m]; exact h0 o (by rw [← m]; exact e))
    rw [upd_ne nb]
    exact I.base.free b o e n x
  · have q := I.base.tups b xs e
    rw [upd_ne (na q)]; exact q
  · have q := I.base.frzs b o u e
    rw [upd_ne (na q)]; exact q
  · obtain ⟨more, q⟩ := I.base.tbls b ps e
    exact ⟨more, by rw [upd_ne (na q)]; exact q⟩
  · rw [upd_ne (Ne.symm p3)]; exact I.free
  · have nc : c ≠ a := fun m => by
      obtain ⟨v, o, ho, hd⟩ := I.cell x c e
      rw [m] at ho
      have eo : o = oe := Option.some.inj (ho.symm.trans p1)
      rw [eo] at hd
      exact p5 v hd
    rw [upd_ne nc]; exact I.freeC x c e
  · obtain ⟨q1, q2, q3, q4, q5⟩ := I.pin p (sub p h)
    exact ⟨q1, by rw [upd_ne (hp p h)]; exact q2, q3, q4, q5⟩
end
/-- what the clause wishes: at its suite's end the exception is told to the abstract heap -/
def keepE (a : Addr) (cls : Value) (d : Option Addr) (i : Nat) (D : Ends) : Ends :=
  { nx := fun σ H => H a = none → D.nx (σ.set i none) (upd H a (exh a cls d)), rt := fun v H => H a = none → D.rt v (upd H a (exh a cls d)), bk := fun σ H => H a = none → D.bk (σ.set i none) (upd H a (exh a cls d)), ct := fun σ H => H a = none → D.ct (σ.set i none) (upd H a (exh a cls d)) }
/-- several clauses «except X as n», one name for all -/
def wKeeps (K : PySem.W.Frag) (i : Nat) (Wout : WX) (D : Ends) : List (Value × (Addr → Value → Option Addr → TS)) → WX
  | [] => Wout
  | (c, ts) :: r => fun cls d σ H => ∃ b, PySem.W.exmOne K cls c = some b ∧ (b = true → ∀ a, H a = none → ts a cls d (keepE a cls d i D) (σ.set i (some (.ref a))) H) ∧ (b = false → wKeeps K i Wout D r cls d σ H)
/-- a suite, whatever exception its name holds -/
def SuiteOk (X : Cx) (suite : List Stmt) (ts : Addr → Value → Option Addr → TS) : Prop := ∀ (a : Addr) (oe : Obj) (cls : Value) (d : Option Addr) (pn : List (Addr × Obj)), Zc cls d oe → (∃ vs, oe.data = .fields vs) → PSs (X.suite a ((a, oe) :: pn)) suite (ts a cls d)
inductive HdsN (X : Cx) (n : Str) : List ExceptHandler → List (Value × (Addr → Value → Option Addr → TS)) → Prop
  | nil : HdsN X n [] []
  | cons {x : Str} {c : Value} {ts : Addr → Value → Option Addr → TS} {st0 : Stmt} {suite : List Stmt} {np pos' : Pos} {hds : List ExceptHandler} {l : List (Value × (Addr → Value → Option Addr → TS))} (hc : Names X x c)
      (hsu : SuiteOk X (st0 :: suite) ts) (r : HdsN X n hds l) : HdsN X n (.ExceptHandler (some (.Name x np)) (some n) (st0 :: suite) pos' :: hds) ((c, ts) :: l)
/-- the exception at a is caught in X, over the state sI that stood ahead of it -/
structure Caught (X : Cx) (pins : List (Addr × Obj)) (a : Addr) (B : Heap) (sI : Shared) (τ : L2.St) (G : Hp) (cls : Value) (d : Option Addr) (s : Shared) : Prop where
  inv : Inv X pins τ G sI
  low : ∀ b o, sI.heap.get? b = some o → b ∉ frs X.stack → B.get? b = some o
  up : sI.heap.UpToSlots s.heap
  fly : HandSPX.FlyingZ B (X.env :: X.outer) a (Zc cls d) s.heap
  new : G a = none
  os : s.os = sI.os
  bare : AllBare s.gens
section
variable {X : Cx} {pins : List (Addr × Obj)} {a : Addr} {B : Heap} {sI s : Shared} {τ : L2.St} {G : Hp} {cls : Value} {d : Option Addr}
theorem Caught.now (C : Caught X pins a B sI τ G cls d s) : Inv X pins τ G s := C.inv.landed C.low C.fly.1 C.up C.os C.bare
theorem Caught.next (C : Caught X pins a B sI τ G cls d s) {h : Heap} (f : HandSPX.FlyingZ B (X.env :: X.outer) a (Zc cls d) h) (u : s.heap.UpToSlots h) : Caught X pins a B sI τ G cls d { s with heap := h } :=
  ⟨C.inv, C.low, C.up.trans u, f, C.new, C.os, C.bare⟩
/-- it is no frame -/
theorem Caught.off (C : Caught X pins a B sI τ G cls d s) : a ∉ frs (X.env :: X.outer) := fun m => by
  obtain ⟨oe, vs, e, _, f⟩ := C.fly.there
  obtain ⟨_, o, e2, n⟩ := C.fly.2.2.1.mem m
  rw [e] at e2
  exact n vs (Option.some.inj e2 ▸ f)
theorem Caught.clear (C : Caught X pins a B sI τ G cls d s) (hs : X.stack = X.env :: X.outer) : sI.heap.get? a = none := by
  cases e : sI.heap.get? a with
  | none => rfl
  | some o =>
    have q := C.low a o e (hs ▸ C.off)
    rw [C.fly.2.1] at q
    cases q
theorem Caught.suite (C : Caught X pins a B sI τ G cls d s) (hf : X.env.frame = some X.env.locals) : ∃ oe, Zc cls d oe ∧ (∃ vs, oe.data = .fields vs) ∧ s.heap.get? a = some oe ∧ Inv (X.suite a ((a, oe) :: (X.pn ++ pins))) [] τ G s := by
  obtain ⟨oe, vs, e, z, f⟩ := C.fly.there
  have mine : ∀ b ∈ frs (X.env :: X.outer), a ≠ b := fun b m n => C.off (n ▸ m)
  refine ⟨oe, z, ⟨vs, f⟩, e, C.now.suite e f C.new (mine _ ?_) fun m => ?_⟩
  · exact List.mem_filterMap.mpr ⟨X.env, .head _, hf⟩
  · obtain ⟨env, m, q⟩ := List.mem_filterMap.mp m
    exact C.off (List.mem_filterMap.mpr ⟨env, .tail _ m, q⟩)
/-- the suite's end: the name goes, the exception is told to the abstract heap -/
theorem Caught.ends (C : Caught X pins a B sI τ G cls d s) (hs : X.stack = X.env :: X.outer) {i : Nat} {n : Str} {pos' : Pos} {D : Ends} {oe : Obj} {fl : Flow} {s6 : Shared} (hN : X.N.Nodup) (hi : X.N[i]? = some n) (hln : X.env.kindOf n = some .local) (z : Zc cls d oe) (f : ∃ vs, oe.data = .fields vs)
    (h : SP (X.suite a ((a, oe) :: (X.pn ++ pins))) [] (keepE a cls d i D) fl s6) : wpAny (model X.prog X.w) X.A (do bindName X.env n .none; unbindBehindTheSuite X.env n pos') (fun _ s7 => SP X pins D fl s7) X.xe s6 := by
  obtain ⟨vs, f⟩ := f
  have n0 := C.clear hs
  have here : ∀ {τ6 : L2.St} {G6 : Hp} {Q : Shared → Prop}, Inv (X.suite a ((a, oe) :: (X.pn ++ pins))) [] τ6 G6 s6 → (∀ s7, G6 a = none → Inv X pins (τ6.set i none) (upd G6 a (exh a cls d)) s7 → Q s7) →
      wpAny (model X.prog X.w) X.A (do bindName X.env n .none; unbindBehindTheSuite X.env n pos') (fun _ s7 => Q s7) X.xe s6 := fun {τ6 G6 Q} S k => by
    have p0 := S.pin (a, oe) (List.mem_append_left _ (.head _))
    have J := S.unsuite C.inv.ok
    have J2 : Inv X ((a, oe) :: pins) τ6 G6 s6 := J.pins_of fun p m => (List.mem_cons.mp m).elim (fun e => e ▸ p0) fun m => J.pin p (List.mem_append_right _ m)
    refine gone_ok J2 hN hi hln fun s7 J7 => k s7 p0.2.1 (note J7 z f (fun o e => ?_) fun p m e => ?_)
    · apply Classical.byContradiction
      intro q
      obtain ⟨o', e'⟩ := C.inv.base.there a o e q
      exact nomatch n0.symm.trans e'
    · have q := (C.inv.pin p m).1
      rw [e, n0] at q
      cases q
  cases fl with
  | ret u => exact h.elim fun v ⟨_, _, S, r, q⟩ => here S fun s7 nA J => ⟨v, _, _, J, r, q nA⟩
  | _ => exact h.elim fun _ ⟨_, S, q⟩ => here S fun s7 nA J => ⟨_, _, J, q nA⟩
end
theorem sp_ofTry {X : Cx} {pins : List (Addr × Obj)} {xe : Value → Shared → Prop} {D : Ends} {f : Flow} {s : Shared} (ok : X.Ok) (h : SP (X.tr (X.pn ++ pins) xe) [] D f s) : SP X pins D f s := by
  cases f with
  | ret u => exact h.elim fun v ⟨_, _, J, r⟩ => ⟨v, _, _, J.ofTry ok, r⟩
  | _ => exact h.elim fun _ ⟨_, J, r⟩ => ⟨_, _, J.ofTry ok, r⟩
section
variable {X : Cx} {n : Str} {i : Nat} {body : List Stmt} {pos : Pos} {tb : WX → TS} {Wout : WX} {h0 : ExceptHandler} {hds : List ExceptHandler} {l : List (Value × (Addr → Value → Option Addr → TS))}
theorem run_clauses {pins : List (Addr × Obj)} {a : Addr} {B : Heap} {sI s : Shared} {τ : L2.St} {G : Hp} {cls : Value} {d : Option Addr} {D : Ends} (hs : X.stack = X.env :: X.outer) (hf : X.env.frame = some X.env.locals) (hN : X.N.Nodup) (hi : X.N[i]? = some n) (hln : X.env.kindOf n = some .local) (tk : Takes X Wout)
    (C : Caught X pins a B sI τ G cls d s) (hk : HdsN X n hds l) : wKeeps X.K i Wout D l cls d τ G → wpAny (model X.prog X.w) X.A (handleBy (.ref a) X.env hds) (SP X pins D) X.xe s := by
  induction hk with
  | nil => exact fun w => PX.no_clauseZ hf C.fly fun h held u => tk _ _ ⟨a, B, sI, pins, τ, G, cls, d, rfl, C.inv, C.low, C.up.trans u, .inr (.inr (by rw [hs]; exact held)), C.new, C.os, C.bare, w⟩
  | @cons x c ts st0 suite np pos' hds l hc hsu r ih =>
    rintro ⟨b, hm, yes, no⟩
    obtain ⟨oe, z, f, e, S⟩ := C.suite hf
    have test : ∀ {Q E : Value → Shared → Prop}, Q c s → wpAny (model X.prog X.w) (X.A.mark (some (.ref a))) (eval (.Name x np) X.env) Q E s := fun {Q E} q => by
      obtain ⟨g, db, m | ⟨m, bt, nn⟩⟩ := hc
      · exact ld_glob (X := X.suite a ((a, oe) :: (X.pn ++ pins))) S g m q db
      · exact ld_blt (X := X.suite a ((a, oe) :: (X.pn ++ pins))) S g m bt q nn db
    cases b with
    | false => exact PX.clause_passZ C.now.kIn (fun o z => z.1) C.fly hm test (ih (no rfl))
    | true =>
      refine PX.clause_asZ C.now.kIn (fun o z => z.1) C.fly hm test fun h fly u => ?_
      have C2 := C.next fly u
      obtain ⟨o2, z2, f2, e2, S2⟩ := C2.suite hf
      refine store_ok (X := X.suite a ((a, o2) :: (X.pn ++ pins))) (v := .ref a) S2 hN hi (.inl hln) rfl (fun s5 S5 => ?_) (.inr hln)
      exact wpAny_mono ((hsu a o2 cls d (X.pn ++ pins) z2 f2).run [] s5 _ G (keepE a cls d i D) S5 (yes rfl a C.new)) (fun fl s6 h => C2.ends hs hN hi hln z2 f2 h) fun _ _ z => z.elim
theorem ps_try_keeps (hs : X.stack = X.env :: X.outer) (hf : X.env.frame = some X.env.locals) (hN : X.N.Nodup) (hi : X.N[i]? = some n) (hln : X.env.kindOf n = some .local) (tk : Takes X Wout)
    (hb : ∀ (W : WX) (pn : List (Addr × Obj)) (xe : Value → Shared → Prop), Takes (X.tr pn xe) W → PassesOwn (model X.prog X.w) X.A X.env xe → PSs (X.tr pn xe) body (tb W))
    (hh : HdsN X n (h0 :: hds) l) : PS X (.Try body (h0 :: hds) [] [] pos) (fun D σ H => tb (wKeeps X.K i Wout D l) D σ H) := by
  constructor
  intro pins s σ H D I w
  have ok := I.ok
  refine wpAny_Try_except (wpAny_mono ((hb (wKeeps X.K i Wout D l) (X.pn ++ pins) _ (fun u s1 z => ?_) PassesOwn.looking).run [] s σ H D (I.toTry _) w) (fun f s1 h => ?_) fun _ _ z => z)
  · obtain ⟨a, B, sI, pI, τ, G, cls, d, rfl, J, low, up, sky, new, os, bare, w⟩ := z
    exact Sky.land Zc.steady (ok.frames.trans (congrArg some hs)) hf (by rw [← hs]; exact sky) fun h fly u => run_clauses hs hf hN hi hln tk ⟨J.ofTry ok, low, up.trans u, fly, new, os, bare⟩ hh w
  · have h := sp_ofTry ok h
    cases f with
    | next => exact wpAny_execs_nil h
    | _ => exact h
/-- one clause -/
def wKeep (K : PySem.W.Frag) (c : Value) (i : Nat) (ts : Addr → Value → Option Addr → TS) (Wout : WX) (D : Ends) : WX := wKeeps K i Wout D [(c, ts)]
theorem ps_try_keep {x : Str} {c : Value} {st0 : Stmt} {suite : List Stmt} {np pos' : Pos} {ts : Addr → Value → Option Addr → TS} (hs : X.stack = X.env :: X.outer) (hf : X.env.frame = some X.env.locals) (hN : X.N.Nodup) (hi : X.N[i]? = some n) (hln : X.env.kindOf n = some .local) (hc : Names X x c) (tk : Takes X Wout)
    (hb : ∀ (W : WX) (pn : List (Addr × Obj)) (xe : Value → Shared → Prop), Takes (X.tr pn xe) W → PassesOwn (model X.prog X.w) X.A X.env xe → PSs (X.tr pn xe) body (tb W)) (hsu : SuiteOk X (st0 :: suite) ts) :
    PS X (.Try body [.ExceptHandler (some (.Name x np)) (some n) (st0 :: suite) pos'] [] [] pos) (fun D σ H => tb (wKeep X.K c i ts Wout D) D σ H) := ps_try_keeps hs hf hN hi hln tk hb (.cons hc hsu .nil)
end
end DL

/-! Data level: exceptions that stand behind their suites: their fields, isinstance. -/
namespace DL
open PySem PySem.Spec PyProof.Rows L2
variable [Tb]

section
variable {X : Cx} {pins : List (Addr × Obj)} {σ : L2.St} {H : Hp} {s : Shared} {a C d : Addr} {fs : List (Str × V)}
/-- such an exception as the library sees it -/
theorem exh_at (I : Inv X pins σ H s) (ha : H a = some (exh a (.ref C) (some d))) (hd : H d = some (.xd fs)) : ∃ (oe od : Obj) (mA : Str → Option Value), PySem.W.InstAt s.heap a oe C (some od) ∧ s.heap.get? d = some od ∧ s.heap.Ns1 d mA ∧ ∀ f, RelO (fs.lookup f) (mA f) := by
  obtain ⟨⟨oe, vs, e1, ⟨e2, e3⟩, e4⟩, _⟩ := (show ObjOk X.prog X.w H s.heap a (exh a (.ref C) (some d)) from I.hok a _ ha)
  obtain ⟨mA, n1, n2⟩ := (show ObjOk X.prog X.w H s.heap d (.xd fs) from I.hok d _ hd)
  obtain ⟨od, o1, o2⟩ := lookIn_ns n1
  exact ⟨oe, od, mA, ⟨e1, e2, by unfold PySem.W.notCls; rw [e4] <;> rfl, by rw [e3]; exact o1⟩, o1, n1, n2⟩
end
/-- e.f of such an exception -/
def tXfld (K : PySem.W.Frag) (ta : TE) (f : Str) : TE := fun σ H Q => ta σ H fun x H1 => ∃ (a C d : Addr) (fs : List (Str × V)) (v : V), x = .ref a ∧ H1 a = some (exh a (.ref C) (some d)) ∧ H1 d = some (.xd fs) ∧ XfC K C ∧ PySem.W.findIn K (.ref C) f = some none ∧ fs.lookup f = some v ∧ Q v H1
theorem pe_xfld {X : Cx} {e : Expr} {ta : TE} {f : Str} {pos : Pos} (he : PE X e ta) (hb : attributeBase e f X.env (eval e X.env) = eval e X.env := by rfl) : PE X (.Attribute e f pos) (tXfld X.K ta f) := by
  constructor
  intro pins s σ H Q I h
  refine attr_of hb (thn (he.run pins s σ H _ I h) ?_)
  rintro u s1 ⟨x, H1, I1, rx, a, C, d, fs, v, rfl, ha, hd, T, hno, l, q⟩
  obtain rfl : u = Value.ref a := rx
  obtain ⟨oe, od, mA, J, o1, n1, n2⟩ := exh_at I1 ha hd
  obtain ⟨ob, e, o2⟩ := lookIn_ns n1
  rw [o1] at e
  cases e
  obtain ⟨w, hw, rw1⟩ := RelO.some_of (v := v) (o := mA f) (by rw [← l]; exact n2 f)
  exact HandSPX.exc_get I1.kIn J T.ga T.gg T.exC (PySem.W.findObj_own T.hdC hno rfl (by rw [o2, hw])) (handed_of rw1) ⟨v, H1, I1.tok _, rw1, q⟩
/-- what isinstance asks of the class: the library's own list -/
abbrev IsxC (K : PySem.W.Frag) (C : Addr) : Prop := ExcC K C
theorem cls_some {K : PySem.W.Frag} {C : Addr} (h : PySem.W.hasDictIn K C = true) : (PySem.W.clsIn K C).isSome = true := by
  unfold PySem.W.hasDictIn at h
  cases e : PySem.W.clsIn K C with
  | none => rw [e] at h; cases h
  | some _ => rfl
/-- isinstance(e, c), e such an exception -/
def rIsX (K : PySem.W.Frag) : List V → Hp → VK → Prop := fun xs H Q => ∃ (a C : Addr) (c : V) (cv : Value) (b : Bool), xs = [.ref a, c] ∧ (H a = some (exh a (.ref C) none) ∨ ∃ (d : Addr) (fs : List (Str × V)), H a = some (exh a (.ref C) (some d)) ∧ H d = some (.xd fs)) ∧ IsxC K C ∧ (∀ u, RelV c u → u = cv) ∧ PySem.W.kitOne K (.ref C) cv = some b ∧ Q (.bl b) H
theorem call_isX {X : Cx} : CallR X (.builtin "isinstance") (rIsX X.K) := by
  intro pins s σ H xs us Q I r h
  obtain ⟨a, C, c, cv, b, rfl, hh, T, hcv, e, q⟩ := h
  obtain ⟨u1, u2, rfl, r1, r2⟩ := vals2 r
  obtain rfl : u1 = Value.ref a := r1
  obtain rfl := hcv _ r2
  obtain ⟨oe, od, J⟩ : ∃ (oe : Obj) (od : Option Obj), PySem.W.InstAt s.heap a oe C od := by
    rcases hh with ha | ⟨d, fs, ha, hd⟩
    · obtain ⟨⟨oe, vs, e1, ⟨e2, e3⟩, e4⟩, _⟩ := (show ObjOk X.prog X.w H s.heap a (exh a (.ref C) none) from I.hok a _ ha)
      exact ⟨oe, none, e1, e2, by unfold PySem.W.notCls; rw [e4] <;> rfl, by rw [e3]; trivial⟩
    · obtain ⟨oe, od, mA, J, _⟩ := exh_at I ha hd
      exact ⟨oe, _, J⟩
  exact PySem.W.kia_one (PySem.W.kitx_exc (cls_some T.hd) T.hg T.hk T.hs T.ha T.hn T.ht T.hm) I.kIn J e (fun z => nomatch z) fun tk => ⟨.bl b, H, I.tok tk, rfl, q⟩
section
variable {K : PySem.W.Frag} {pf : Bool} {ρ : List Sl} {ta : TE} {Φ : Dt → List Sl → Prop} {Ψ : Dt → Prop}
theorem w_xfld {f : Str} {C : Addr} (T : XfC K C) (hno : PySem.W.findIn K (.ref C) f = some none) (h : Wp K pf ta ρ fun d ρ1 => ∃ a ns ds e, d = .exc C a ns ds ∧ look ns ds f = some e ∧ Φ e ρ1) : Wp K pf (tXfld K ta f) ρ Φ := fun M σ H S Q q =>
  h M σ H S _ fun v H1 d ρ1 s1 S1 x1 ⟨a, ns, ds, e, ed, l, z⟩ => by
    subst ed
    cases x1 with
    | @exc _ _ dd _ vs _ hs hd hl ha =>
      obtain ⟨u, h1, h2⟩ := ha.look l
      exact ⟨a, C, dd, _, u, rfl, (cut_of hs).2, (cut_of hd).2, T, hno, h1, q u H1 e ρ1 s1 S1 h2 z⟩
    | exc0 hs => exact nomatch l
theorem isx_of {M : Md} {H : Hp} {C a : Addr} {ns : List Str} {ds : List Dt} {v : V} (x : DX K (cut M H) v (.exc C a ns ds)) : v = .ref a ∧ (H a = some (exh a (.ref C) none) ∨ ∃ (d : Addr) (fs : List (Str × V)), H a = some (exh a (.ref C) (some d)) ∧ H d = some (.xd fs)) := by
  cases x with
  | exc hs hd hl ha => exact ⟨rfl, .inr ⟨_, _, (cut_of hs).2, (cut_of hd).2⟩⟩
  | exc0 hs => exact ⟨rfl, .inl (cut_of hs).2⟩
theorem rd_isX {C D a : Addr} {ns : List Str} {ds : List Dt} {b : Bool} (T : IsxC K C) (e : PySem.W.kitOne K (.ref C) (.ref D) = some b) (h : Ψ (.bl b)) : RD K (rIsX K) [.exc C a ns ds, .cls D] Ψ := fun M H vs m xx Q q => by
  obtain ⟨v, w, rfl, x1, x2⟩ := two_v xx
  cases x2
  obtain ⟨rfl, hh⟩ := isx_of x1
  exact ⟨a, C, .ref D, .ref D, b, rfl, hh, T, fun u z => z, e, q _ H _ (Same.refl H) (.bl b) h⟩
/-- .. against a built-in class -/
theorem rd_isXT {C a : Addr} {n : String} {ns : List Str} {ds : List Dt} {b : Bool} (T : IsxC K C) (e : PySem.W.kitOne K (.ref C) (.type n) = some b) (h : Ψ (.bl b)) : RD K (rIsX K) [.exc C a ns ds, .ty n] Ψ := fun M H vs m xx Q q => by
  obtain ⟨v, w, rfl, x1, x2⟩ := two_v xx
  cases x2
  obtain ⟨rfl, hh⟩ := isx_of x1
  exact ⟨a, C, .ty n, .type n, b, rfl, hh, T, fun u z => z, e, q _ H _ (Same.refl H) (.bl b) h⟩
end
end DL

/-! Data level: defs that may raise; exceptions of own classes over ValueError with fields, made and raised. -/
namespace DL
open PySem PySem.Spec PyProof.Rows L2
variable [Tb]

/-- a promise: from data to data, or out by an exception with fields; nothing that stands is changed -/
def spX (K : PySem.W.Frag) (W : List Dt → (Dt → Prop) → (Addr → List Str → List Dt → Prop) → Prop) : Sp := fun vs H Q E => ∃ (M : Md) (ds : List Dt) (Φ : Dt → Prop) (Ξ : Addr → List Str → List Dt → Prop),
  M.p = none ∧ M.O = [] ∧ MOk M H ∧ DXs K (cut M H) vs ds ∧ W ds Φ Ξ ∧ (∀ v H2 d, Same H H2 → DX K (cut M H2) v d → Φ d → Q v H2) ∧
    ∀ H2 C dd ns us es, Same H H2 → H2 dd = some (.xd (ns.zip us)) → ns.length = us.length → ¬ M.has dd → DXs K (cut M H2) us es → Ξ C ns es → E (.ref C) (some dd) H2
section
variable {P : Program} {w : World} {K : PySem.W.Frag} {mg : Str → Option Value} {base : Heap} {k : Nat} {f : Addr} {fd : FuncData} {ps N : List Str} {x qual : Str} {st : Stmt} {t : TS}
theorem read_X {W : List Dt → (Dt → Prop) → (Addr → List Str → List Dt → Prop) → Prop} {vs : List V} {H : Hp} {Q : VK} {E : XK} (h : spX K W vs H Q E) (hl : vs.length ≤ N.length)
    (b : ∀ ds Φ Ξ, ds.length = vs.length → W ds Φ Ξ → Ws K t (slots ds (N.length - ds.length)) { nx := fun _ => Φ .non, rt := fun d _ => Φ d, xk := E, xd := Ξ }) : t { nx := fun _ H' => Q .non H', rt := Q } (L2.start N vs) H := by
  obtain ⟨M, ds, Φ, Ξ, hp, hO, m, x, w, q, qx⟩ := h
  have keep : ∀ {M' : Md} {H' : Hp}, Stp (M.body N.length) H M' H' → Same H H' := fun s a o z => (s.keep a o z (Md.inP0 hp a) no_rep).1
  have up : ∀ {M' : Md} {H' : Hp}, Stp (M.body N.length) H M' H' → ∀ a, M.has a → M'.has a := fun {M' H'} s a z => by
    rcases z with z | z | z
    · exact (Md.inP0 hp a z).elim
    · exact .inr (.inl (by rw [s.F]; exact z))
    · rw [hO] at z; cases z
  refine b ds Φ Ξ x.len.symm w (M.body N.length) _ H (sd_start hO m x hl) _ ⟨fun M' σ' H' ρ' s S z => q .non H' .non (keep s) .non z, fun M' v H' d ρ' σ' s S x z => q v H' d (keep s) (x.mono (cut_le (up s))) z, fun M' σ' H' ρ' s S z => z, fun M' σ' H' ρ' s S z => z,
    fun M' H' C dd ns us es s e1 e2 nd xs z => qx H' C dd ns us es (keep s) e1 e2 (fun y => nd (up s dd y)) (xs.mono (cut_le (up s))) z⟩
/-- a def that may raise, by its body -/
theorem defX {W : List Dt → (Dt → Prop) → (Addr → List Str → List Dt → Prop) → Prop} (F : Fun K x qual st f fd) (S : FnScope N ps (defScope st)) (hW : ∀ ds Φ Ξ, W ds Φ Ξ → ds.length = ps.length) (hN : ps.length ≤ N.length)
    (hb : ∀ (cdv : Value) (A : Around) (outer : List Env) (s : Shared) (H : Hp) (E : XK), Room k (A.deeper (envOfC qual (defScope st) s.heap.objs.size f cdv)) →
      ∃ t, PSs (cxOf (L2.CX P w) P w K mg base N qual (defScope st) f cdv A outer s H E) (defBody st) t ∧
        ∀ ds Φ Ξ, W ds Φ Ξ → Ws K t (slots ds (N.length - ds.length)) { nx := fun _ => Φ .non, rt := fun d _ => Φ d, xk := E, xd := Ξ }) : FnOk P w K mg base (L2.CX P w) (k + 1) f fd ps (spX K W) := by
  have len : ∀ vs H Q E, spX K W vs H Q E → vs.length = ps.length := fun vs H Q E ⟨M, ds, Φ, Ξ, _, _, _, x, w, _⟩ => x.len.trans (hW ds Φ Ξ w)
  refine F.okX S len fun cdv A outer s H vs Q E hr h => ?_
  obtain ⟨t, h1, h2⟩ := hb cdv A outer s H E hr
  exact ⟨t, h1, read_X h (by rw [len _ _ _ _ h]; exact hN) fun ds Φ Ξ _ w => h2 ds Φ Ξ w⟩
end

/-! ### expressions that may raise -/
def Wpx (K : PySem.W.Frag) (te : TE) (ρ : List Sl) (Φ : Dt → List Sl → Prop) (xk : XK) (xd : Addr → List Str → List Dt → Prop) : Prop :=
  ∀ (M : Md) (σ : L2.St) (H : Hp), Sd K M H σ ρ → ∀ Q : VK, (∀ v H2 d ρ', Stp M H M H2 → Sd K M H2 σ ρ' → DX K (cut M H2) v d → Φ d ρ' → Q v H2) →
    (∀ H2 C dd ns us es, Stp M H M H2 → H2 dd = some (.xd (ns.zip us)) → ns.length = us.length → ¬ M.has dd → DXs K (cut M H2) us es → xd C ns es → xk (.ref C) (some dd) H2) → te σ H Q
section
variable {K : PySem.W.Frag} {pf : Bool} {ρ : List Sl} {te : TE} {tr : TA} {Φ : Dt → List Sl → Prop} {D : DE} {i : Nat} {xk : XK} {xd : Addr → List Str → List Dt → Prop} {C : Addr}
theorem Wp.x (h : Wp K pf te ρ Φ) : Wpx K te ρ Φ xk xd := fun M σ H S Q q _ => h M σ H S Q fun v H2 d ρ' s S2 x f => q v H2 d ρ' s.st S2 x f
theorem ws_retX (h : Wpx K te ρ (fun d ρ' => D.rt d ρ') D.xk D.xd) : Ws K (tRet te) ρ D := fun M σ H S E k =>
  h M σ H S _ (fun v H1 d ρ1 s1 S1 x1 f => k.rt M v H1 d ρ1 σ s1 S1 x1 f) fun H2 C dd ns us es s e1 e2 nd xs z => k.ex M H2 C dd ns us es s e1 e2 nd xs z
theorem ws_asgX (h : Wpx K te ρ (fun d ρ' => D.nx (ρ'.set i (.dat d))) D.xk D.xd) : Ws K (tAsg te (gName i)) ρ D := fun M σ H S E k =>
  h M σ H S _ (fun v H1 d ρ1 s1 S1 x1 f => k.nx M _ H1 _ s1 (S1.put x1 i) f) fun H2 C dd ns us es s e1 e2 nd xs z => k.ex M H2 C dd ns us es s e1 e2 nd xs z
theorem wx_call {W : List Dt → (Dt → Prop) → (Addr → List Str → List Dt → Prop) → Prop} {E : L2.St → XK} (hE : ∀ σ c d H, xk c d H → E σ c d H) (h : Wa K pf tr ρ fun ds ρ1 => W ds (fun d => Φ d ρ1) xd) : Wpx K (tCallS (spX K W) E tr) ρ Φ xk xd := fun M σ H S Q q qx =>
  h M σ H S _ fun vs H1 ds ρ1 s1 S1 x1 k => by
    have ec : ∀ H', cut M.callP H' = cut M H' := cut_congr M.callP_has
    refine ⟨M.callP, ds, _, xd, rfl, rfl, S1.mok.callP, by rw [ec]; exact x1, k, fun v H2 d e x f => q v H2 d ρ1 (s1.st.trans (Stp.same M e)) (S1.same e) (by rw [ec] at x; exact x) f, fun H2 C dd ns us es e e1 e2 nd xs z => ?_⟩
    rw [ec] at xs
    exact hE σ _ _ _ (qx H2 C dd ns us es (s1.st.trans (Stp.same M e)) e1 e2 (fun y => nd ((M.callP_has dd).mpr y)) xs z)
end

/-! ### an exception's __init__, the raise -/
def spExI (K : PySem.W.Frag) (C : Addr) (W : List Dt → (List Str → List Dt → Prop) → Prop) : Sp := fun vs H Q _ => ∃ (M : Md) (self : Addr) (ws : List V) (ds : List Dt) (Φ : List Str → List Dt → Prop),
  vs = .ref self :: ws ∧ H self = some (exo self C none) ∧ DXs K (cut (M.slf self) H) ws ds ∧ W ds Φ ∧
    ∀ H2 dd ns us es, H dd = none → (∀ a o, H a = some o → a ≠ self → H2 a = some o) → H2 self = some (exo self C (some dd)) → H2 dd = some (exd dd (ns.zip us)) → ns.length = us.length → DXs K (cut ((M.slf self).slf dd) H2) us es → Φ ns es → Q .non H2
section
variable {K : PySem.W.Frag} {pf : Bool} {ρ : List Sl} {ta : TA} {D : DE} {C : Addr}
theorem ws_raise {W : List Dt → (List Str → List Dt → Prop) → Prop} (h : Wa K pf ta ρ fun ds ρ1 => ds.length ≤ 900 ∧ W ds fun ns es => D.xd C ns es) : Ws K (fun _ σ H => tMkO C (spExI K C W) [] ta σ H fun c d H' => D.xk c d H') ρ D := fun M σ H S E k =>
  h M σ H S _ fun vs H1 ds ρ1 s1 S1 x1 ⟨hl, w⟩ => by
    refine ⟨by rw [x1.len]; omega, fun a na => ?_⟩
    have sc1 : Same (cut M H1) (cut (M.slf a) (upd H1 a (exo a C none))) := fun b u z => by
      obtain ⟨c, y⟩ := cut_of z
      refine cut_at (fun t => ?_) (by rw [upd_ne (ne_of_none y na)]; exact y)
      rcases t with t | t | t
      · exact c (.inl t)
      · rcases List.mem_cons.mp t with t | t
        · rw [t, na] at y; cases y
        · exact c (.inr (.inl t))
      · exact c (.inr (.inr t))
    refine ⟨M, a, vs, ds, _, by rw [List.append_nil], upd_same, x1.mono sc1, w, fun H2 dd ns us es hd kp e1 e2 e3 xs z => ⟨rfl, dd, _, e1, e2, ?_, ?_⟩⟩
    · have nd : dd ≠ a := fun n => by rw [n, upd_same] at hd; cases hd
      rw [upd_ne nd] at hd; exact hd
    · have nd : dd ≠ a := fun n => by rw [n, upd_same] at hd; cases hd
      have hd1 : H1 dd = none := by rw [upd_ne nd] at hd; exact hd
      have all : ∀ b o, H1 b = some o → (upd (del H2 a) dd (.xd (ns.zip us))) b = some o := fun b o e => by
        have ba := ne_of_none e na
        rw [upd_ne (ne_of_none e hd1), del_ne ba]
        exact kp b o (by rw [upd_ne ba]; exact e) ba
      have nh : ¬ M.has dd := S1.mok.new hd1
      refine k.ex M _ C dd ns us es (s1.st.trans (Stp.same M all)) upd_same e3 nh (xs.mono fun b u z' => ?_) z
      obtain ⟨c, y⟩ := cut_of z'
      have b1 : b ≠ dd := fun n => c (.inr (.inl (by rw [n]; exact List.mem_cons_self)))
      have b2 : b ≠ a := fun n => c (.inr (.inl (by rw [n]; exact List.mem_cons_of_mem _ List.mem_cons_self)))
      exact cut_at (fun t => c (has_aside b (has_aside b t))) (by rw [upd_ne b1, del_ne b2]; exact y)
end
section
variable {P : Program} {w : World} {K : PySem.W.Frag} {mg : Str → Option Value} {base : Heap} {C : Addr} {f : Addr} {fd : FuncData} {qual : Str} {st : Stmt}
/-- def __init__(self, x): self.f = x -/
theorem ok_ex1 {fl x : Str} {p1 p2 p3 p4 : Pos} (F : Fun K "__init__" qual st f fd) (S : FnScope ["self", x] ["self", x] (defScope st)) (hb : defBody st = [.Assign [.Attribute (.Name "self" p1) fl p2] (.Name x p3) p4])
    (v1 : (defScope st).names.lookup ("self" : Str) = some NameKind.local) (v2 : (defScope st).names.lookup x = some NameKind.local) (hx : (x == ("__debug__" : Str)) = false) (hx2 : (x == ("__classdict__" : Str)) = false) (T : OexC K C) (hno : PySem.W.findIn K (.ref C) fl = some none) :
    FnOk P w K mg base CX0 1 f fd ["self", x] (spExI K C fun ds Φ => ∃ d, ds = [d] ∧ Φ [fl] [d]) := by
  refine F.ok S (fun vs H Q E ⟨M, self, ws, ds, Φ, e, _, xx, ⟨d, ed, _⟩, _⟩ => by rw [e, List.length_cons, xx.len, ed]; rfl) fun cdv A outer s H vs Q E hr h => ?_
  rw [hb]
  refine ⟨_, pss_one (ps_ost (pv 0 (hv := .inl v1)) (pv 1 (hv := .inl v2) (hd := hx) (hcd := hx2))), ?_⟩
  obtain ⟨M, self, ws, ds, Φ, rfl, hs, xx, ⟨d, rfl, q⟩, fin⟩ := h
  obtain ⟨y, rfl, xy⟩ := one_v xx
  refine ⟨y, rfl, .ref self, rfl, self, C, rfl, T, hno, .inl ⟨hs, fun dx ndx ne => ?_⟩⟩
  have keep : ∀ a o, H a = some o → a ≠ self → (upd (upd H dx (exd dx [(fl, y)])) self (exo self C (some dx))) a = some o := fun a o e n => by
    rw [upd_ne n, upd_ne (ne_of_none e ndx)]; exact e
  refine fin _ dx [fl] [y] [d] ndx keep upd_same (by rw [upd_ne ne, upd_same]; rfl) rfl ((DXs.one xy).mono fun b u z => ?_) q
  obtain ⟨c, e⟩ := cut_of z
  have b1 : b ≠ self := fun n => c (.inr (.inl (by rw [n]; exact List.mem_cons_self)))
  refine cut_at (fun t => ?_) (keep b u e b1)
  rcases t with t | t | t
  · exact c (.inl t)
  · rcases List.mem_cons.mp t with t | t
    · rw [t, ndx] at e; cases e
    · exact c (.inr (.inl t))
  · exact c (.inr (.inr t))
/-- def __init__(self, x, y): self.f = x; self.g = y -/
theorem ok_ex2 {fl gl x y : Str} {p1 p2 p3 p4 r1 r2 r3 r4 : Pos} (F : Fun K "__init__" qual st f fd) (S : FnScope ["self", x, y] ["self", x, y] (defScope st))
    (hb : defBody st = [.Assign [.Attribute (.Name "self" p1) fl p2] (.Name x p3) p4, .Assign [.Attribute (.Name "self" r1) gl r2] (.Name y r3) r4])
    (v1 : (defScope st).names.lookup ("self" : Str) = some NameKind.local) (v2 : (defScope st).names.lookup x = some NameKind.local) (v3 : (defScope st).names.lookup y = some NameKind.local) (hx : (x == ("__debug__" : Str)) = false) (hx2 : (x == ("__classdict__" : Str)) = false)
    (hy : (y == ("__debug__" : Str)) = false) (hy2 : (y == ("__classdict__" : Str)) = false) (T : OexC K C) (hno : PySem.W.findIn K (.ref C) fl = some none) (hno2 : PySem.W.findIn K (.ref C) gl = some none) :
    FnOk P w K mg base CX0 1 f fd ["self", x, y] (spExI K C fun ds Φ => ∃ d e, ds = [d, e] ∧ Φ [gl, fl] [e, d]) := by
  refine F.ok S (fun vs H Q E ⟨M, self, ws, ds, Φ, e, _, xx, ⟨d, d2, ed, _⟩, _⟩ => by rw [e, List.length_cons, xx.len, ed]; rfl) fun cdv A outer s H vs Q E hr h => ?_
  rw [hb]
  refine ⟨_, pss_cons (ps_ost (pv 0 (hv := .inl v1)) (pv 1 (hv := .inl v2) (hd := hx) (hcd := hx2))) (pss_one (ps_ost (pv 0 (hv := .inl v1)) (pv 2 (hv := .inl v3) (hd := hy) (hcd := hy2)))), ?_⟩
  obtain ⟨M, self, ws, ds, Φ, rfl, hs, xx, ⟨d, d2, rfl, q⟩, fin⟩ := h
  obtain ⟨u, u2, rfl, xu, xu2⟩ := two_v xx
  refine ⟨u, rfl, .ref self, rfl, self, C, rfl, T, hno, .inl ⟨hs, fun dx ndx ne => ?_⟩⟩
  have at_dx : (upd (upd H dx (exd dx [(fl, u)])) self (exo self C (some dx))) dx = some (exd dx [(fl, u)]) := by rw [upd_ne ne, upd_same]
  refine ⟨u2, rfl, .ref self, rfl, self, C, rfl, T, hno2, .inr ⟨dx, [(fl, u)], upd_same, at_dx, by show 1 ≤ 900; decide, ?_⟩⟩
  have keep : ∀ a o, H a = some o → a ≠ self → (upd (upd (upd H dx (exd dx [(fl, u)])) self (exo self C (some dx))) dx (exd dx [(gl, u2), (fl, u)])) a = some o := fun a o e n => by
    rw [upd_ne (ne_of_none e ndx), upd_ne n, upd_ne (ne_of_none e ndx)]; exact e
  refine fin _ dx [gl, fl] [u2, u] [d2, d] ndx keep (by rw [upd_ne (Ne.symm ne), upd_same]) (by rw [upd_same]; rfl) rfl ((DXs.cons xu2 (.one xu)).mono fun b z e' => ?_) q
  obtain ⟨c, e⟩ := cut_of e'
  have b1 : b ≠ self := fun n => c (.inr (.inl (by rw [n]; exact List.mem_cons_self)))
  refine cut_at (fun t => ?_) (keep b z e b1)
  rcases t with t | t | t
  · exact c (.inl t)
  · rcases List.mem_cons.mp t with t | t
    · rw [t, ndx] at e; cases e
    · exact c (.inr (.inl t))
  · exact c (.inr (.inr t))
end
/-! ### try: return f(..) except X as e: .. (the exception kept) -/
/-- what is told of an exception where its suite has ended -/
def kept (a C : Addr) (ns : List Str) (es : List Dt) (ρ : List Sl) : List Sl := ρ.map fun s => match s with
  | .dat (.cls b) => if b = a then .dat (.exc C a ns es) else s
  | s => s
section
variable {K : PySem.W.Frag} {ρ : List Sl} {tr : TA} {D : DE} {i : Nat} {ts : Addr → Value → Option Addr → TS} {c : Value} {Wout : WX}
theorem Sd.kept {M : Md} {H : Hp} {σ : L2.St} {a C dd : Addr} {ns : List Str} {us : List V} {es : List Dt} (S : Sd K M H σ ρ) (na : H a = none) (hd : H dd = some (.xd (ns.zip us))) (hl : ns.length = us.length) (nd : ¬ M.has dd) (xs : DXs K (cut M H) us es) :
    Sd K M (upd H a (exh a (.ref C) (some dd))) σ (DL.kept a C ns es ρ) := by
  have sm : Same H (upd H a (exh a (.ref C) (some dd))) := same_new na
  have S1 := S.same sm
  have ma : ¬ M.has a := S.mok.new na
  refine ⟨by unfold DL.kept; rw [List.length_map]; exact S.len, by unfold DL.kept; rw [List.length_map]; exact S.olen, S1.mok, fun j s h => ?_⟩
  unfold DL.kept at h
  rw [List.getElem?_map] at h
  cases e : ρ[j]? with
  | none => rw [e] at h; cases h
  | some s0 =>
    rw [e] at h
    obtain ⟨o, h1, h2⟩ := S1.ok j s0 e
    refine ⟨o, h1, ?_⟩
    have h := Option.some.inj h
    cases s0 with
    | dat d =>
      cases d with
      | cls b =>
        by_cases cb : b = a
        · subst cb
          have h : (if b = b then Sl.dat (.exc C b ns es) else _) = s := h
          rw [if_pos rfl] at h
          subst h
          obtain ⟨v, g1, g2⟩ := h2
          cases g2
          exact ⟨_, g1, .exc (cut_at ma upd_same) (cut_at nd (by rw [upd_ne (ne_of_none hd na)]; exact hd)) hl (xs.mono (cut_same M sm))⟩
        · have h : (if b = a then _ else Sl.dat (.cls b)) = s := h
          rw [if_neg cb] at h
          subst h
          exact h2
      | _ => subst h; exact h2
    | _ => subst h; exact h2
theorem ws_tryRet {pf : Bool} {W : List Dt → (Dt → Prop) → (Addr → List Str → List Dt → Prop) → Prop} (h : Wa K pf tr ρ fun ds ρ1 => W ds (fun d => D.rt d ρ1) fun C ns es => PySem.W.exmOne K (.ref C) c = some true ∧
      ∀ a dd, Ws K (ts a (.ref C) (some dd)) (ρ1.set i (.dat (.cls a))) { nx := fun ρ2 => D.nx (kept a C ns es (ρ2.set i .any)), rt := fun _ _ => False }) :
    Ws K (fun E σ H => tRet (tCallS (spX K W) (WE (wKeep K c i ts Wout E)) tr) E σ H) ρ D := fun M σ H S E k =>
  h M σ H S _ fun vs H1 ds ρ1 s1 S1 x1 w => by
    have ec : ∀ H', cut M.callP H' = cut M H' := cut_congr M.callP_has
    refine ⟨M.callP, ds, _, _, rfl, rfl, S1.mok.callP, by rw [ec]; exact x1, w, fun v H2 d e x f => k.rt M v H2 d ρ1 σ (s1.st.trans (Stp.same M e)) (S1.same e) (by rw [ec] at x; exact x) f, fun H2 C dd ns us es e e1 e2 nd xs ⟨hm, hsu⟩ => ?_⟩
    rw [ec] at xs
    have nd' : ¬ M.has dd := fun y => nd ((M.callP_has dd).mpr y)
    have st2 : Stp M H M H2 := s1.st.trans (Stp.same M e)
    refine ⟨true, hm, fun _ a na => ?_, fun z => nomatch z⟩
    have S2 : Sd K M H2 (σ.set i (some (.ref a))) (ρ1.set i (.dat (.cls a))) := (S1.same e).put (.cls a) i
    refine hsu a dd M _ H2 S2 (keepE a (.ref C) (some dd) i E) ⟨fun M' σ' H' ρ' s S' z na' => ?_, fun _ _ _ _ _ _ _ _ _ z => z.elim, fun _ _ _ _ _ _ z => z.elim, fun _ _ _ _ _ _ z => z.elim, fun _ _ _ _ _ _ _ _ _ _ _ _ z => z.elim⟩
    have hc2 : cut M H2 dd = some (.xd (ns.zip us)) := cut_at nd' e1
    obtain ⟨nd3, hd3⟩ := cut_of (s.dx dd _ hc2)
    have S3 : Sd K M' H' (σ'.set i none) (ρ'.set i .any) := by
      refine ⟨by rw [List.length_set, List.length_set]; exact S'.len, by rw [List.length_set]; exact S'.olen, S'.mok, fun j s0 e0 => ?_⟩
      by_cases cj : i = j
      · subst cj
        by_cases hi : i < ρ'.length
        · rw [List.getElem?_set_self hi] at e0
          have e0 := Option.some.inj e0
          subst e0
          exact ⟨none, by rw [List.getElem?_set_self (by rw [S'.len]; exact hi)], trivial⟩
        · rw [List.getElem?_eq_none (by rw [List.length_set]; omega)] at e0; cases e0
      · rw [List.getElem?_set_ne cj] at e0 ⊢
        exact S'.ok j s0 e0
    have S4 := S3.kept (a := a) (C := C) na' hd3 e2 nd3 (xs.mono s.dx)
    exact k.nx M' _ _ _ ((st2.trans s).trans (Stp.same M' (same_new na'))) S4 z
end
end DL

set_option maxHeartbeats 2000000
/-! Data level: own errors over any built-in class of errors; made as values, raised. -/
namespace DL
open PySem PySem.Spec PyProof.Rows L2 PySem.HandSPX
variable [Tb]

/-- a built-in class of errors under own ones: tl is its way up, in which no own class stands -/
structure ErrB (newId : String) (tl : List Value) : Prop where
  base : ∃ B initId, ExcBaseFacts B newId initId tl
  store : ∃ B, StoreFacts B tl "object.__setattr__" "object"
  pure : PySem.W.excTail tl tl = true
abbrev tlV : List Value := [.type "ValueError", .type "Exception", .type "BaseException", .type "object"]
abbrev tlL : List Value := [.type "LookupError", .type "Exception", .type "BaseException", .type "object"]
abbrev tlR : List Value := [.type "RuntimeError", .type "Exception", .type "BaseException", .type "object"]
abbrev tlO : List Value := [.type "OverflowError", .type "ArithmeticError", .type "Exception", .type "BaseException", .type "object"]
theorem errV : ErrB "ValueError.__new__" tlV := ⟨⟨_, _, F.excBase_ValueError⟩, ⟨_, F.store_ValueError⟩, by decide +kernel⟩
theorem errL : ErrB "LookupError.__new__" tlL := ⟨⟨_, _, F.excBase_LookupError⟩, ⟨_, F.store_LookupError⟩, by decide +kernel⟩
theorem errR : ErrB "RuntimeError.__new__" tlR := ⟨⟨_, _, F.excBase_RuntimeError⟩, ⟨_, F.store_RuntimeError⟩, by decide +kernel⟩
theorem errO : ErrB "OverflowError.__new__" tlO := ⟨⟨_, _, F.excBase_OverflowError⟩, ⟨_, F.store_OverflowError⟩, by decide +kernel⟩
theorem ErrB.obj {newId : String} {tl : List Value} (e : ErrB newId tl) : tl.contains (.type "object") = true := e.store.elim fun _ S => S.hasOwner
/-- own classes, then those -/
def over (rs : List Addr) (tl : List Value) : List Value := rs.map Value.ref ++ tl
theorem over_tail {tl : List Value} (h : PySem.W.excTail tl tl = true) (rs : List Addr) : PySem.W.excTail tl (over rs tl) = true := by
  induction rs with
  | nil => exact h
  | cons _ _ ih => exact ih
theorem over_has {tl : List Value} (Y : String) (rs : List Addr) : (over rs tl).contains (.type Y) = tl.contains (.type Y) :=
  Bool.eq_iff_iff.mpr (by simp [over])
theorem over_ref {tl : List Value} (D : Addr) (h : tl.contains (.ref D) = false) (rs : List Addr) : (over rs tl).contains (.ref D) = rs.contains D := by
  have h : Value.ref D ∉ tl := fun z => by simp [z] at h
  exact Bool.eq_iff_iff.mpr (by simp [over, h])

/-! ### an own class of errors -/
structure OexB (K : PySem.W.Frag) (C : Addr) (rs : List Addr) (newId : String) (tl : List Value) : Prop where
  eb : ErrB newId tl
  cls : ∃ nm q N bs sn sub ab col dd k0 k1 k2 k3 k5, K.lookup C = some (excClassObj nm q C N bs (over rs tl) true sn sub ab col dd k0 k1 k2 k3 k5 newId)
  sa : PySem.W.findIn K (.ref C) "__setattr__" = some (some (.builtin "object.__setattr__"))
  exC : PySem.W.subIn K (.ref C) (.type "BaseException") = some true
  tyC : PySem.W.typeIn K (.ref C) = some (.type "type")
  kC : PySem.W.keepIn K (.ref C) = true
section
variable {K : PySem.W.Frag} {C : Addr} {rs : List Addr} {newId : String} {tl : List Value}
theorem OexB.cd (T : OexB K C rs newId tl) : ∃ cd, PySem.W.clsIn K C = some cd ∧ cd.mro = over (C :: rs) tl ∧ cd.hasDict = true := by
  obtain ⟨nm, q, N, bs, sn, sub, ab, col, dd, k0, k1, k2, k3, k5, hC⟩ := T.cls
  exact ⟨{ name := nm, bases := bs, mro := .ref C :: over rs tl, ns := N, qualname := q, hasDict := true, slotNames := sn, subclasses := sub, abstract := ab, collection := col, hasDel := false }, by unfold PySem.W.clsIn; rw [hC] <;> rfl, rfl, rfl⟩
theorem OexB.sub (T : OexB K C rs newId tl) (x : Value) : PySem.W.subIn K (.ref C) x = some ((over (C :: rs) tl).contains x) := by
  obtain ⟨cd, h1, h2, _⟩ := T.cd
  show PySem.W.mroIn K C x = _
  unfold PySem.W.mroIn
  rw [h1, Option.bind_some, h2]
  rfl
/-- what the library asks of a class whose errors take fields -/
theorem OexB.up (T : OexB K C rs newId tl) : PySem.W.excOver K C tl = true := by
  obtain ⟨cd, h1, h2, _⟩ := T.cd
  unfold PySem.W.excOver
  rw [h1]
  show (match cd.mro with | .ref C' :: bm => C' == C && PySem.W.excTail tl bm | _ => false) = true
  rw [h2]
  show (C == C && PySem.W.excTail tl (over rs tl)) = true
  rw [over_tail T.eb.pure, beq_self_eq_true]; rfl
/-- isinstance of such an error against an own class -/
theorem OexB.kit (T : OexB K C rs newId tl) {D : Addr} (h1 : (PySem.W.clsIn K D).isSome = true) (h2 : PySem.W.typeIn K (.ref D) = some (.type "type")) (h3 : tl.contains (.ref D) = false) :
    PySem.W.kitOne K (.ref C) (.ref D) = some (decide (C = D) || rs.contains D) := by
  unfold PySem.W.kitOne
  by_cases e : C = D
  · subst e
    rw [if_pos (by simp), decide_eq_true rfl, Bool.true_or]
  · rw [if_neg (by simp [e]), decide_eq_false e, Bool.false_or]
    show (if ((PySem.W.clsIn K D).isSome && PySem.W.typeIn K (.ref D) == some (.type "type")) = true then _ else _) = _
    rw [h1, h2, if_pos (by simp), T.sub, over_ref D h3, List.contains_cons, show (D == C) = false by simpa using fun z => e z.symm, Bool.false_or]
theorem OexB.kitT (T : OexB K C rs newId tl) {n : String} (h : PySem.W.kitMeta n = true) : PySem.W.kitOne K (.ref C) (.type n) = some (tl.contains (.type n)) := by
  unfold PySem.W.kitOne
  rw [if_neg (by simp)]
  show (if PySem.W.kitMeta n = true then _ else _) = _
  rw [if_pos h, T.sub, over_has]
end
end DL

set_option maxHeartbeats 2000000
/-! Data level: own errors over any built-in class: the stores of their __init__, their making. -/
namespace DL
open PySem PySem.Spec PyProof.Rows L2
variable [Tb]

section
variable {X : Cx} {pins : List (Addr × Obj)} {σ : L2.St} {H : Hp} {s : Shared} {a C dx : Addr} {f : Str} {y : V} {u : Value} {fs : List (Str × V)} {Q : Unit → Shared → Prop} {E : Value → Shared → Prop} {A : Around} {rs : List Addr} {newId : String} {tl : List Value}
/-- a store into such an error: what is left is the store into its dict -/
theorem ostB (T : OexB X.K C rs newId tl) (kn : X.K.In s.heap) {ox : Obj} {od : Option Obj} (at_ : PySem.W.InstAt s.heap a ox C od) (hno : PySem.W.findIn X.K (.ref C) f = some none)
    (h : wpAny (model X.prog X.w) A.in1 (Builtin.ObjectAttr.ownDictForStores (.ref a)) (fun d s1 => ∃ dx, d = some dx ∧ wpAny (model X.prog X.w) A.in1 (Builtin.ObjectAttr.storeInDict dx (.str f s.toks) f u) (fun r s2 => r = .done (.ret .none) ∧ Q () s2) (fun _ _ => False) s1) (fun _ _ => False) { s with toks := s.toks + 1 }) :
    wpAny (model X.prog X.w) A (setAttr (.ref a) f u) Q E s := by
  obtain ⟨_, SF⟩ := T.eb.store
  refine PySem.W.set_plain kn at_ T.sa (PySem.W.osa_openX (s := { s with toks := s.toks + 1 }) SF kn at_ T.up (by unfold PySem.W.takerIn; rw [hno]; rfl) fun _ => ?_)
  refine wpAny_bind (wpAny_pure (wpAny_bind (wpAny_mono h (fun d s1 ⟨dx, e, q⟩ => ?_) fun _ _ z => z.elim)))
  subst e
  exact wpAny_mono q (fun r s2 ⟨e, z⟩ => by subst e; exact z) fun _ _ z => z.elim
theorem upd_back {n : Addr} {o1 o2 o3 : HO} (h : n ≠ a) : upd (upd (upd H n o1) a o2) n o3 = upd (upd H n o3) a o2 := funext fun b => by
  by_cases e : b = a
  · subst e
    rw [upd_ne (Ne.symm h), upd_same, upd_same]
  · by_cases e2 : b = n
    · subst e2
      rw [upd_same, upd_ne h, upd_same]
    · rw [upd_ne e2, upd_ne e, upd_ne e2, upd_ne e, upd_ne e2]
/-- the first field: the dict is laid, hung in, filled -/
theorem ost_newB (T : OexB X.K C rs newId tl) (I : Inv X pins σ H s) (e : H a = some (exo a C none)) (hno : PySem.W.findIn X.K (.ref C) f = some none) (ry : RelV y u)
    (h : ∀ dx s', H dx = none → dx ≠ a → Inv X pins σ (upd (upd H dx (exd dx [(f, y)])) a (exo a C (some dx))) s' → Q () s') : wpAny (model X.prog X.w) A (setAttr (.ref a) f u) Q E s := by
  obtain ⟨cd, c1, _, c3⟩ := T.cd
  obtain ⟨t1, ho⟩ := exo_at I.hok e
  have n0 : H s.heap.objs.size = none := I.hok.fresh (Nat.le_refl _)
  have na : s.heap.objs.size ≠ a := fun z => Nat.lt_irrefl _ (by have := Heap.lt_size ho; rw [← z] at this; exact this)
  have J1 := I.laid (t' := s.toks + 1) (a := s.heap.objs.size) (o := exd s.heap.objs.size []) (h' := s.heap.push (PySem.W.dictOf [] 0)) (fun b u z => Heap.get?_push_of_some _ z) (Nat.le_refl _)
    (exd_ok (mA := fun _ => none) (Heap.Ns1.of_empty ⟨_, #[], 0, Heap.get?_push_at rfl rfl, rfl, fun e he => by simp at he, fun _ => rfl⟩) fun _ => True.intro)
  have hx1 : (s.heap.push (PySem.W.dictOf [] 0)).get? a = some (PySem.W.excObj C t1 none .none) := Heap.get?_push_of_some _ ho
  have hx2 : ((s.heap.push (PySem.W.dictOf [] 0)).update a fun o => { o with dict := some s.heap.objs.size }).get? a = some (PySem.W.excObj C t1 (some s.heap.objs.size) .none) := Heap.get?_update_self _ hx1 rfl
  have J2 := J1.write (t' := s.toks + 1) (x := a) (e := a) (o := exo a C (some s.heap.objs.size)) (h' := (s.heap.push (PySem.W.dictOf [] 0)).update a fun o => { o with dict := some s.heap.objs.size }) (by rw [upd_ne (Ne.symm na), e]; exact True.intro) (.inl rfl)
    (fun b u nb z => (Heap.get?_update_ne _ _ _ _ nb).trans z) ⟨_, hx2⟩ (exo_ok hx2)
  refine ostB T I.kIn (ox := PySem.W.excObj C t1 none .none) (od := none) ⟨ho, rfl, rfl, trivial⟩ hno (PySem.W.instanceDict_exc (s := { s with toks := s.toks + 1 }) ho (PySem.W.looks_clsIn I.kIn c1) c3 ⟨_, rfl, ?_⟩)
  obtain ⟨mA, hns, _⟩ := exd_at J2.hok (show (upd (upd H s.heap.objs.size (exd s.heap.objs.size [])) a (exo a C (some s.heap.objs.size))) s.heap.objs.size = some (exd s.heap.objs.size []) by rw [upd_ne na, upd_same])
  obtain ⟨hp, g, d, t, os⟩ := s
  refine PySem.HandSPX.store_in_new ⟨_, #[], _, (Heap.get?_update_ne _ _ _ _ na).trans (Heap.get?_push_at rfl rfl), rfl, fun e he => by simp at he, fun _ => rfl⟩ fun h' tk' hn hs => ⟨rfl, h _ _ n0 na ?_⟩
  have J3 := J2.write (t' := tk') (x := hp.objs.size) (e := hp.objs.size) (o := exd hp.objs.size [(f, y)]) (h' := h') (by rw [upd_ne na, upd_same]; exact True.intro) (.inl rfl)
    (fun b u nb z => (hs.2 b nb).trans z) (by obtain ⟨o, _, _, z, _⟩ := hn; exact ⟨o, z⟩) (exd_ok hn (relO_put (fs := []) (mA := fun _ => none) ry fun _ => True.intro))
  rwa [upd_back na] at J3
/-- a further field -/
theorem ost_oldB (T : OexB X.K C rs newId tl) (I : Inv X pins σ H s) (e : H a = some (exo a C (some dx))) (ed : H dx = some (exd dx fs)) (hl : fs.length ≤ 900) (hno : PySem.W.findIn X.K (.ref C) f = some none) (ry : RelV y u)
    (h : ∀ s', Inv X pins σ (upd H dx (exd dx ((f, y) :: fs))) s' → Q () s') : wpAny (model X.prog X.w) A (setAttr (.ref a) f u) Q E s := by
  obtain ⟨cd, c1, _, c3⟩ := T.cd
  obtain ⟨t1, ho⟩ := exo_at I.hok e
  obtain ⟨mA, hns, rel⟩ := exd_at I.hok ed
  have hw := within_of rel
  obtain ⟨oD, _, _, hoD, _, _⟩ := hns.count hw
  refine ostB T I.kIn (ox := PySem.W.excObj C t1 (some dx) .none) (od := some oD) ⟨ho, rfl, rfl, hoD⟩ hno ?_
  obtain ⟨hp, g, d, t, os⟩ := s
  refine wpAny_bind (wpAny_loadPart ho (wpAny_bind ((PySem.W.looks_clsIn I.kIn c1).at ?_)))
  rw [c3]
  refine wpAny_pure (a := some dx) ⟨dx, rfl, PySem.OEX.store_in_old hns hw (by rw [List.length_map]; omega) fun h' tk' hn hs => ⟨rfl, h _ ?_⟩⟩
  exact I.write (t' := tk') (x := dx) (e := dx) (by rw [ed]; exact True.intro) (.inl rfl) (fun b u nb z => (hs.2 b nb).trans z) (by obtain ⟨o, _, _, z, _⟩ := hn; exact ⟨o, z⟩) (exd_ok hn (relO_put ry rel))
end
/-- self.f = e -/
def tOstB (K : PySem.W.Frag) (f : Str) (to te : TE) : TS := fun D σ H => te σ H fun y H1 => to σ H1 fun x H2 => ∃ (a C : Addr) (rs : List Addr) (newId : String) (tl : List Value), x = .ref a ∧ OexB K C rs newId tl ∧ PySem.W.findIn K (.ref C) f = some none ∧
  ((H2 a = some (exo a C none) ∧ ∀ dx, H2 dx = none → dx ≠ a → D.nx σ (upd (upd H2 dx (exd dx [(f, y)])) a (exo a C (some dx)))) ∨
    ∃ (dx : Addr) (fs : List (Str × V)), H2 a = some (exo a C (some dx)) ∧ H2 dx = some (exd dx fs) ∧ fs.length ≤ 900 ∧ D.nx σ (upd H2 dx (exd dx ((f, y) :: fs))))
theorem ps_ostB {X : Cx} {o e : Expr} {to te : TE} {f : Str} {p' pos : Pos} (ho : PE X o to) (he : PE X e te) (hs : swapsWith e (some (.Attribute o f p')) pos.line X.env = pure false := by rfl) : PS X (.Assign [.Attribute o f p'] e pos) (tOstB X.K f to te) := by
  constructor
  intro pins s σ H D I h
  refine plainObj_wpAny_Assign_Attribute (thn (he.run pins s σ H _ I h) fun v s1 ⟨y, H1, I1, r1, q1⟩ => thn (ho.run pins s1 σ H1 _ I1 q1) fun u s2 ⟨x, H2, I2, r2, a, C, rs, newId, tl, ex, T, hno, q⟩ => ?_) hs
  subst ex
  have r2 : u = Value.ref a := r2
  subst r2
  rcases q with ⟨ea, q⟩ | ⟨dx, fs, ea, ed, hl, q⟩
  · exact ost_newB T I2 ea hno r1 fun dx s' n ne J => ⟨σ, _, J, q dx n ne⟩
  · exact ost_oldB T I2 ea ed hl hno r1 fun s' J => ⟨σ, _, J, q⟩

/-! ### an __init__ of one or two fields -/
section
variable {P : Program} {w : World} {K : PySem.W.Frag} {mg : Str → Option Value} {base : Heap} {C : Addr} {f : Addr} {fd : FuncData} {qual : Str} {st : Stmt} {rs : List Addr} {newId : String} {tl : List Value}
theorem ok_ex1B {fl x : Str} {p1 p2 p3 p4 : Pos} (F : Fun K "__init__" qual st f fd) (S : FnScope ["self", x] ["self", x] (defScope st)) (hb : defBody st = [.Assign [.Attribute (.Name "self" p1) fl p2] (.Name x p3) p4])
    (v1 : (defScope st).names.lookup ("self" : Str) = some NameKind.local) (v2 : (defScope st).names.lookup x = some NameKind.local) (hx : (x == ("__debug__" : Str)) = false) (hx2 : (x == ("__classdict__" : Str)) = false) (T : OexB K C rs newId tl) (hno : PySem.W.findIn K (.ref C) fl = some none) :
    FnOk P w K mg base CX0 1 f fd ["self", x] (spExI K C fun ds Φ => ∃ d, ds = [d] ∧ Φ [fl] [d]) := by
  refine F.ok S (fun vs H Q E ⟨M, self, ws, ds, Φ, e, _, xx, ⟨d, ed, _⟩, _⟩ => by rw [e, List.length_cons, xx.len, ed]; rfl) fun cdv A outer s H vs Q E hr h => ?_
  rw [hb]
  refine ⟨_, pss_one (ps_ostB (pv 0 (hv := .inl v1)) (pv 1 (hv := .inl v2) (hd := hx) (hcd := hx2))), ?_⟩
  obtain ⟨M, self, ws, ds, Φ, rfl, hs, xx, ⟨d, rfl, q⟩, fin⟩ := h
  obtain ⟨y, rfl, xy⟩ := one_v xx
  refine ⟨y, rfl, .ref self, rfl, self, C, rs, newId, tl, rfl, T, hno, .inl ⟨hs, fun dx ndx ne => ?_⟩⟩
  have keep : ∀ a o, H a = some o → a ≠ self → (upd (upd H dx (exd dx [(fl, y)])) self (exo self C (some dx))) a = some o := fun a o e n => by
    rw [upd_ne n, upd_ne (ne_of_none e ndx)]; exact e
  refine fin _ dx [fl] [y] [d] ndx keep upd_same (by rw [upd_ne ne, upd_same]; rfl) rfl ((DXs.one xy).mono fun b u z => ?_) q
  obtain ⟨c, e⟩ := cut_of z
  have b1 : b ≠ self := fun n => c (.inr (.inl (by rw [n]; exact List.mem_cons_self)))
  refine cut_at (fun t => ?_) (keep b u e b1)
  rcases t with t | t | t
  · exact c (.inl t)
  · rcases List.mem_cons.mp t with t | t
    · rw [t, ndx] at e; cases e
    · exact c (.inr (.inl t))
  · exact c (.inr (.inr t))
theorem ok_ex2B {fl gl x y : Str} {p1 p2 p3 p4 r1 r2 r3 r4 : Pos} (F : Fun K "__init__" qual st f fd) (S : FnScope ["self", x, y] ["self", x, y] (defScope st))
    (hb : defBody st = [.Assign [.Attribute (.Name "self" p1) fl p2] (.Name x p3) p4, .Assign [.Attribute (.Name "self" r1) gl r2] (.Name y r3) r4])
    (v1 : (defScope st).names.lookup ("self" : Str) = some NameKind.local) (v2 : (defScope st).names.lookup x = some NameKind.local) (v3 : (defScope st).names.lookup y = some NameKind.local) (hx : (x == ("__debug__" : Str)) = false) (hx2 : (x == ("__classdict__" : Str)) = false)
    (hy : (y == ("__debug__" : Str)) = false) (hy2 : (y == ("__classdict__" : Str)) = false) (T : OexB K C rs newId tl) (hno : PySem.W.findIn K (.ref C) fl = some none) (hno2 : PySem.W.findIn K (.ref C) gl = some none) :
    FnOk P w K mg base CX0 1 f fd ["self", x, y] (spExI K C fun ds Φ => ∃ d e, ds = [d, e] ∧ Φ [gl, fl] [e, d]) := by
  refine F.ok S (fun vs H Q E ⟨M, self, ws, ds, Φ, e, _, xx, ⟨d, d2, ed, _⟩, _⟩ => by rw [e, List.length_cons, xx.len, ed]; rfl) fun cdv A outer s H vs Q E hr h => ?_
  rw [hb]
  refine ⟨_, pss_cons (ps_ostB (pv 0 (hv := .inl v1)) (pv 1 (hv := .inl v2) (hd := hx) (hcd := hx2))) (pss_one (ps_ostB (pv 0 (hv := .inl v1)) (pv 2 (hv := .inl v3) (hd := hy) (hcd := hy2)))), ?_⟩
  obtain ⟨M, self, ws, ds, Φ, rfl, hs, xx, ⟨d, d2, rfl, q⟩, fin⟩ := h
  obtain ⟨u, u2, rfl, xu, xu2⟩ := two_v xx
  refine ⟨u, rfl, .ref self, rfl, self, C, rs, newId, tl, rfl, T, hno, .inl ⟨hs, fun dx ndx ne => ?_⟩⟩
  have at_dx : (upd (upd H dx (exd dx [(fl, u)])) self (exo self C (some dx))) dx = some (exd dx [(fl, u)]) := by rw [upd_ne ne, upd_same]
  refine ⟨u2, rfl, .ref self, rfl, self, C, rs, newId, tl, rfl, T, hno2, .inr ⟨dx, [(fl, u)], upd_same, at_dx, by show 1 ≤ 900; decide, ?_⟩⟩
  have keep : ∀ a o, H a = some o → a ≠ self → (upd (upd (upd H dx (exd dx [(fl, u)])) self (exo self C (some dx))) dx (exd dx [(gl, u2), (fl, u)])) a = some o := fun a o e n => by
    rw [upd_ne (ne_of_none e ndx), upd_ne n, upd_ne (ne_of_none e ndx)]; exact e
  refine fin _ dx [gl, fl] [u2, u] [d2, d] ndx keep (by rw [upd_ne (Ne.symm ne), upd_same]) (by rw [upd_same]; rfl) rfl ((DXs.cons xu2 (.one xu)).mono fun b z e' => ?_) q
  obtain ⟨c, e⟩ := cut_of e'
  have b1 : b ≠ self := fun n => c (.inr (.inl (by rw [n]; exact List.mem_cons_self)))
  refine cut_at (fun t => ?_) (keep b z e b1)
  rcases t with t | t | t
  · exact c (.inl t)
  · rcases List.mem_cons.mp t with t | t
    · rw [t, ndx] at e; cases e
    · exact c (.inr (.inl t))
  · exact c (.inr (.inr t))
end

/-! ### the class called -/
section
variable {X : Cx} {e : Expr} {es : List Expr} {p pos : Pos} {ta : TA}
/-- the object of an error that is being made, and its args, laid behind all that stands -/
theorem oexB_laid {pins : List (Addr × Obj)} {hp : Heap} {g : Array GenState} {d : Drawn} {t : Nat} {os : OsState} {σ : L2.St} {H : Hp} {C : Addr} (I : Inv X pins σ H ⟨hp, g, d, t, os⟩) (us : List Value) :
    Inv X pins σ (upd H (hp.objs.size + 1) (exo (hp.objs.size + 1) C none)) ⟨(hp.push (PySem.W.kdv_tup us)).push (PySem.HandSPX.excO C hp.objs.size), g, d, t, os⟩ :=
  Inv.laid (t' := t) I (fun _ _ z => Heap.get?_push_of_some _ (Heap.get?_push_of_some _ z)) (Nat.le_succ _) (exo_ok (t1 := hp.objs.size) (by heap_get))
/-- C(e, ..), up to its end -/
theorem makeB {CX : CXT} {x : Str} {C fI : Addr} {k : Nat} {fd : FuncData} {ps : List Str} {sp : Sp} {ds : List Value} {dvs : List V} {rs : List Addr} {newId : String} {tl : List Value} (T : OexB X.K C rs newId tl) (iC : PySem.W.findIn X.K (.ref C) "__init__" = some (some (.ref fI)))
    (tI : PySem.W.typeIn X.K (.ref fI) = some (.type "function")) (F1 : FnOk X.prog X.w X.K X.mg X.base CX k fI fd ps sp) (hr : Room (k + 1) X.A) (hb : Binds X.K fd ps ds) (hd : Vals dvs ds) (hx : Passes CX X (fun _ _ _ => False)) (hg : Gl X x) (hm : X.mg x = some (.ref C)) (ha : PA X (e :: es) ta)
    {pins : List (Addr × Obj)} {s : Shared} {σ : L2.St} {H : Hp} (I : Inv X pins σ H s) {R : Addr → Addr → List (Str × V) → Hp → Hp → Prop} {Z : Value → Shared → Prop}
    (h : ta σ H fun vs H1 => vs.length ≤ 1000 ∧ ∀ a, H1 a = none → sp (.ref a :: (vs ++ dvs)) (upd H1 a (exo a C none)) (fun v H2 => v = .non ∧ ∃ (d : Addr) (fs : List (Str × V)), H2 a = some (exo a C (some d)) ∧ H2 d = some (exd d fs) ∧ H1 d = none ∧ R a d fs H1 H2) (fun _ _ _ => False))
    (fin : ∀ (a d : Addr) (fs : List (Str × V)) (H1 H2 : Hp) (hp hp2 h2 : Heap) (g1 g2 : Array GenState) (d1 d2 : Drawn) (t1 t2 : Nat) (os1 os2 : OsState), Inv X pins σ H1 ⟨hp, g1, d1, t1, os1⟩ → hp.objs.size ≤ a → (∀ b o, hp.get? b = some o → hp2.get? b = some o) →
      Un (frs X.stack) [] (upd H1 a (exo a C none)) H2 hp2 h2 → HOk X.prog X.w H2 h2 → os2 = os1 → AllBare g2 → H2 a = some (exo a C (some d)) → H2 d = some (exd d fs) → H1 d = none → R a d fs H1 H2 → Z (.ref a) ⟨h2, g2, d2, t2, os2⟩)
    (hdb : (x == ("__debug__" : Str)) = false := by decide) (he : starEach (e :: es) X.env = (false, eval e X.env) :: starEach es X.env := by rfl) (hpl : (backTo pos (starEach es X.env)).any (·.1) = false := by rfl) :
    wpAny (model X.prog X.w) X.A (eval (.Call (.Name x p) (e :: es) [] pos) X.env) Z X.xe s := by
  refine wpAny_Call_Name_kw (ld_glob I hg hm ?_ hdb)
  refine PySem.W.callWith_K I.ok.mod.kin T.kC (wpAny_mono (ha.run pos pins s σ H _ I h) (fun us s1 z => ?_) fun _ _ z => z) he hpl
  obtain ⟨vs, H1, J, r, hz, q⟩ := z
  refine ⟨J.kIn, ?_⟩
  obtain ⟨hp, g, dr, tk, os⟩ := s1
  have q := q _ (J.hok.fresh (Nat.le_succ hp.objs.size))
  obtain ⟨BB, initId, FB⟩ := T.eb.base
  obtain ⟨nm, qn, N, bs, sn, sub, ab, col, dd, k0, k1, k2, k3, k5, hC⟩ := T.cls
  have vals := Paired.cons (F := RelV) (show RelV (V.ref (hp.objs.size + 1)) (.ref (hp.objs.size + 1)) from rfl) (Vals.append r hd)
  have born := oexB_laid (C := C) J us
  refine wpAny_call (PySem.HandSPX.call_own FB (over_has · rs) (J.kIn _ _ hC) (PySem.W.looks_findIn J.kIn iC) (PySem.W.bind_fn J.kIn · tI) (by have := Paired.length r; rw [List.nil_append, sizeLine_eq]; omega) (codeAny_mono (F1.run _ _ _ _ _ _ _ _ _ (hr.make C us []) (born.env0.make C us []) (hb _ _ born.kIn ?_) vals q) ?_))
  · exact (Paired.length vals).symm.trans (F1.len _ _ _ _ q)
  rintro (er | fl) s2 back
  · exact hx _ _ _ _ er s2 born back
  · obtain ⟨h2, g2, d2, t2, o2⟩ := s2
    cases fl with
    | ret v =>
      obtain ⟨_, H2, b1, b2, b3, b4, rv, rfl, dx, fs, ea, ed, hn, last⟩ := back
      exact ⟨rv, fin _ dx fs H1 H2 hp _ h2 g g2 dr d2 tk t2 os o2 J (Nat.le_succ _) (fun b o z => Heap.get?_push_of_some _ (Heap.get?_push_of_some _ z)) b3 b4 b1 b2 ea ed hn last⟩
    | _ => exact back.elim
theorem pmk_oexB {CX : CXT} {x : Str} {C fI : Addr} {k : Nat} {fd : FuncData} {ps : List Str} {sp : Sp} {ds : List Value} {dvs : List V} {rs : List Addr} {newId : String} {tl : List Value} (T : OexB X.K C rs newId tl) (iC : PySem.W.findIn X.K (.ref C) "__init__" = some (some (.ref fI)))
    (tI : PySem.W.typeIn X.K (.ref fI) = some (.type "function")) (F1 : FnOk X.prog X.w X.K X.mg X.base CX k fI fd ps sp) (hr : Room (k + 1) X.A) (hb : Binds X.K fd ps ds) (hd : Vals dvs ds) (hx : Passes CX X (fun _ _ _ => False)) (hg : Gl X x) (hm : X.mg x = some (.ref C)) (ha : PA X (e :: es) ta)
    (hdb : (x == ("__debug__" : Str)) = false := by decide) (he : starEach (e :: es) X.env = (false, eval e X.env) :: starEach es X.env := by rfl) (hpl : (backTo pos (starEach es X.env)).any (·.1) = false := by rfl) :
    PMk X (.Call (.Name x p) (e :: es) [] pos) (tMkO C sp dvs ta) := by
  intro pins s σ H Q I h
  exact makeB (R := fun a d fs H1 H2 => Q (.ref C) (some d) (upd (del H2 a) d (.xd fs))) T iC tI F1 hr hb hd hx hg hm ha I h (fun a d fs H1 H2 hp hp2 h2 g1 g2 d1 d2 t1 t2 os1 os2 I1 ha k un hok ho hb ea ed hd1 q =>
    mk_end (raises_own T.exC T.tyC) I1 ha k un hok ho hb ea ed hd1 q) hdb he hpl
/-- such an error as a value: it stays known -/
def tMkV (C : Addr) (sp : Sp) (dvs : List V) (ta : TA) : TE := fun σ H Q => ta σ H fun vs H1 => vs.length ≤ 1000 ∧ ∀ a, H1 a = none → sp (.ref a :: (vs ++ dvs)) (upd H1 a (exo a C none))
  (fun v H2 => v = .non ∧ ∃ (d : Addr) (fs : List (Str × V)), H2 a = some (exo a C (some d)) ∧ H2 d = some (exd d fs) ∧ H1 d = none ∧ Q (.ref a) (upd (upd H2 a (exh a (.ref C) (some d))) d (.xd fs))) (fun _ _ _ => False)
theorem pe_mkB {CX : CXT} {x : Str} {C fI : Addr} {k : Nat} {fd : FuncData} {ps : List Str} {sp : Sp} {ds : List Value} {dvs : List V} {rs : List Addr} {newId : String} {tl : List Value} (T : OexB X.K C rs newId tl) (iC : PySem.W.findIn X.K (.ref C) "__init__" = some (some (.ref fI)))
    (tI : PySem.W.typeIn X.K (.ref fI) = some (.type "function")) (F1 : FnOk X.prog X.w X.K X.mg X.base CX k fI fd ps sp) (hr : Room (k + 1) X.A) (hb : Binds X.K fd ps ds) (hd : Vals dvs ds) (hx : Passes CX X (fun _ _ _ => False)) (hg : Gl X x) (hm : X.mg x = some (.ref C)) (ha : PA X (e :: es) ta)
    (hdb : (x == ("__debug__" : Str)) = false := by decide) (he : starEach (e :: es) X.env = (false, eval e X.env) :: starEach es X.env := by rfl) (hpl : (backTo pos (starEach es X.env)).any (·.1) = false := by rfl) :
    PE X (.Call (.Name x p) (e :: es) [] pos) (tMkV C sp dvs ta) := by
  constructor
  intro pins s σ H Q I h
  refine makeB (R := fun a d fs H1 H2 => Q (.ref a) (upd (upd H2 a (exh a (.ref C) (some d))) d (.xd fs))) T iC tI F1 hr hb hd hx hg hm ha I h (fun a d fs H1 H2 hp hp2 h2 g1 g2 d1 d2 t1 t2 os1 os2 I1 ha k un hok ho hb ea ed hd1 q => ?_) hdb he hpl
  obtain ⟨t0, G, J, kG, ge, hoe, na⟩ := mk_end0 (d2 := d2) (t2 := t2) I1 ha k un hok ho hb ea ed hd1
  have hda : d ≠ a := fun z => by rw [z, upd_same] at na; cases na
  have back : upd (upd (del H2 a) d (.xd fs)) a (exh a (.ref C) (some d)) = upd (upd H2 a (exh a (.ref C) (some d))) d (.xd fs) := funext fun b => by
    by_cases e : b = a
    · subst e; rw [upd_same, upd_ne (Ne.symm hda), upd_same]
    · rw [upd_ne e]
      by_cases e2 : b = d
      · subst e2; rw [upd_same, upd_same]
      · rw [upd_ne e2, upd_ne e2, del_ne e, upd_ne e]
  have J2 := J.laidN (t' := t2) (h' := h2) (a := a) (o := exh a (.ref C) (some d)) kG ge na (exh_ok hoe ⟨rfl, rfl⟩ rfl)
  rw [back] at J2
  exact ⟨.ref a, _, J2, rfl, q⟩
end

/-! ### over data -/
section
variable {K : PySem.W.Frag} {pf : Bool} {ρ : List Sl} {ta : TA} {C : Addr} {Φ : Dt → List Sl → Prop}
theorem w_mkV {W : List Dt → (List Str → List Dt → Prop) → Prop} (h : Wa K pf ta ρ fun ds ρ1 => ds.length ≤ 900 ∧ W ds fun ns es => ∀ a, Φ (.exc C a ns es) ρ1) : Wp K pf (tMkV C (spExI K C W) [] ta) ρ Φ := fun M σ H S Q q =>
  h M σ H S _ fun vs H1 ds ρ1 s1 S1 x1 ⟨hl, w⟩ => by
    refine ⟨by rw [x1.len]; omega, fun a na => ?_⟩
    have sc1 : Same (cut M H1) (cut (M.slf a) (upd H1 a (exo a C none))) := fun b u z => by
      obtain ⟨c, y⟩ := cut_of z
      refine cut_at (fun t => ?_) (by rw [upd_ne (ne_of_none y na)]; exact y)
      rcases t with t | t | t
      · exact c (.inl t)
      · rcases List.mem_cons.mp t with t | t
        · rw [t, na] at y; cases y
        · exact c (.inr (.inl t))
      · exact c (.inr (.inr t))
    refine ⟨M, a, vs, ds, _, by rw [List.append_nil], upd_same, x1.mono sc1, w, fun H2 dd ns us es hd kp e1 e2 e3 xs z => ⟨rfl, dd, _, e1, e2, ?_, ?_⟩⟩
    · have nd : dd ≠ a := fun n => by rw [n, upd_same] at hd; cases hd
      rw [upd_ne nd] at hd; exact hd
    · have nd : dd ≠ a := fun n => by rw [n, upd_same] at hd; cases hd
      have hd1 : H1 dd = none := by rw [upd_ne nd] at hd; exact hd
      have all : Same H1 (upd (upd H2 a (exh a (.ref C) (some dd))) dd (.xd (ns.zip us))) := fun b o e => by
        have ba := ne_of_none e na
        rw [upd_ne (ne_of_none e hd1), upd_ne ba]
        exact kp b o (by rw [upd_ne ba]; exact e) ba
      have nh : ¬ M.has dd := S1.mok.new hd1
      have ma : ¬ M.has a := S1.mok.new na
      refine q (.ref a) _ (.exc C a ns es) ρ1 (s1.trans (Tr.same pf M all)) (S1.same all) (.exc (cut_at ma (by rw [upd_ne (Ne.symm nd), upd_same])) (cut_at nh upd_same) e3 (xs.mono fun b u z' => ?_)) (z a)
      obtain ⟨c, y⟩ := cut_of z'
      have b1 : b ≠ dd := fun n => c (.inr (.inl (by rw [n]; exact List.mem_cons_self)))
      have b2 : b ≠ a := fun n => c (.inr (.inl (by rw [n]; exact List.mem_cons_of_mem _ List.mem_cons_self)))
      exact cut_at (fun t => c (has_aside b (has_aside b t))) (by rw [upd_ne b1, upd_ne b2]; exact y)
end
end DL

set_option maxHeartbeats 2000000
/-! Data level: own lists by displays and sums, stores side by side, errors caught and kept in own lists, errors without fields. -/
namespace DL
open PySem PySem.Spec PyProof.Rows L2
variable [Tb]

/-! ### an expression that makes a new list -/
def WpL (K : PySem.W.Frag) (f : Bool) (te : TE) (ρ : List Sl) (Ψ : List Dt → List Sl → Prop) : Prop :=
  ∀ (M : Md) (σ : L2.St) (H : Hp), Sd K M H σ ρ → ∀ Q : VK, (∀ q vs H2 ds ρ', Tr f M H H2 → Sd K M H2 σ ρ' → H2 q = none → DXs K (cut M H2) vs ds → Ψ ds ρ' → Q (.ref q) (upd H2 q (.lst vs))) → te σ H Q
section
variable {K : PySem.W.Frag} {pf : Bool} {ρ : List Sl} {te tb : TE} {ta : TA} {Ψ : List Dt → List Sl → Prop} {D : DE} {i j l : Nat}
theorem wl_lst (h : Wa K pf ta ρ fun ds ρ1 => ds.length ≤ 100000 ∧ Ψ ds ρ1) : WpL K pf (tLst ta) ρ Ψ := fun M σ H S Q q =>
  h M σ H S _ fun vs H1 ds ρ1 s1 S1 x1 ⟨hl, f⟩ => ⟨by rw [x1.len]; exact Nat.le_trans hl (by decide), fun p hp => q p vs H1 ds ρ1 s1 S1 hp x1 f⟩
theorem wl_cat (h : Wp K pf te ρ fun d1 ρ1 => Wp K pf tb ρ1 fun d2 ρ2 => ∃ xs ys, d1 = .lst xs ∧ d2 = .lst ys ∧ xs.length + ys.length ≤ 100000 ∧ Ψ (xs ++ ys) ρ2) : WpL K pf (tOp (rCatL K) te tb) ρ Ψ := fun M σ H S Q q =>
  h M σ H S _ fun v1 H1 d1 ρ1 s1 S1 x1 k1 => k1 M σ H1 S1 _ fun v2 H2 d2 ρ2 s2 S2 x2 ⟨xs, ys, e1, e2, hz, f⟩ => by
    subst e1 e2
    have x1' := x1.mono s2.dx
    cases x1' with
    | lst hs ha =>
      cases x2 with
      | lst ht hb =>
        exact ⟨_, _, _, _, rfl, rfl, (cut_sub M H2).seq hs, (cut_sub M H2).seq ht, by rw [ha.len, hb.len]; exact Nat.le_trans hz (by decide), fun p hp => q p _ H2 _ ρ2 (s1.trans s2) S2 hp (ha.append hb) f⟩
theorem ws_own (h : WpL K pf te ρ fun ds ρ' => i < ρ'.length ∧ D.nx (ρ'.set i (.own ds))) : Ws K (tAsg te (gName i)) ρ D := fun M σ H S E k =>
  h M σ H S _ fun q vs H2 ds ρ' s S2 hq x ⟨hi, z⟩ => by
    refine k.nx _ _ _ _ (s.st.trans (Stp.own hq (same_new hq))) ((S2.same (same_new hq)).own hi (S2.mok.new hq) upd_same (x.mono fun b u y => ?_) (S2.aside hq (same_new hq) upd_same)) z
    obtain ⟨c, y⟩ := cut_of y
    refine cut_at (fun t => ?_) (by rw [upd_ne (ne_of_none y hq)]; exact y)
    rcases t with t | t | t
    · exact c (.inl t)
    · rcases List.mem_cons.mp t with t | t
      · exact ne_of_none y hq t
      · exact c (.inr (.inl t))
    · exact c (.inr (.inr t))

/-! ### a, b = x, y -/
theorem ws_par (h : Wa K pf ta ρ fun ds ρ' => ∃ d e, ds = [d, e] ∧ D.nx ((ρ'.set i (.dat d)).set j (.dat e))) : Ws K (tPar i j ta) ρ D := fun M σ H S E k =>
  h M σ H S _ fun vs H1 ds ρ1 s1 S1 x1 ⟨d, e, ed, z⟩ => by
    subst ed
    obtain ⟨v, w, rfl, xv, xw⟩ := two_v x1
    exact ⟨v, w, rfl, k.nx M _ H1 _ s1.st ((S1.put xv i).put xw j) z⟩
theorem three_v {H : Hp} {vs : List V} {d e g : Dt} (h : DXs K H vs [d, e, g]) : ∃ v w u, vs = [v, w, u] ∧ DX K H v d ∧ DX K H w e ∧ DX K H u g := by
  cases h with
  | cons h1 h2 =>
    obtain ⟨w, u, rfl, h3, h4⟩ := two_v h2
    exact ⟨_, w, u, rfl, h1, h3, h4⟩
theorem ws_par3 (h : Wa K pf ta ρ fun ds ρ' => ∃ d e g, ds = [d, e, g] ∧ D.nx (((ρ'.set i (.dat d)).set j (.dat e)).set l (.dat g))) : Ws K (tPar3 i j l ta) ρ D := fun M σ H S E k =>
  h M σ H S _ fun vs H1 ds ρ1 s1 S1 x1 ⟨d, e, g, ed, z⟩ => by
    subst ed
    obtain ⟨v, w, u, rfl, xv, xw, xu⟩ := three_v x1
    exact ⟨v, w, u, rfl, k.nx M _ H1 _ s1.st (((S1.put xv i).put xw j).put xu l) z⟩
end

/-! ### an error caught: it stays known, in slots and in own lists -/
def keptD (a C : Addr) (ns : List Str) (es : List Dt) : Dt → Dt
  | .cls b => if b = a then .exc C a ns es else .cls b
  | d => d
def keptO (a C : Addr) (ns : List Str) (es : List Dt) (ρ : List Sl) : List Sl := ρ.map fun s => match s with
  | .dat d => .dat (keptD a C ns es d)
  | .own ds => .own (ds.map (keptD a C ns es))
  | s => s
section
variable {K : PySem.W.Frag} {ρ : List Sl} {tr : TA} {D : DE} {i : Nat} {ts : Addr → Value → Option Addr → TS} {c : Value} {Wout : WX} {pf : Bool}
theorem keptD_dx {H : Hp} {a C dd : Addr} {ns : List Str} {us : List V} {es : List Dt} (h1 : H a = some (exh a (.ref C) (some dd))) (h2 : H dd = some (.xd (ns.zip us))) (hl : ns.length = us.length) (xs : DXs K H us es) : ∀ {d : Dt} {v : V}, DX K H v d → DX K H v (keptD a C ns es d)
  | .cls b, v, x => by
    show DX K H v (if b = a then .exc C a ns es else .cls b)
    by_cases e : b = a
    · subst e
      rw [if_pos rfl]
      cases x
      exact .exc h1 h2 hl xs
    · rw [if_neg e]; exact x
  | .non, _, x | .bl _, _, x | .int _, _, x | .str _, _, x | .lst _, _, x | .tup _, _, x | .dct _ _, _, x | .ty _, _, x | .ins _ _ _ _, _, x | .exc _ _ _ _, _, x => x
theorem keptD_dxs {H : Hp} {a C dd : Addr} {ns : List Str} {us : List V} {es : List Dt} (h1 : H a = some (exh a (.ref C) (some dd))) (h2 : H dd = some (.xd (ns.zip us))) (hl : ns.length = us.length) (xs : DXs K H us es) : ∀ {ds : List Dt} {vs : List V}, DXs K H vs ds → DXs K H vs (ds.map (keptD a C ns es))
  | [], _, x => by cases x; exact .nil
  | d :: ds, _, x => by
    cases x with
    | cons x1 x2 => exact .cons (keptD_dx h1 h2 hl xs x1) (keptD_dxs h1 h2 hl xs x2)
theorem Sd.keptO {M : Md} {H : Hp} {σ : L2.St} {a C dd : Addr} {ns : List Str} {us : List V} {es : List Dt} (S : Sd K M H σ ρ) (na : H a = none) (hd : H dd = some (.xd (ns.zip us))) (hl : ns.length = us.length) (nd : ¬ M.has dd) (xs : DXs K (cut M H) us es) :
    Sd K M (upd H a (exh a (.ref C) (some dd))) σ (DL.keptO a C ns es ρ) := by
  have sm : Same H (upd H a (exh a (.ref C) (some dd))) := same_new na
  have S1 := S.same sm
  have ma : ¬ M.has a := S.mok.new na
  have c1 : cut M (upd H a (exh a (.ref C) (some dd))) a = some (exh a (.ref C) (some dd)) := cut_at ma upd_same
  have c2 : cut M (upd H a (exh a (.ref C) (some dd))) dd = some (.xd (ns.zip us)) := cut_at nd (by rw [upd_ne (ne_of_none hd na)]; exact hd)
  have xs' := xs.mono (cut_same M sm)
  refine ⟨by unfold DL.keptO; rw [List.length_map]; exact S.len, by unfold DL.keptO; rw [List.length_map]; exact S.olen, S1.mok, fun j s h => ?_⟩
  unfold DL.keptO at h
  rw [List.getElem?_map] at h
  cases e : ρ[j]? with
  | none => rw [e] at h; cases h
  | some s0 =>
    rw [e] at h
    obtain ⟨o, h1, h2⟩ := S1.ok j s0 e
    refine ⟨o, h1, ?_⟩
    have h := Option.some.inj h
    cases s0 with
    | dat d =>
      subst h
      obtain ⟨v, g1, g2⟩ := h2
      exact ⟨v, g1, keptD_dx c1 c2 hl xs' g2⟩
    | own ds =>
      subst h
      obtain ⟨q, vs, g1, g2, g3, g4⟩ := h2
      exact ⟨q, vs, g1, g2, g3, keptD_dxs c1 c2 hl xs' g4⟩
    | _ => subst h; exact h2
/-- the clause's suite, from where the error has come -/
theorem keep_run {M : Md} {H2 : Hp} {σ : L2.St} {ρ1 : List Sl} {E : Ends} {C dd : Addr} {ns : List Str} {us : List V} {es : List Dt} (k : EOk K M H2 E D) (S : Sd K M H2 σ ρ1) (hd : H2 dd = some (.xd (ns.zip us))) (hl : ns.length = us.length) (nd : ¬ M.has dd) (xs : DXs K (cut M H2) us es)
    (hm : PySem.W.exmOne K (.ref C) c = some true) (hsu : ∀ a dd, Ws K (ts a (.ref C) (some dd)) (ρ1.set i (.dat (.cls a))) { nx := fun ρ2 => D.nx (DL.keptO a C ns es (ρ2.set i .any)), rt := fun _ _ => False }) : wKeep K c i ts Wout E (.ref C) (some dd) σ H2 := by
  refine ⟨true, hm, fun _ a na => ?_, fun z => nomatch z⟩
  have S2 : Sd K M H2 (σ.set i (some (.ref a))) (ρ1.set i (.dat (.cls a))) := S.put (.cls a) i
  refine hsu a dd M _ H2 S2 (keepE a (.ref C) (some dd) i E) ⟨fun M' σ' H' ρ' s S' z na' => ?_, fun _ _ _ _ _ _ _ _ _ z => z.elim, fun _ _ _ _ _ _ z => z.elim, fun _ _ _ _ _ _ z => z.elim, fun _ _ _ _ _ _ _ _ _ _ _ _ z => z.elim⟩
  have hc2 : cut M H2 dd = some (.xd (ns.zip us)) := cut_at nd hd
  obtain ⟨nd3, hd3⟩ := cut_of (s.dx dd _ hc2)
  have S3 : Sd K M' H' (σ'.set i none) (ρ'.set i .any) := by
    refine ⟨by rw [List.length_set, List.length_set]; exact S'.len, by rw [List.length_set]; exact S'.olen, S'.mok, fun j s0 e0 => ?_⟩
    by_cases cj : i = j
    · subst cj
      by_cases hi : i < ρ'.length
      · rw [List.getElem?_set_self hi] at e0
        have e0 := Option.some.inj e0
        subst e0
        exact ⟨none, by rw [List.getElem?_set_self (by rw [S'.len]; exact hi)], trivial⟩
      · rw [List.getElem?_eq_none (by rw [List.length_set]; omega)] at e0; cases e0
    · rw [List.getElem?_set_ne cj] at e0 ⊢
      exact S'.ok j s0 e0
  exact k.nx M' _ _ _ (s.trans (Stp.same M' (same_new na'))) (S3.keptO (a := a) (C := C) na' hd3 hl nd3 (xs.mono s.dx)) z
/-- try: raise C(..) except X as e: suite -/
theorem ws_tryRaise {C : Addr} {W : List Dt → (List Str → List Dt → Prop) → Prop} (h : Wa K pf tr ρ fun ds ρ1 => ds.length ≤ 900 ∧ W ds fun ns es => PySem.W.exmOne K (.ref C) c = some true ∧
      ∀ a dd, Ws K (ts a (.ref C) (some dd)) (ρ1.set i (.dat (.cls a))) { nx := fun ρ2 => D.nx (DL.keptO a C ns es (ρ2.set i .any)), rt := fun _ _ => False }) :
    Ws K (fun E σ H => tMkO C (spExI K C W) [] tr σ H fun cls d H' => wKeep K c i ts Wout E cls d σ H') ρ D := fun M σ H S E k =>
  h M σ H S _ fun vs H1 ds ρ1 s1 S1 x1 ⟨hl, w⟩ => by
    refine ⟨by rw [x1.len]; omega, fun a na => ?_⟩
    have sc1 : Same (cut M H1) (cut (M.slf a) (upd H1 a (exo a C none))) := fun b u z => by
      obtain ⟨c, y⟩ := cut_of z
      refine cut_at (fun t => ?_) (by rw [upd_ne (ne_of_none y na)]; exact y)
      rcases t with t | t | t
      · exact c (.inl t)
      · rcases List.mem_cons.mp t with t | t
        · rw [t, na] at y; cases y
        · exact c (.inr (.inl t))
      · exact c (.inr (.inr t))
    refine ⟨M, a, vs, ds, _, by rw [List.append_nil], upd_same, x1.mono sc1, w, fun H2 dd ns us es hd kp e1 e2 e3 xs z => ⟨rfl, dd, _, e1, e2, ?_, ?_⟩⟩
    · have nd : dd ≠ a := fun n => by rw [n, upd_same] at hd; cases hd
      rw [upd_ne nd] at hd; exact hd
    · have nd : dd ≠ a := fun n => by rw [n, upd_same] at hd; cases hd
      have hd1 : H1 dd = none := by rw [upd_ne nd] at hd; exact hd
      have all : Same H1 (upd (del H2 a) dd (.xd (ns.zip us))) := fun b o e => by
        have ba := ne_of_none e na
        rw [upd_ne (ne_of_none e hd1), del_ne ba]
        exact kp b o (by rw [upd_ne ba]; exact e) ba
      have nh : ¬ M.has dd := S1.mok.new hd1
      refine keep_run (k.step (s1.st.trans (Stp.same M all))) (S1.same all) upd_same e3 nh (xs.mono fun b u z' => ?_) z.1 z.2
      obtain ⟨c, y⟩ := cut_of z'
      have b1 : b ≠ dd := fun n => c (.inr (.inl (by rw [n]; exact List.mem_cons_self)))
      have b2 : b ≠ a := fun n => c (.inr (.inl (by rw [n]; exact List.mem_cons_of_mem _ List.mem_cons_self)))
      exact cut_at (fun t => c (has_aside b (has_aside b t))) (by rw [upd_ne b1, del_ne b2]; exact y)
end

/-! ### C() of a class of errors without an own __init__ -/
def tExc0 (C : Addr) : TE := fun _ H Q => ∀ a, H a = none → Q (.ref a) (upd H a (exh a (.ref C) none))
theorem pe_exc0 {X : Cx} {C : Addr} {bmB : List Value} {B newId initId : String} {x : Str} {p pos : Pos} (F : ExcBaseFacts B newId initId bmB) (q : PySem.W.excIn X.K C bmB newId = true) (gC : X.mg x = some (.ref C)) (kC : PySem.W.keepIn X.K (.ref C) = true) (hg : Gl X x)
    (hdb : (x == ("__debug__" : Str)) = false := by decide) : PE X (.Call (.Name x p) [] [] pos) (tExc0 C) := by
  constructor
  intro pins s σ H Q I h
  refine wpAny_Call_Name_kw (ld_glob I hg gC ?_ hdb)
  refine PySem.W.callWith_K0 I.kIn kC ?_
  show wpAny _ _ (call (.ref C) []) _ _ _
  obtain ⟨bm, N, nm, qn, bs, hdct, sn, sub, ab, col, dd, k0, k1, k2, k3, k5, mN, hC, hN, hni, T⟩ := exc_obj I.kIn q
  refine wpAny_call_exc_subT F T hC hN hni (fun h' a hm => ?_) (Nat.zero_le _)
  have hn : H a = none := I.hok.gone hm.new
  obtain ⟨t, ht, _, _⟩ := hm.there
  exact ⟨.ref a, upd H a (exh a (.ref C) none), I.laidN hm.keeps hm.new hn (exh_ok ht ⟨rfl, rfl⟩ rfl), rfl, h a hn⟩
section
variable {K : PySem.W.Frag} {pf : Bool} {ρ : List Sl} {C : Addr} {Φ : Dt → List Sl → Prop} {Ψ : Dt → Prop}
theorem w_exc0 (h : ∀ a, Φ (.exc C a [] []) ρ) : Wp K pf (tExc0 C) ρ Φ := fun M σ H S Q q a na =>
  q _ _ (.exc C a [] []) ρ (Tr.same pf M (same_new na)) (S.same (same_new na)) (.exc0 (cut_at (S.mok.new na) upd_same)) (h a)

/-! ### a list's index of a bool -/
theorem DXs.bls' {H : Hp} {bs : List Bool} : ∀ {vs : List V}, DXs K H vs (bs.map Dt.bl) → vs = bs.map V.bl := fun h => h.bls
def tIdx (K : PySem.W.Frag) (ta : TE) (te : TE) : TE := tBM K "list" (rIndex K) ta (tCons te tNil)
theorem eqV_bl (a b : Bool) : eqV (.bl a) (.bl b) = decide (a = b) := by cases a <;> cases b <;> decide +kernel
theorem w_idx {ta te : TE} {bs : List Bool} {b : Bool} {j : Nat} (h : Wp K pf ta ρ fun d ρ1 => d = .lst (bs.map Dt.bl) ∧ Wp K pf te ρ1 fun e ρ2 => e = .bl b ∧ bs[j]? = some b ∧ (∀ m, m < j → bs[m]? = some (!b)) ∧ Φ (.int j) ρ2) : Wp K pf (tBM K "list" (rIndex K) ta (tCons te tNil)) ρ Φ := fun M σ H S Q q =>
  h M σ H S _ fun v1 H1 d1 ρ1 s1 S1 x1 ⟨e1, k1⟩ => by
    subst e1
    cases x1 with
    | @lst a xs _ hs ha =>
      refine ⟨.inl ⟨rfl, xs, (cut_sub M H1).seq hs⟩, k1 M σ H1 S1 _ fun v2 H2 d2 ρ2 s2 S2 x2 ⟨e2, hj, hm, z⟩ => ?_⟩
      subst e2
      have hs2 := (cut_sub M H2).seq (s2.dx.seq hs)
      rw [ha.bls] at hs2
      rw [x2.bl_eq]
      refine ⟨a, bs.map V.bl, .bl b, j, .bl b, rfl, rfl, hs2, rfl, ?_, by rw [List.getElem?_map, hj]; rfl, by rw [eqV_bl]; simp, fun m z' hmj e => ?_, q _ H2 _ ρ2 (s1.trans s2) S2 (.int _) z⟩
      · rw [List.all_map]; exact List.all_eq_true.mpr fun _ _ => rfl
      · rw [List.getElem?_map, hm m hmj] at e
        have e := Option.some.inj e
        subst e
        rw [eqV_bl]; cases b <;> rfl
end
end DL

set_option maxHeartbeats 2000000
/-! Data level: == and != by an own __eq__, both answers. -/
namespace DL
open PySem PySem.Spec PyProof.Rows L2
variable [Tb]

section
open PySem.W PySem.Calls
variable {prog : Program} {w : World} {A : Around} {E : Value → Shared → Prop} {s : Shared} {K : Frag} {x y C D f : Addr} {ox oy : Obj} {od od' : Option Obj} {b : Value} {name : Str}
/-- a special method found and bound: nothing is changed by that -/
theorem looks_bound {M : Model} {h : Heap} {g self k : Value} {as : List Value} (S : Looks M h (specialOf self name) (some g)) (B : Looks M h (bindSpecial g self) (k, as)) : Looks M h (bindSpecialIfBound? self name) (some (k, as)) := by
  have both : Looks M h (bindSpecial g self >>= fun z => pure (some z)) (some (k, as)) := B.andThen .now
  intro A Q E s le q
  exact wpAny_bind (S _ _ _ _ le (wpAny_bind (wpAny_askSetting (wpAny_ite (by
    split
    · exact both _ _ _ _ le q
    · exact wpAny_tryCatch (both _ _ _ _ le q))))))
/-- a comparing method asked, once it is bound -/
theorem try_by {k : Value} {as : List Value} {Q : Value → Shared → Prop} (B : Looks (model prog w) s.heap (bindSpecialIfBound? (.ref x) name) (some (k, as)))
    (h : wpAny (model prog w) A (call k (as ++ [b])) (fun v s' => v ≠ .notImplemented ∧ Q v s') E s) : wpAny (model prog w) A (tryCompare (.ref x) name b) (fun r s' => ∃ v, r = some v ∧ Q v s') E s := by
  refine wpAny_bind (wpAny_holding (wpAny_bind (B.here (wpAny_bind (wpAny_mono h (fun v s' z => wpAny_pure ?_) fun _ _ z => z)))))
  show wpAny _ _ (match some v with | some .notImplemented | none => pure none | some v => pure (some v)) _ _ _
  split
  · rename_i e; exact absurd (Option.some.inj e) z.1
  · rename_i e; cases e
  · rename_i e; cases e; exact wpAny_pure ⟨_, rfl, z.2⟩
theorem try_own {Q : Value → Shared → Prop} (X : K.In s.heap) (I : InstAt s.heap x ox C od) (hs : findIn K (.ref C) name = some (some (.ref f))) (hf : isFn K (.ref f) = true)
    (h : wpAny (model prog w) A (call (.ref f) [.ref x, b]) (fun v s' => v ≠ .notImplemented ∧ Q v s') E s) : wpAny (model prog w) A (tryCompare (.ref x) name b) (fun r s' => ∃ v, r = some v ∧ Q v s') E s :=
  try_by (looks_bound (I.type.andThen (looks_findIn X hs)) (bind_fn X _ (beq_iff_eq.mp hf))) h
/-- object.__ne__ asks the own __eq__ and turns its answer -/
theorem try_ne {Q : Value → Shared → Prop} (hu : A.units + 1 < cLine) (X : K.In s.heap) (I : InstAt s.heap x ox C od) (hs : findIn K (.ref C) "__eq__" = some (some (.ref f))) (hf : isFn K (.ref f) = true) (hne : findIn K (.ref C) "__ne__" = some (some (.builtin "object.__ne__")))
    (ho : mroIn K C (.type "object") = some true) (h : wpAny (model prog w) A.in1 (call (.ref f) [.ref x, b]) (fun v s' => ∃ k, v = .bool k ∧ Q (.bool (!k)) s') E s) :
    wpAny (model prog w) A (tryCompare (.ref x) "__ne__" b) (fun r s' => ∃ v, r = some v ∧ Q v s') E s := by
  have slot := PySem.F.slot_object_ne
  refine try_by (looks_bound (I.type.andThen (looks_findIn X hne)) (Looks.of_pure (slot.bind (.ref x)))) ?_
  have own : Looks (model prog w) s.heap (isInstance (.ref x) (.type "object")) true := I.type.andThen (looks_mroIn X ho)
  refine wpAny_call (codeAny_call_builtin slot.plain PySem.F.cmpEntry_ne (@check_slot (model prog w) _ _ s "object.__ne__" "object" "__ne__" (.ref x) [b] [] _ PySem.F.cmpKind_ne PySem.F.cmpSplit_ne own (PySem.F.cmpArgs_ne (.ref x) b) ?_))
  refine wpAny_bind (wpAny_of_eq (a := ((Value.ref x : Value), [b])) (by first | rfl | (simp only [slotArgs]; rfl)) (wpAny_bind (wpAny_cRoomFor hu (wpAny_bind ?_))))
  refine ifBound_K X I hs hf (wpAny_mono h (fun v s' z => ?_) fun _ _ z => z)
  rcases z with ⟨k, rfl, q⟩
  exact wpAny_bind (wpAny_truthy_bool (wpAny_pure ⟨nofun, q⟩))
/-- which of the two is asked first -/
def AskedFirst (M : Model) (h : Heap) (ta tb : Value) (right : Bool) : Prop := if ta = tb then right = false else Looks M h (isSubtype tb ta) right
/-- a rich comparison is answered by the method that is asked first -/
theorem rich_by {op : CmpOp} {ta tb : Value} {right : Bool} {Q : Value → Shared → Prop} (hu : A.units < cLine) (La : Looks (model prog w) s.heap (typeOf (.ref x)) ta) (Lb : Looks (model prog w) s.heap (typeOf b) tb) (Lf : AskedFirst (model prog w) s.heap ta tb right)
    (one : wpAny (model prog w) A (if right = true then tryCompare b (cmpInfo op).2.2 (.ref x) else tryCompare (.ref x) (cmpInfo op).2.1 b) (fun r s' => ∃ v, r = some v ∧ Q v s') E s) : wpAny (model prog w) A (richCompare op (.ref x) b) Q E s := by
  unfold AskedFirst at Lf
  unfold richCompare
  rw [oneThing_ref]
  refine wpAny_holding (wpAny_bind (wpAny_cRoomFor hu (wpAny_bind (La.here (wpAny_bind (Lb.here ?_))))))
  by_cases e : ta = tb
  · rw [if_pos e] at Lf
    subst Lf
    rw [if_neg (by simp [e])]
    exact wpAny_bind (wpAny_pure (wpAny_bind (wpAny_mono one (fun r s' ⟨v, e, q⟩ => by subst e; exact wpAny_pure q) fun _ _ z => z)))
  · rw [if_neg e] at Lf
    rw [if_pos (by simpa using e)]
    refine wpAny_bind (Lf.here ?_)
    cases right <;> exact wpAny_bind (wpAny_mono one (fun r s' ⟨v, e, q⟩ => by subst e; repeat (first | exact wpAny_pure q | wp_step)) fun _ _ z => z)
theorem looks_left {tb : Value} (X : K.In s.heap) (hn : notFirst K C tb = true) : AskedFirst (model prog w) s.heap (.ref C) tb false := by
  unfold AskedFirst
  split
  · rfl
  · rename_i e
    exact looks_subIn X (by simpa [notFirst, Ne.symm e] using hn)
theorem looks_right (X : K.In s.heap) (hn : C ≠ D) (hsub : subIn K (.ref D) (.ref C) = some true) : AskedFirst (model prog w) s.heap (.ref C) (.ref D) true := by
  unfold AskedFirst
  rw [if_neg fun z => hn (by injection z)]
  exact looks_subIn X hsub
end

/-- what a class with an own __eq__ (and no own __ne__) must have -/
structure EqC (K : PySem.W.Frag) (C f : Addr) : Prop where
  eq : PySem.W.findIn K (.ref C) "__eq__" = some (some (.ref f))
  fn : PySem.W.isFn K (.ref f) = true
  ne : PySem.W.findIn K (.ref C) "__ne__" = some (some (.builtin "object.__ne__"))
  ob : PySem.W.mroIn K C (.type "object") = some true
/-- x == y, x != y: by the left one's __eq__ -/
def rOwnL (K : PySem.W.Frag) (neg : Bool) (C : Addr) (sp : Sp) : R2 := fun x y H Q => ∃ (a dx : Addr) (fs : List (Str × V)) (t : Value), x = .ref a ∧ H a = some (.ins C dx fs) ∧ TyX K H y t ∧ PySem.W.notFirst K C t = true ∧ sp [x, y] H (fun v H' => ∃ k, v = .bl k ∧ Q (.bl (neg ^^ k)) H') E0
/-- .. by the right one's -/
def rOwnR (K : PySem.W.Frag) (neg : Bool) (C D : Addr) (sp : Sp) : R2 := fun x y H Q => ∃ (a b dx dy : Addr) (fs gs : List (Str × V)), x = .ref a ∧ y = .ref b ∧ H a = some (.ins C dx fs) ∧ H b = some (.ins D dy gs) ∧ C ≠ D ∧ PySem.W.subIn K (.ref D) (.ref C) = some true ∧
  sp [y, x] H (fun v H' => ∃ k, v = .bl k ∧ Q (.bl (neg ^^ k)) H') E0
section
variable {X : Cx} {CX : CXT} {n : Nat} {C D f : Addr} {fd : FuncData} {ps : List Str} {sp : Sp}
theorem frames_of {pins : List (Addr × Obj)} {σ : L2.St} {H : Hp} {s : Shared} (I : Inv X pins σ H s) : X.A.frames = some X.stack := I.ok.frames
/-- a def called from within: whatever is around, its frames are these -/
theorem run_at {A : Around} {pins : List (Addr × Obj)} {σ : L2.St} {H : Hp} {s : Shared} {Q : VK} {xs : List V} {us : List Value} (F : FnOk X.prog X.w X.K X.mg X.base CX n f fd ps sp) (hb : Binds X.K fd ps []) (hx : Passes CX X E0) (hr : Room n A) (hfr : A.frames = some X.stack)
    (I : Inv X pins σ H s) (r : Vals xs us) (h : sp xs H Q E0) : wpAny (model X.prog X.w) A (call (.ref f) us) (EP X pins σ Q) X.xe s := by
  have len : (us ++ []).length = ps.length := by rw [List.append_nil, ← Paired.length r, F.len _ _ _ _ h]
  have e0 : Env0 X.prog X.w X.K X.mg X.base A X.stack s H := ⟨hfr, I.env0.mod, I.env0.bs, I.env0.bsz, I.env0.funs, I.env0.frf, I.env0.hok, I.env0.bare⟩
  have b0 := hb s us I.kIn len
  rw [List.append_nil] at b0
  refine wpAny_call (codeAny_mono (F.run A X.stack s H ⟨us, []⟩ us xs Q E0 hr e0 b0 r h) ?_)
  rintro (er | fl) s' q
  · exact hx pins σ H s er s' I q
  cases fl with
  | ret v => exact I.after q
  | _ => exact q.elim
/-- two things handed to it -/
theorem run_eq {A : Around} {pins : List (Addr × Obj)} {σ : L2.St} {H : Hp} {s : Shared} {Q : VK} {x y : V} {u v : Value} (F : FnOk X.prog X.w X.K X.mg X.base CX n f fd ps sp) (hb : Binds X.K fd ps []) (hx : Passes CX X E0) (hr : Room n A) (hfr : A.frames = some X.stack)
    (I : Inv X pins σ H s) (rx : RelV x u) (ry : RelV y v) (h : sp [x, y] H Q E0) : wpAny (model X.prog X.w) A (call (.ref f) [u, v]) (EP X pins σ Q) X.xe s := run_at F hb hx hr hfr I (.cons rx (.cons ry .nil)) h
/-- an instance: what the heap has of it -/
theorem inst_at {pins : List (Addr × Obj)} {σ : L2.St} {H : Hp} {s : Shared} {a dx : Addr} {fs : List (Str × V)} (I : Inv X pins σ H s) (h : H a = some (.ins C dx fs)) : ∃ ox od, PySem.W.InstAt s.heap a ox C od := by
  obtain ⟨_, J, _⟩ := ins_get I.hok h
  obtain ⟨od, J, _⟩ := J.look
  exact ⟨_, _, J⟩
theorem op_eqL (F : FnOk X.prog X.w X.K X.mg X.base CX n f fd ps sp) (c : EqC X.K C f) (hb : Binds X.K fd ps []) (hx : Passes CX X E0) (hr : Room n X.A) : OpR X (compareOp .Eq) (rOwnL X.K false C sp) := by
  rintro pins s σ H x y u v Q I rx ry ⟨a, dx, fs, t, rfl, ha, ty, hn, h⟩
  cases rx
  obtain ⟨ox, od, J⟩ := inst_at I ha
  obtain ⟨P, kt, pt, _⟩ := kit_of I ry ty
  obtain ⟨m, fr⟩ := I.fr
  refine PySem.W.cmp_ofEq (PySem.W.cmp_K hr.units0 fr I.ok.mod.kin J (kt.ty _ _ I.kIn pt) hn c.eq c.fn (wpAny_mono (run_eq F hb hx hr (frames_of I) I (x := .ref a) (u := Value.ref a) rfl ry h) (fun w s' z => ?_) fun _ _ z => z))
  obtain ⟨z, H', I', rz, k, rfl, q⟩ := z
  cases rz
  exact ⟨.bl k, H', I', rfl, by rw [Bool.false_xor] at q; exact q⟩
theorem op_neL (F : FnOk X.prog X.w X.K X.mg X.base CX n f fd ps sp) (c : EqC X.K C f) (hb : Binds X.K fd ps []) (hx : Passes CX X E0) (hr : Room (n + 1) X.A) : OpR X (compareOp .NotEq) (rOwnL X.K true C sp) := by
  rintro pins s σ H x y u v Q I rx ry ⟨a, dx, fs, t, rfl, ha, ty, hn, h⟩
  cases rx
  obtain ⟨ox, od, J⟩ := inst_at I ha
  obtain ⟨P, kt, pt, _⟩ := kit_of I ry ty
  refine PySem.W.cmp_ofNotEq (rich_by (right := false) hr.units0 J.type (kt.ty _ _ I.kIn pt) (looks_left I.kIn hn) (try_ne hr.in1.units0 I.kIn J c.eq c.fn c.ne c.ob (wpAny_mono (run_eq F hb hx hr.in1 (frames_of I) I (x := .ref a) (u := Value.ref a) rfl ry h) (fun w s' z => ?_) fun _ _ z => z)))
  obtain ⟨z, H', I', rz, k, rfl, q⟩ := z
  cases rz
  exact ⟨k, rfl, .bl (!k), H', I', rfl, by rw [Bool.true_xor] at q; exact q⟩
theorem op_eqR (F : FnOk X.prog X.w X.K X.mg X.base CX n f fd ps sp) (c : EqC X.K D f) (hb : Binds X.K fd ps []) (hx : Passes CX X E0) (hr : Room n X.A) : OpR X (compareOp .Eq) (rOwnR X.K false C D sp) := by
  rintro pins s σ H x y u v Q I rx ry ⟨a, b, dx, dy, fs, gs, rfl, rfl, ha, hb', ne, hsub, h⟩
  cases rx; cases ry
  obtain ⟨ox, od, J⟩ := inst_at I ha
  obtain ⟨oy, od', J'⟩ := inst_at I hb'
  refine PySem.W.cmp_ofEq (rich_by (right := true) hr.units0 J.type J'.type (looks_right I.kIn ne hsub) (try_own I.kIn J' c.eq c.fn (wpAny_mono (run_eq F hb hx hr (frames_of I) I (x := .ref b) (u := Value.ref b) (y := .ref a) (v := Value.ref a) rfl rfl h) (fun w s' z => ?_) fun _ _ z => z)))
  obtain ⟨z, H', I', rz, k, rfl, q⟩ := z
  cases rz
  exact ⟨nofun, .bl k, H', I', rfl, by rw [Bool.false_xor] at q; exact q⟩
theorem op_neR (F : FnOk X.prog X.w X.K X.mg X.base CX n f fd ps sp) (c : EqC X.K D f) (hb : Binds X.K fd ps []) (hx : Passes CX X E0) (hr : Room (n + 1) X.A) : OpR X (compareOp .NotEq) (rOwnR X.K true C D sp) := by
  rintro pins s σ H x y u v Q I rx ry ⟨a, b, dx, dy, fs, gs, rfl, rfl, ha, hb', ne, hsub, h⟩
  cases rx; cases ry
  obtain ⟨ox, od, J⟩ := inst_at I ha
  obtain ⟨oy, od', J'⟩ := inst_at I hb'
  refine PySem.W.cmp_ofNotEq (rich_by (right := true) hr.units0 J.type J'.type (looks_right I.kIn ne hsub) (try_ne hr.in1.units0 I.kIn J' c.eq c.fn c.ne c.ob (wpAny_mono (run_eq F hb hx hr.in1 (frames_of I) I (x := .ref b) (u := Value.ref b) (y := .ref a) (v := Value.ref a) rfl rfl h) (fun w s' z => ?_) fun _ _ z => z)))
  obtain ⟨z, H', I', rz, k, rfl, q⟩ := z
  cases rz
  exact ⟨k, rfl, .bl (!k), H', I', rfl, by rw [Bool.true_xor] at q; exact q⟩
/-- one of two readings -/
theorem op_or {op : Value → Value → Sem Value} {r1 r2 : R2} (h1 : OpR X op r1) (h2 : OpR X op r2) : OpR X op (fun x y H Q => r1 x y H Q ∨ r2 x y H Q) := fun pins s σ H x y u v Q I rx ry h => h.elim (h1 pins s σ H x y u v Q I rx ry) (h2 pins s σ H x y u v Q I rx ry)
end
end DL

set_option maxHeartbeats 2000000
/-! Data level: instances whose __init__ may raise, methods, methods with keywords, properties of one of several classes. -/
namespace DL
open PySem PySem.Spec PyProof.Rows L2
variable [Tb]

/-! ### one of two readings -/
def tOr2 (t1 t2 : TE) : TE := fun σ H Q => t1 σ H Q ∨ t2 σ H Q
theorem pe_or2 {X : Cx} {e : Expr} {t1 t2 : TE} (h1 : PE X e t1) (h2 : PE X e t2) : PE X e (tOr2 t1 t2) := ⟨fun pins s σ H Q I h => h.elim (h1.run pins s σ H Q I) (h2.run pins s σ H Q I)⟩
section
variable {K : PySem.W.Frag} {pf : Bool} {ρ : List Sl} {t1 t2 : TE} {Φ : Dt → List Sl → Prop} {xk : XK} {xd : Addr → List Str → List Dt → Prop} {r1 r2 : R2} {d1 d2 : Dt} {Ψ : Dt → Prop}
theorem w_or1 (h : Wp K pf t1 ρ Φ) : Wp K pf (tOr2 t1 t2) ρ Φ := fun M σ H S Q q => .inl (h M σ H S Q q)
theorem w_or2 (h : Wp K pf t2 ρ Φ) : Wp K pf (tOr2 t1 t2) ρ Φ := fun M σ H S Q q => .inr (h M σ H S Q q)
theorem od_or1 (h : OD K r1 d1 d2 Ψ) : OD K (fun x y H Q => r1 x y H Q ∨ r2 x y H Q) d1 d2 Ψ := fun M H x y m h1 h2 Q q => .inl (h M H x y m h1 h2 Q q)
theorem od_or2 (h : OD K r2 d1 d2 Ψ) : OD K (fun x y H Q => r1 x y H Q ∨ r2 x y H Q) d1 d2 Ψ := fun M H x y m h1 h2 Q q => .inr (h M H x y m h1 h2 Q q)
end

/-! ### an __init__ that may raise -/
def spMkX (K : PySem.W.Frag) (C : Addr) (W : List Dt → (List Str → List Dt → Prop) → (Addr → List Str → List Dt → Prop) → Prop) : Sp := fun vs H Q E => ∃ (M : Md) (self dx : Addr) (ws : List V) (ds : List Dt) (Φ : List Str → List Dt → Prop) (Ξ : Addr → List Str → List Dt → Prop),
  vs = .ref self :: ws ∧ M.p = none ∧ M.O = [] ∧ H self = some (.ins C dx []) ∧ MOk (M.slf self) H ∧ DXs K (cut (M.slf self) H) ws ds ∧ W ds Φ Ξ ∧
    (∀ H2 ns us es, (∀ a o, H a = some o → a ≠ self → H2 a = some o) → H2 self = some (.ins C dx (ns.zip us)) → ns.length = us.length → DXs K (cut (M.slf self) H2) us es → Φ ns es → Q .non H2) ∧
    ∀ H2 Cx dd ns us es, (∀ a o, H a = some o → a ≠ self → H2 a = some o) → H2 dd = some (.xd (ns.zip us)) → ns.length = us.length → ¬ (M.slf self).has dd → DXs K (cut (M.slf self) H2) us es → Ξ Cx ns es → E (.ref Cx) (some dd) H2
section
variable {K : PySem.W.Frag} {C : Addr} {N : List Str} {W : List Dt → (List Str → List Dt → Prop) → (Addr → List Str → List Dt → Prop) → Prop} {vs : List V} {H : Hp} {Q : VK} {E : XK} {tp tq : TS}
theorem read_IX (h : spMkX K C W vs H Q E) (hl : vs.length ≤ N.length)
    (b : ∀ self ds Φ Ξ, ds.length + 1 = vs.length → W ds Φ Ξ → Ws K tp (.dat (.cls self) :: slots ds (N.length - (ds.length + 1))) { nx := fun ρ => ρ[0]? = some (.dat (.cls self)) ∧ Fs K C tq ρ [] [] Φ, rt := fun _ _ => False, xk := E, xd := Ξ }) :
    tp { nx := tq { nx := fun _ H' => Q .non H', rt := Q }, rt := Q } (L2.start N vs) H := by
  obtain ⟨M, self, dx, ws, ds, Φ, Ξ, rfl, hp, hO, hs, m, x, w, q, qx⟩ := h
  have hO' : (M.slf self).O = [] := hO
  have x0 : DXs K (cut (M.slf self) H) (.ref self :: ws) (.cls self :: ds) := .cons (.cls self) x
  have S0 := sd_start (N := N) hO' m x0 hl
  have e0 : slots (.cls self :: ds) (N.length - (Dt.cls self :: ds).length) = .dat (.cls self) :: slots ds (N.length - (ds.length + 1)) := rfl
  rw [e0] at S0
  have keep0 : ∀ {M' : Md} {H' : Hp}, Stp ((M.slf self).body N.length) H M' H' → ∀ a o, H a = some o → H' a = some o ∧ some a ∉ M'.O := fun s a o e => s.keep a o e (Md.inP0 hp a) no_rep
  have up : ∀ {M' : Md} {H' : Hp}, Stp ((M.slf self).body N.length) H M' H' → ∀ a, (M.slf self).has a → M'.has a := fun {M' H'} s a z => by
    rcases z with z | z | z
    · exact (Md.inP0 (M := M) hp a z).elim
    · exact .inr (.inl (by rw [s.F]; exact z))
    · have z : some a ∈ M.O := z
      rw [hO] at z; cases z
  refine b self ds Φ Ξ (by rw [List.length_cons, x.len]) w ((M.slf self).body N.length) _ H S0 _ ⟨fun M' σ' H' ρ' s S ⟨z0, z⟩ => ?_, fun _ _ _ _ _ _ _ _ _ z => z.elim, fun M' σ' H' ρ' s S z => z.elim, fun M' σ' H' ρ' s S z => z.elim, fun M' H' Cx dd ns us es s e1 e2 nd xs z => ?_⟩
  · have keep := keep0 s
    have eF : M'.F = self :: M.F := s.F
    have ep : M'.p = none := s.p.trans hp
    obtain ⟨p', F', O'⟩ := M'
    simp only at eF ep
    subst eF ep
    have hs' := keep self _ hs
    refine z ⟨none, M.F, O'⟩ self dx σ' H' [] S z0 (fun y => nomatch y) hs'.2 hs'.1 rfl .nil _ fun σ2 H2 ns us es kp a1 a2 a3 a4 => ?_
    have sub : Same (cut (Md.slf ⟨none, M.F, O'⟩ self) H2) (cut (M.slf self) H2) := cut_le fun a z => by
      rcases z with z | z | z
      · exact (Md.inP0 (M := M) hp a z).elim
      · exact .inr (.inl z)
      · have z : some a ∈ M.O := z
        rw [hO] at z; cases z
    exact q H2 ns us es (fun a o e n => kp a o (keep a o e).1 n) a1 a2 (a3.mono sub) a4
  · exact qx H' Cx dd ns us es (fun a o e _ => (keep0 s a o e).1) e1 e2 (fun y => nd (up s dd y)) (xs.mono (cut_le (up s))) z
end
/-! ### the class called -/
section
variable {K : PySem.W.Frag} {C : Addr} {W : List Dt → (List Str → List Dt → Prop) → (Addr → List Str → List Dt → Prop) → Prop} {ρ : List Sl} {pf : Bool} {tr tk : TA} {Φ : Dt → List Sl → Prop} {E : XK} {xk : XK} {xd : Addr → List Str → List Dt → Prop}
theorem make_okX {M : Md} {σ : L2.St} {H2 : Hp} {Q : VK} {ws : List V} {ds : List Dt} {x dx : Addr} (S : Sd K M H2 σ ρ) (hx : H2 x = none) (hdx : H2 dx = none) (ne : dx ≠ x) (xs : DXs K (cut M H2) ws ds) (hE : ∀ c d H, xk c d H → E c d H)
    (w : W ds (fun ns es => ∀ a, Φ (.ins C a ns es) ρ) xd) (q : ∀ v H3 d ρ', Same H2 H3 → Sd K M H3 σ ρ' → DX K (cut M H3) v d → Φ d ρ' → Q v H3)
    (qx : ∀ H3 C dd ns us es, Same H2 H3 → H3 dd = some (.xd (ns.zip us)) → ns.length = us.length → ¬ M.has dd → DXs K (cut M H3) us es → xd C ns es → xk (.ref C) (some dd) H3) :
    spMkX K C W (.ref x :: ws) (upd (upd H2 dx (.own x)) x (.ins C dx [])) (fun v H3 => v = .non ∧ Q (.ref x) H3) E := by
  have s1 : Same H2 (upd (upd H2 dx (.own x)) x (.ins C dx [])) := fun a u z => by
    rw [upd_ne (ne_of_none z hx), upd_ne (ne_of_none z hdx)]; exact z
  have nx := S.mok.new hx
  have hasq : ∀ a, (M.callP.slf x).has a ↔ (M.slf x).has a := fun a => by
    constructor
    · rintro (z | z | z)
      · first | exact (Md.inP0 rfl _ z).elim | cases z
      · rcases List.mem_cons.mp z with z | z
        · rw [z]; exact .inr (.inl List.mem_cons_self)
        · exact has_aside a ((M.callP_has a).mp (.inr (.inl z)))
      · first | exact (Md.inP0 rfl _ z).elim | cases z
    · rintro (z | z | z)
      · rcases (M.callP_has a).mpr (.inl z) with y | y | y
        · first | exact (Md.inP0 rfl _ y).elim | cases y
        · exact .inr (.inl (List.mem_cons_of_mem _ y))
        · first | exact (Md.inP0 rfl _ y).elim | cases y
      · rcases List.mem_cons.mp z with z | z
        · rw [z]; exact .inr (.inl List.mem_cons_self)
        · rcases (M.callP_has a).mpr (.inr (.inl z)) with y | y | y
          · first | exact (Md.inP0 rfl _ y).elim | cases y
          · exact .inr (.inl (List.mem_cons_of_mem _ y))
          · first | exact (Md.inP0 rfl _ y).elim | cases y
      · rcases (M.callP_has a).mpr (.inr (.inr z)) with y | y | y
        · first | exact (Md.inP0 rfl _ y).elim | cases y
        · exact .inr (.inl (List.mem_cons_of_mem _ y))
        · first | exact (Md.inP0 rfl _ y).elim | cases y
  have ec : ∀ H', cut (M.callP.slf x) H' = cut (M.slf x) H' := fun H' => cut_congr hasq H'
  have same_cut : Same (cut M H2) (cut (M.slf x) (upd (upd H2 dx (.own x)) x (.ins C dx []))) := fun a u z => by
    obtain ⟨c, y⟩ := cut_of z
    refine cut_at (fun t => ?_) (s1 a u y)
    rcases t with t | t | t
    · exact c (.inl t)
    · rcases List.mem_cons.mp t with t | t
      · rw [t, hx] at y; cases y
      · exact c (.inr (.inl t))
    · exact c (.inr (.inr t))
  refine ⟨M.callP, x, dx, ws, ds, _, xd, rfl, rfl, rfl, upd_same, ?_, by rw [ec]; exact xs.mono same_cut, w, fun H3 ns us es kp e1 e2 e3 e4 => ⟨rfl, ?_⟩, fun H3 Cx dd ns us es kp e1 e2 nd e3 z => ?_⟩
  · refine ⟨fun a z => ?_, fun a z => (Md.inP0 rfl a z).elim, fun a _ z => (nomatch z), fun i j a z => ?_, fun t ht => (nomatch ht)⟩
    · rcases z with z | z | z
      · first | exact (Md.inP0 rfl _ z).elim | cases z
      · rcases List.mem_cons.mp z with z | z
        · rw [z]; exact ⟨_, upd_same⟩
        · obtain ⟨o, e⟩ := S.mok.live a ((M.callP_has a).mp (.inr (.inl z)))
          exact ⟨o, s1 a o e⟩
      · first | exact (Md.inP0 rfl _ z).elim | cases z
    · have z : ([] : List (Option Addr))[i]? = some (some a) := z
      simp at z
  · have s3 : Same H2 H3 := fun a u z => kp a u (s1 a u z) (ne_of_none z hx)
    refine q (.ref x) H3 (.ins C x ns es) ρ s3 (S.same s3) (.ins (cut_at nx e1) e2 ?_) (e4 x)
    rw [ec] at e3
    exact e3.mono (cut_le has_aside)
  · have s3 : Same H2 H3 := fun a u z => kp a u (s1 a u z) (ne_of_none z hx)
    rw [ec] at e3
    exact hE _ _ _ (qx H3 Cx dd ns us es s3 e1 e2 (fun y => nd ((hasq dd).mpr (has_aside dd y))) (e3.mono (cut_le has_aside)) z)
theorem wx_make (hE : ∀ c d H, xk c d H → E c d H) (h : Wa K pf tr ρ fun ds ρ1 => W ds (fun ns es => ∀ a, Φ (.ins C a ns es) ρ1) xd) : Wpx K (tMake C (spMkX K C W) [] E tr) ρ Φ xk xd := fun M σ H S Q q qx =>
  h M σ H S _ fun vs H1 ds ρ1 s1 S1 x1 w => fun x dx hx hdx ne => by
    rw [List.append_nil]
    exact make_okX S1 hx hdx ne x1 hE w (fun v H3 d ρ' s S3 xd f => q v H3 d ρ' (s1.st.trans (Stp.same M s)) S3 xd f) fun H3 C dd ns us es s e1 e2 nd e3 z => qx H3 C dd ns us es (s1.st.trans (Stp.same M s)) e1 e2 nd e3 z
/-- .. with defaults dvs behind the written ones -/
theorem wx_makeD {dvs : List V} {des : List Dt} (hd : ∀ H, DXs K H dvs des) (hE : ∀ c d H, xk c d H → E c d H) (h : Wa K pf tr ρ fun ds ρ1 => W (ds ++ des) (fun ns es => ∀ a, Φ (.ins C a ns es) ρ1) xd) : Wpx K (tMake C (spMkX K C W) dvs E tr) ρ Φ xk xd := fun M σ H S Q q qx =>
  h M σ H S _ fun vs H1 ds ρ1 s1 S1 x1 w => fun x dx hx hdx ne =>
    make_okX S1 hx hdx ne (x1.append (hd _)) hE w (fun v H3 d ρ' s S3 xd f => q v H3 d ρ' (s1.st.trans (Stp.same M s)) S3 xd f) fun H3 C dd ns us es s e1 e2 nd e3 z => qx H3 C dd ns us es (s1.st.trans (Stp.same M s)) e1 e2 nd e3 z
theorem wx_makeK {n m : Nat} {gV : List V → List V → List V} {gD : List Dt → List Dt → List Dt} (hg : ∀ (x : Addr) (vs zs : List V) (ds es : List Dt) (H : Hp), vs.length = n → zs.length = m → DXs K H vs ds → DXs K H zs es → ∃ ws, gV (.ref x :: vs) zs = .ref x :: ws ∧ DXs K H ws (gD ds es)) (hE : ∀ c d H, xk c d H → E c d H)
    (h : Wa K pf tr ρ fun ds ρ1 => Wa K pf tk ρ1 fun es ρ2 => ds.length = n ∧ es.length = m ∧ W (gD ds es) (fun ns fs => ∀ a, Φ (.ins C a ns fs) ρ2) xd) : Wpx K (tMakeK C n m (spMkX K C W) gV E tr tk) ρ Φ xk xd := fun M σ H S Q q qx =>
  h M σ H S _ fun vs H1 ds ρ1 s1 S1 x1 k => k M σ H1 S1 _ fun zs H2 es ρ2 s2 S2 x2 ⟨l1, l2, w⟩ => by
    have h1 : vs.length = n := x1.len.trans l1
    have h2 : zs.length = m := x2.len.trans l2
    refine ⟨h1, h2, fun x dx hx hdx ne => ?_⟩
    obtain ⟨ws, e, xw⟩ := hg x vs zs ds es _ h1 h2 (x1.mono s2.dx) x2
    rw [e]
    exact make_okX S2 hx hdx ne xw hE w (fun v H3 d ρ' s S3 xd f => q v H3 d ρ' ((s1.trans s2).st.trans (Stp.same M s)) S3 xd f) fun H3 C dd ns us es s e1 e2 nd e3 z => qx H3 C dd ns us es ((s1.trans s2).st.trans (Stp.same M s)) e1 e2 nd e3 z
/-- where nothing can be raised, a reading that may raise is a plain one -/
theorem Wpx.wp {te : TE} (h : Wpx K te ρ Φ xk fun _ _ _ => False) : Wp K false te ρ Φ := fun M σ H S Q q =>
  h M σ H S Q (fun v H2 d ρ' s S2 x f => q v H2 d ρ' ⟨s, fun z => nomatch z⟩ S2 x f) fun _ _ _ _ _ _ _ _ _ _ _ z => z.elim
theorem passN {X : Cx} {P : Program} {w : World} : Passes (L2.CX P w) X (fun _ _ _ => False) := fun _ _ _ _ _ _ _ ⟨_, _, _, _, _, _, _, _, _, _, _, _, z⟩ => z.elim
theorem passO {X : Cx} {P : Program} {w : World} : Passes (L2.CX P w) X E0 := passN
/-- a def that may raise, where it does not -/
theorem w_callX {V : List Dt → (Dt → Prop) → (Addr → List Str → List Dt → Prop) → Prop} {dvs : List L2.V} {des : List Dt} {E : XK} (hd : ∀ H, DXs K H dvs des) (h : Wa K pf tr ρ fun ds ρ1 => V (ds ++ des) (fun d => Φ d ρ1) fun _ _ _ => False) : Wp K pf (tCall (spX K V) dvs E tr) ρ Φ := fun M σ H S Q q =>
  h M σ H S _ fun vs H1 ds ρ1 s1 S1 x1 k => by
    have ec : ∀ H', cut M.callP H' = cut M H' := cut_congr M.callP_has
    refine ⟨M.callP, ds ++ des, _, _, rfl, rfl, S1.mok.callP, by rw [ec]; exact x1.append (hd _), k, fun v H2 d e x f => q v H2 d ρ1 (s1.trans (Tr.same pf M e)) (S1.same e) (by rw [ec] at x; exact x) f, fun _ _ _ _ _ _ _ _ _ _ _ z => z.elim⟩
theorem w_callX0 {V : List Dt → (Dt → Prop) → (Addr → List Str → List Dt → Prop) → Prop} {E : XK} (h : Wa K pf tr ρ fun ds ρ1 => V ds (fun d => Φ d ρ1) fun _ _ _ => False) : Wp K pf (tCall (spX K V) [] E tr) ρ Φ :=
  w_callX (des := []) (fun _ => .nil) fun M σ H S Q q => h M σ H S Q fun vs H2 ds ρ' s S2 x f => q vs H2 ds ρ' s S2 x (by show V (ds ++ []) _ _; rw [List.append_nil]; exact f)
end

/-! ### methods -/
section
variable {K : PySem.W.Frag} {pf : Bool} {ρ : List Sl} {ta : TE} {tr tk : TA} {Φ : Dt → List Sl → Prop} {C : Addr} {m : Str} {E : XK}
/-- the object stays as it is while the arguments are told -/
theorem ins_keep {M : Md} {H H2 : Hp} {v : V} {a : Addr} {ns : List Str} {ds : List Dt} (x : DX K (cut M H) v (.ins C a ns ds)) : v = .ref a ∧ ∃ dx us, H a = some (.ins C dx (ns.zip us)) ∧ ns.length = us.length := by
  cases x with
  | ins hs hl ha => exact ⟨rfl, _, _, (cut_of hs).2, hl⟩
theorem zip_look_none {ns : List Str} {us : List V} (h : m ∉ ns) : (ns.zip us).lookup m = none := by
  induction ns generalizing us with
  | nil => rfl
  | cons n r ih =>
    cases us with
    | nil => rfl
    | cons u us =>
      have n1 : m ≠ n := fun e => h (by rw [e]; exact List.mem_cons_self)
      have e1 : (m == n) = false := by simpa using n1
      show List.lookup m ((n, u) :: r.zip us) = none
      rw [List.lookup_cons, e1]
      exact ih fun z => h (List.mem_cons_of_mem _ z)
theorem w_meth {W : List Dt → (Dt → Prop) → Prop} {dvs : List V} {des : List Dt} (hd : ∀ H, DXs K H dvs des) (h : Wp K pf ta ρ fun d ρ1 => ∃ a ns es, d = .ins C a ns es ∧ m ∉ ns ∧ Wa K pf tr ρ1 fun ds ρ2 => W (.ins C a ns es :: (ds ++ des)) fun e => Φ e ρ2) : Wp K pf (tMeth C m (spP K W) dvs E ta tr) ρ Φ := fun M σ H S Q q =>
  h M σ H S _ fun v H1 d ρ1 s1 S1 x1 ⟨a, ns, es, ed, hm, k⟩ => by
    subst ed
    obtain ⟨rfl, dx, us, hi, hl⟩ := ins_keep (H2 := H1) x1
    refine ⟨a, dx, _, rfl, hi, zip_look_none hm, k M σ H1 S1 _ fun vs H2 ds ρ2 s2 S2 x2 w => ?_⟩
    have ec : ∀ H', cut M.callP H' = cut M H' := cut_congr M.callP_has
    exact ⟨M.callP, _, _, rfl, rfl, S2.mok.callP, by rw [ec]; exact .cons (x1.mono s2.dx) (x2.append (hd _)), w, fun v H3 e s x f => q v H3 e ρ2 ((s1.trans s2).trans (Tr.same pf M s)) (S2.same s) (by rw [ec] at x; exact x) f⟩
end
/-- o.m(e, .., k = v, ..) -/
def tMethK (C : Addr) (m : Str) (n j : Nat) (sp : Sp) (gV : List V → List V → List V) (E : XK) (ta : TE) (t tk : TA) : TE := fun σ H Q => ta σ H fun x H1 => ∃ a dx fs, x = .ref a ∧ H1 a = some (.ins C dx fs) ∧ fs.lookup m = none ∧
  t σ H1 fun vs H2 => tk σ H2 fun zs H3 => vs.length = n ∧ zs.length = j ∧ sp (gV (x :: vs) zs) H3 Q E
section
variable {X : Cx} {CX : CXT} {k n : Nat} {C f : Addr} {fd : FuncData} {ps ks : List Str} {sp : Sp} {E : XK} {m : Str} {apos pos : Pos} {o e : Expr} {es : List Expr} {kws : List Keyword} {ta : TE} {t tk : TA} {g : List Value → List Value → List Value} {gV : List V → List V → List V}
theorem pe_methK {pl : Sem Bool} (he : PE X o ta) (c : Cls X.K C) (hm : Meth X.K C m f) (F : FnOk X.prog X.w X.K X.mg X.base CX k f fd ps sp) (hr : Room k X.A) (hb : KBn X.K fd ps (n + 1) ks g gV) (hx : Passes CX X E) (ha : PA X (e :: es) t) (hkw : PK X kws tk)
    (hall : (backToKw pos (keywordEach kws X.env)).all (·.1.isSome) = true := by rfl) (hks : (backToKw pos (keywordEach kws X.env)).filterMap (·.1) = ks := by rfl) (hst : starEach (e :: es) X.env = (false, eval e X.env) :: starEach es X.env := by rfl)
    (hpl : ((backTo pos (starEach (e :: es) X.env)).any (·.1) || (backToKw pos (keywordEach kws X.env)).any (·.1.isNone)) = false := by rfl)
    (ht : eval (.Call (.Attribute o m apos) (e :: es) kws pos) X.env = (do
      let ov ← eval o X.env
      standAt apos.atName
      let (f, first) ← holding [ov] (getMethod ov m pl)
      callWith pos f first (backTo pos (starEach (e :: es) X.env)) (backToKw pos (keywordEach kws X.env))) := by rfl) :
    PE X (.Call (.Attribute o m apos) (e :: es) kws pos) (tMethK C m n ks.length sp gV E ta t tk) := by
  constructor
  intro pins s σ H Q I h
  refine PySem.W.methodCall_KW (pl := pl) (thn (he.run pins s σ H _ I h) fun u s1 ⟨x, H1, I1, rx, a, dx, fs, ex, ea, l, q⟩ => ?_) ht
  subst ex
  have rx : u = Value.ref a := rx
  subst rx
  refine getmeth_ok I1 ea c hm l ?_
  refine PySem.W.callWith_KW (first := [.ref a]) (h₀ := X.base) I.ok.mod.kin hm.kp hall (thn (ha.run pos pins s1 σ H1 _ I1 q) fun us s2 ⟨vs, H2, I2, r, q2⟩ => ?_) hpl hst
  refine thn (hkw.run pos pins s2 σ H2 _ I2 q2) fun ws s3 ⟨zs, H3, I3, rz, l1, l2, q3⟩ => ⟨I3.kIn, ?_⟩
  rw [hks]
  exact run_fnN (us := .ref a :: us) (vs := .ref a :: vs) F hr hb hx I3 (.cons rfl r) rz (by rw [List.length_cons, l1]) l2 q3
/-- o.m(k = v, ..) -/
theorem pe_methK0 {pl : Sem Bool} (he : PE X o ta) (c : Cls X.K C) (hm : Meth X.K C m f) (F : FnOk X.prog X.w X.K X.mg X.base CX k f fd ps sp) (hr : Room k X.A) (hb : KBn X.K fd ps 1 ks g gV) (hx : Passes CX X E) (hkw : PK X kws tk)
    (hall : (backToKw pos (keywordEach kws X.env)).all (·.1.isSome) = true := by rfl) (hks : (backToKw pos (keywordEach kws X.env)).filterMap (·.1) = ks := by rfl)
    (hpl : ((backTo pos (starEach [] X.env)).any (·.1) || (backToKw pos (keywordEach kws X.env)).any (·.1.isNone)) = false := by rfl)
    (ht : eval (.Call (.Attribute o m apos) [] kws pos) X.env = (do
      let ov ← eval o X.env
      standAt apos.atName
      let (f, first) ← holding [ov] (getMethod ov m pl)
      callWith pos f first (backTo pos (starEach [] X.env)) (backToKw pos (keywordEach kws X.env))) := by rfl) :
    PE X (.Call (.Attribute o m apos) [] kws pos) (tMethK C m 0 ks.length sp gV E ta tNil tk) := by
  constructor
  intro pins s σ H Q I h
  refine PySem.W.methodCall_KW (pl := pl) (thn (he.run pins s σ H _ I h) fun u s1 ⟨x, H1, I1, rx, a, dx, fs, ex, ea, l, q⟩ => ?_) ht
  subst ex
  have rx : u = Value.ref a := rx
  subst rx
  refine getmeth_ok I1 ea c hm l ?_
  refine PySem.W.callWith_KW0 (first := [.ref a]) (h₀ := X.base) I.ok.mod.kin hm.kp hall ?_ hpl
  refine thn (hkw.run pos pins s1 σ H1 _ I1 q) fun ws s3 ⟨zs, H3, I3, rz, l1, l2, q3⟩ => ⟨I3.kIn, ?_⟩
  rw [hks]
  exact run_fnN (us := [.ref a]) (vs := [.ref a]) F hr hb hx I3 (.cons rfl .nil) rz rfl l2 q3
end
section
variable {K : PySem.W.Frag} {pf : Bool} {ρ : List Sl} {ta : TE} {tr tk : TA} {Φ : Dt → List Sl → Prop} {C : Addr} {m : Str} {E : XK}
theorem w_methK {W : List Dt → (Dt → Prop) → Prop} {n j : Nat} {gV : List V → List V → List V} {gD : Dt → List Dt → List Dt → List Dt} (hg : ∀ (x : V) (vs zs : List V) (d : Dt) (ds es : List Dt) (H : Hp), vs.length = n → zs.length = j → DX K H x d → DXs K H vs ds → DXs K H zs es → DXs K H (gV (x :: vs) zs) (gD d ds es))
    (h : Wp K pf ta ρ fun d ρ1 => ∃ a ns es, d = .ins C a ns es ∧ m ∉ ns ∧ Wa K pf tr ρ1 fun ds ρ2 => Wa K pf tk ρ2 fun fs ρ3 => ds.length = n ∧ fs.length = j ∧ W (gD (.ins C a ns es) ds fs) fun e => Φ e ρ3) : Wp K pf (tMethK C m n j (spP K W) gV E ta tr tk) ρ Φ := fun M σ H S Q q =>
  h M σ H S _ fun v H1 d ρ1 s1 S1 x1 ⟨a, ns, es, ed, hm, k⟩ => by
    subst ed
    obtain ⟨rfl, dx, us, hi, hl⟩ := ins_keep (H2 := H1) x1
    refine ⟨a, dx, _, rfl, hi, zip_look_none hm, k M σ H1 S1 _ fun vs H2 ds ρ2 s2 S2 x2 k2 => k2 M σ H2 S2 _ fun zs H3 fs ρ3 s3 S3 x3 ⟨l1, l2, w⟩ => ?_⟩
    have ec : ∀ H', cut M.callP H' = cut M H' := cut_congr M.callP_has
    have h1 : vs.length = n := x2.len.trans l1
    have h2 : zs.length = j := x3.len.trans l2
    refine ⟨h1, h2, M.callP, _, _, rfl, rfl, S3.mok.callP, ?_, w, fun v H4 e s x f => q v H4 e ρ3 (((s1.trans s2).trans s3).trans (Tr.same pf M s)) (S3.same s) (by rw [ec] at x; exact x) f⟩
    rw [ec]
    exact hg _ _ _ _ _ _ _ h1 h2 ((x1.mono s2.dx).mono s3.dx) (x2.mono s3.dx) x3
end
end DL

set_option maxHeartbeats 2000000
/-! Data level: the facts of classes of errors as the top leaves them; == of flat lists; small rules. -/
namespace DL
open PySem PySem.Spec PyProof.Rows L2
variable [Tb]
def nidOf : Nat → String
  | 0 => "ValueError.__new__" | 1 => "LookupError.__new__" | 2 => "RuntimeError.__new__" | _ => "OverflowError.__new__"
def tlOf : Nat → List Value
  | 0 => tlV | 1 => tlL | 2 => tlR | _ => tlO
theorem ebOf : ∀ k, ErrB (nidOf k) (tlOf k)
  | 0 => errV | 1 => errL | 2 => errR | _ + 3 => errO
theorem tl_ref (D : Addr) : ∀ k, (tlOf k).contains (.ref D) = false
  | 0 => rfl | 1 => rfl | 2 => rfl | _ + 3 => rfl
theorem tl_base : ∀ k, (tlOf k).contains (.type "BaseException") = true
  | 0 => by decide +kernel | 1 => by decide +kernel | 2 => by decide +kernel | _ + 3 => by show tlO.contains _ = true; decide +kernel
/-- what is looked up of such a class -/
def exq (K : PySem.W.Frag) (C : Addr) (fl : List Str) : Bool :=
  PySem.W.findIn K (.ref C) "__setattr__" == some (some (.builtin "object.__setattr__")) && (PySem.W.findIn K (.ref C) "__getattribute__" == some (some (.builtin "BaseException.__getattribute__")) && (PySem.W.findIn K (.ref C) "__getattr__" == some none
    && (PySem.W.findIn K (.ref C) "__class__" == some (some (.builtin "object.__class__")) && (PySem.W.keepIn K (.ref C) && fl.all fun f => PySem.W.findIn K (.ref C) f == some none))))
def glq (K : PySem.W.Frag) : Bool := PySem.W.specialIn K (.builtin "object.__class__") "__get__" == some (some (.builtin "getset_descriptor.__get__")) && PySem.W.takesIn K (.builtin "object.__class__") == some true
/-- a class of errors as the top has left it -/
inductive CFac (K : PySem.W.Frag) (x : Str) (fl : List Str) (B : Addr) (nid : String) (tl : List Value) (C : Addr) : Prop
  | mk {nm q : Str} {N : Addr} {bs : List Value} {sn : List Str} {sub : List Value} {ab : Bool} {col : Option Bool} {dd : Option Addr} {k0 k1 k2 k3 k5 : Option Value} (a : PySem.W.nsIn K mainGlobals x = some (some (.ref C)))
      (l : K.lookup C = some (excClassObj nm q C N bs (.ref B :: tl) true sn sub ab col dd k0 k1 k2 k3 k5 nid)) (b : exq K C fl = true) : CFac K x fl B nid tl C
inductive IFac (K : PySem.W.Frag) (C : Addr) (qual : Str) (st : Stmt) : Prop
  | mk {f : Addr} {od an : Option Addr} {sl : Array (Option Value)} {kV dc pm cd ct : Value} (i : PySem.W.findIn K (.ref C) "__init__" = some (some (.ref f)))
      (l : K.lookup f = some ⟨.type "function", od, .func (PySem.W.fnOf "__init__" qual (defArgs st) (defBody st) (defScope st) .none kV dc pm an cd ct), sl⟩) (c : PySem.W.codeIn K cd qual = true) : IFac K C qual st
/-- .. and what is known of it -/
structure Er (K : PySem.W.Frag) (mg : Str → Option Value) (x : Str) (fl : List Str) (B : Addr) (nid : String) (tl : List Value) (C : Addr) : Prop where
  g : mg x = some (.ref C)
  T : OexB K C [B] nid tl
  X : XfC K C
  I : IsxC K C
  no : ∀ f ∈ fl, PySem.W.findIn K (.ref C) f = some none
  cl : (PySem.W.clsIn K C).isSome = true
theorem typeIn_ref {K : PySem.W.Frag} {a : Addr} : PySem.W.typeIn K (.ref a) = (K.lookup a).map (·.cls) := rfl
theorem keep_fn {K : PySem.W.Frag} {f : Addr} {oc : Value} {od : Option Addr} {g : FuncData} {sl : Array (Option Value)} (l : K.lookup f = some ⟨oc, od, .func g, sl⟩) : PySem.W.keepIn K (.ref f) = true := by
  unfold PySem.W.keepIn
  simp only [l]
theorem beq_some {α : Type} [BEq α] [LawfulBEq α] {a b : α} (h : (a == b) = true) : a = b := eq_of_beq h
theorem CFac.er {K : PySem.W.Frag} {x : Str} {fl : List Str} {B C : Addr} {k : Nat} {h : Heap} {mg : Str → Option Value} (F : CFac K x fl B (nidOf k) (tlOf k) C) (X : K.In h) (G : h.Ns mainGlobals mg) (gq : glq K = true) : Er K mg x fl B (nidOf k) (tlOf k) C := by
  cases F with
  | @mk nm q N bs sn sub ab col dd k0 k1 k2 k3 k5 a l b =>
    unfold exq at b
    simp only [Bool.and_eq_true] at b
    obtain ⟨b1, b2, b3, b4, b5, b6⟩ := b
    unfold glq at gq
    simp only [Bool.and_eq_true] at gq
    have hl : K.lookup C = some (excClassObj nm q C N bs (over [B] (tlOf k)) true sn sub ab col dd k0 k1 k2 k3 k5 (nidOf k)) := l
    have hcl : PySem.W.clsIn K C = some { name := nm, bases := bs, mro := .ref C :: over [B] (tlOf k), ns := N, qualname := q, hasDict := true, slotNames := sn, subclasses := sub, abstract := ab, collection := col, hasDel := false } := by unfold PySem.W.clsIn; rw [hl] <;> rfl
    have hsub : ∀ v : Value, PySem.W.subIn K (.ref C) v = some ((over (C :: [B]) (tlOf k)).contains v) := fun v => by
      show PySem.W.mroIn K C v = _
      unfold PySem.W.mroIn
      rw [hcl, Option.bind_some]
      rfl
    have hbe : PySem.W.subIn K (.ref C) (.type "BaseException") = some true := by rw [hsub, over_has, tl_base]
    have hty : PySem.W.typeIn K (.ref C) = some (.type "type") := by rw [typeIn_ref, hl]; rfl
    refine ⟨PySem.W.mg_of X G a, ⟨ebOf k, ⟨nm, q, N, bs, sn, sub, ab, col, dd, k0, k1, k2, k3, k5, hl⟩, beq_some b1, hbe, hty, b5⟩, ⟨beq_some b2, beq_some b3, hbe, by unfold PySem.W.hasDictIn; rw [hcl]; rfl⟩, ⟨beq_some b2, beq_some b3, hbe, by unfold PySem.W.hasDictIn; rw [hcl]; rfl, beq_some b4, beq_some gq.1, beq_some gq.2, ?_⟩, fun f hf => beq_some (List.all_eq_true.mp b6 f hf), by rw [hcl]; rfl⟩
    have h2 := hsub (.type "object")
    rw [over_has, (ebOf k).obj] at h2
    exact h2
/-- an __init__ that keeps its promise -/
structure Ini (K : PySem.W.Frag) (C : Addr) (n : Nat) (W : List Dt → (List Str → List Dt → Prop) → Prop) : Prop where
  ex : ∃ (fI : Addr) (fd : FuncData) (ps : List Str), PySem.W.findIn K (.ref C) "__init__" = some (some (.ref fI)) ∧ PySem.W.typeIn K (.ref fI) = some (.type "function") ∧ Binds K fd ps [] ∧ ∀ (P : Program) (w : World) (mg : Str → Option Value) (base : Heap), FnOk P w K mg base CX0 1 fI fd ps (spExI K C W)
def W1 (fl : Str) : List Dt → (List Str → List Dt → Prop) → Prop := fun ds Φ => ∃ d, ds = [d] ∧ Φ [fl] [d]
def W2 (fl gl : Str) : List Dt → (List Str → List Dt → Prop) → Prop := fun ds Φ => ∃ d e, ds = [d, e] ∧ Φ [gl, fl] [e, d]
section
variable {K : PySem.W.Frag} {mg : Str → Option Value} {x : Str} {fl : List Str} {B C : Addr} {nid : String} {tl : List Value} {n : Nat} {W : List Dt → (List Str → List Dt → Prop) → Prop} {X : Cx} {e : Expr} {es : List Expr} {p pos : Pos} {ta : TA}
theorem Er.pe (m : Er K mg x fl B nid tl C) (i : Ini K C n W) (hK : X.K = K) (hm : X.mg = mg) (hr : Room 2 X.A) (hg : Gl X x) (ha : PA X (e :: es) ta) (hdb : (x == ("__debug__" : Str)) = false := by decide)
    (he : starEach (e :: es) X.env = (false, eval e X.env) :: starEach es X.env := by rfl) (hpl : (backTo pos (starEach es X.env)).any (·.1) = false := by rfl) : PE X (.Call (.Name x p) (e :: es) [] pos) (tMkV C (spExI K C W) [] ta) := by
  subst hK hm
  obtain ⟨fI, fd, ps, i1, i2, b, F⟩ := i.ex
  exact pe_mkB m.T i1 i2 (F _ _ _ _) hr b .nil pass0 hg m.g ha hdb he hpl
theorem Er.pmk (m : Er K mg x fl B nid tl C) (i : Ini K C n W) (hK : X.K = K) (hm : X.mg = mg) (hr : Room 2 X.A) (hg : Gl X x) (ha : PA X (e :: es) ta) (hdb : (x == ("__debug__" : Str)) = false := by decide)
    (he : starEach (e :: es) X.env = (false, eval e X.env) :: starEach es X.env := by rfl) (hpl : (backTo pos (starEach es X.env)).any (·.1) = false := by rfl) : PMk X (.Call (.Name x p) (e :: es) [] pos) (tMkO C (spExI K C W) [] ta) := by
  subst hK hm
  obtain ⟨fI, fd, ps, i1, i2, b, F⟩ := i.ex
  exact pmk_oexB m.T i1 i2 (F _ _ _ _) hr b .nil pass0 hg m.g ha hdb he hpl
theorem isXK (K : PySem.W.Frag) (h : X.K = K) : CallR X (.builtin "isinstance") (rIsX K) := by subst h; exact call_isX
end

inductive BFac (K : PySem.W.Frag) (x : Str) (C : Addr) : Prop
  | mk (a : PySem.W.nsIn K mainGlobals x = some (some (.ref C))) (b : PySem.W.isClsIn K C = true) (t : PySem.W.typeIn K (.ref C) = some (.type "type")) (s : PySem.W.subIn K (.ref C) (.type "BaseException") = some true) : BFac K x C
theorem lenD_seq {d : Dt} {xs : List Dt} (h : seqD d = some xs) : lenD d = some xs.length := by
  cases d with
  | lst ds => cases h; rfl
  | tup ds => cases h; rfl
  | _ => cases h
theorem neDK {X : Cx} (K : PySem.W.Frag) (h : X.K = K) (hu : X.A.units + 64 < cLine) : OpR X (compareOp .NotEq) (rNeD K) := by subst h; exact op_neD hu
theorem eqDK {X : Cx} (K : PySem.W.Frag) (h : X.K = K) (hu : X.A.units + 64 < cLine) : OpR X (compareOp .Eq) (rEqD K) := by subst h; exact op_eqD hu
theorem catLK {X : Cx} (K : PySem.W.Frag) (h : X.K = K) : OpR X (binaryOp .Add) (rCatL K) := by subst h; exact op_catL
theorem idxK {X : Cx} (K : PySem.W.Frag) (h : X.K = K) : MtR X "list.index" (rIndex K) := by subst h; exact mt_index
/-- lists of truths, lists of ints beside each other -/
theorem eqv_bls : ∀ xs ys : List Bool, PyData.eqvAll (pys (xs.map Dt.bl)) (pys (ys.map Dt.bl)) = decide (xs = ys)
  | [], [] => by simp [pys, PyData.eqvAll]
  | [], y :: ys => by simp [pys, PyData.eqvAll]
  | x :: xs, [] => by simp [pys, PyData.eqvAll]
  | x :: xs, y :: ys => by
    have ih := eqv_bls xs ys
    simp only [List.map_cons, pys, PyData.eqvAll, Dt.py, PyData.eqv, ih]
    by_cases h : x = y
    · subst h; simp
    · simp [h]
theorem eqv_ints : ∀ xs ys : List Int, PyData.eqvAll (pys (xs.map Dt.int)) (pys (ys.map Dt.int)) = decide (xs = ys)
  | [], [] => by simp [pys, PyData.eqvAll]
  | [], y :: ys => by simp [pys, PyData.eqvAll]
  | x :: xs, [] => by simp [pys, PyData.eqvAll]
  | x :: xs, y :: ys => by
    have ih := eqv_ints xs ys
    simp only [List.map_cons, pys, PyData.eqvAll, Dt.py, PyData.eqv, ih]
    by_cases h : x = y
    · subst h; simp
    · simp [h]
theorem shp_bls (xs : List Bool) : seqss (xs.map Dt.bl) = true ∧ SeqAt.shaped (Dt.lst (xs.map Dt.bl)).py = true := by
  have key : ∀ xs : List Bool, seqss (xs.map Dt.bl) = true ∧ PyData.canLayAll0 (pys (xs.map Dt.bl)) = true ∧ PyData.depthAll (pys (xs.map Dt.bl)) ≤ 1 := by
    intro xs
    induction xs with
    | nil => simp [seqss, pys, PyData.canLayAll0, PyData.depthAll]
    | cons x xs ih =>
      obtain ⟨h1, h2, h3⟩ := ih
      simp only [List.map_cons, seqss, Dt.seqs, pys, Dt.py, PyData.canLayAll0, PyData.canLay0, PyData.depthAll, PyData.depth, h1, h2, Bool.and_true, true_and]
      omega
  obtain ⟨h1, h2, h3⟩ := key xs
  refine ⟨h1, ?_⟩
  unfold SeqAt.shaped
  simp only [Dt.py, PyData.canLay0, PyData.depth, h2, Bool.true_and, decide_eq_true_eq]
  omega
theorem shp_ints (xs : List Int) : seqss (xs.map Dt.int) = true ∧ SeqAt.shaped (Dt.lst (xs.map Dt.int)).py = true := by
  have key : ∀ xs : List Int, seqss (xs.map Dt.int) = true ∧ PyData.canLayAll0 (pys (xs.map Dt.int)) = true ∧ PyData.depthAll (pys (xs.map Dt.int)) ≤ 1 := by
    intro xs
    induction xs with
    | nil => simp [seqss, pys, PyData.canLayAll0, PyData.depthAll]
    | cons x xs ih =>
      obtain ⟨h1, h2, h3⟩ := ih
      simp only [List.map_cons, seqss, Dt.seqs, pys, Dt.py, PyData.canLayAll0, PyData.canLay0, PyData.depthAll, PyData.depth, h1, h2, Bool.and_true, true_and]
      omega
  obtain ⟨h1, h2, h3⟩ := key xs
  refine ⟨h1, ?_⟩
  unfold SeqAt.shaped
  simp only [Dt.py, PyData.canLay0, PyData.depth, h2, Bool.true_and, decide_eq_true_eq]
  omega
section
variable {K : PySem.W.Frag} {Ψ : Dt → Prop}
theorem od_neBls {xs ys : List Bool} (h : Ψ (.bl (!decide (xs = ys)))) : OD K (rNeD K) (.lst (xs.map Dt.bl)) (.lst (ys.map Dt.bl)) Ψ := fun M H u v m h1 h2 Q q => by
  refine ⟨_, _, (h1.mono (cut_sub M H)).dp (by simp only [Dt.seqs]; exact (shp_bls xs).1), (h2.mono (cut_sub M H)).dp (by simp only [Dt.seqs]; exact (shp_bls ys).1), (shp_bls xs).2, (shp_bls ys).2, ?_⟩
  have e : PyData.eqv (Dt.lst (xs.map Dt.bl)).py (Dt.lst (ys.map Dt.bl)).py = decide (xs = ys) := by simp only [Dt.py, PyData.eqv]; exact eqv_bls xs ys
  rw [e]
  exact q _ H _ (Same.refl H) (.bl _) h
theorem od_eqInts {xs ys : List Int} (h : Ψ (.bl (decide (xs = ys)))) : OD K (rEqD K) (.lst (xs.map Dt.int)) (.lst (ys.map Dt.int)) Ψ := fun M H u v m h1 h2 Q q => by
  refine ⟨_, _, (h1.mono (cut_sub M H)).dp (by simp only [Dt.seqs]; exact (shp_ints xs).1), (h2.mono (cut_sub M H)).dp (by simp only [Dt.seqs]; exact (shp_ints ys).1), (shp_ints xs).2, (shp_ints ys).2, ?_⟩
  have e : PyData.eqv (Dt.lst (xs.map Dt.int)).py (Dt.lst (ys.map Dt.int)).py = decide (xs = ys) := by simp only [Dt.py, PyData.eqv]; exact eqv_ints xs ys
  rw [e]
  exact q _ H _ (Same.refl H) (.bl _) h
end
section
variable {K : PySem.W.Frag} {ρ : List Sl} {te : TE} {D : DE} {pf : Bool} {g : TG} {js : List Nat}
theorem ws_asgG (h : Wp K pf te ρ fun d ρ' => WG K g js d ρ' D.nx) : Ws K (tAsg te g) ρ D := fun M σ H S E k =>
  h M σ H S _ fun v H1 d ρ1 s1 S1 x1 f => f M σ H1 v S1 x1 _ fun σ' ρ' _ S' z => k.nx M σ' H1 ρ' s1.st S' z
end
section
variable {X : Cx} {T : String} {name : Str} {id : String} {r : V → List V → Hp → VK → Prop} {o e : Expr} {es : List Expr} {to : TE} {t : TA} {apos cpos : Pos}
theorem pe_bmK (K : PySem.W.Frag) (hK : X.K = K) (pa : PlainAttrs T) (slot : Slot T name id) (hty : typeOf (.builtin id) = pure (.type "method_descriptor")) (hm : MtR X id r) (ho : PE X o to) (ha : PA X (e :: es) t) (hbase : attributeBase o name X.env (eval o X.env) = eval o X.env := by rfl)
    (hfew : ((backTo cpos (starEach (e :: es) X.env)).all (fun x => !x.1) && (backToKw cpos (keywordEach [] X.env)).all (fun x => x.1.isSome) && decide ((e :: es).length + ([] : List Keyword).length + (if ([] : List Keyword).isEmpty then 0 else 1) < 30)) = true := by rfl)
    (hline : (apos.endLine == cpos.line) = true := by rfl) (hs : starEach (e :: es) X.env = (false, eval e X.env) :: starEach es X.env := by rfl) (hplain : (backTo cpos (starEach es X.env)).any (·.1) = false := by rfl) : PE X (.Call (.Attribute o name apos) (e :: es) [] cpos) (tBM K T r to t) := by
  subst hK
  exact pe_bm pa slot hty hm ho ha hbase hfew hline hs hplain
end
section
variable {K : PySem.W.Frag} {pf : Bool} {ρ : List Sl} {te : TE} {wi : TI} {j : Nat} {Φ : Dt → List Sl → Prop}
/-- [f(d) for d in ..], by places -/
theorem w_lcZ (fs : List Dt) (e : ρ[j]? = some .any) (h : WI K pf wi ρ fun ds ρ1 => ρ1 = ρ ∧ ds.length ≤ 50000 ∧ ds.length = fs.length ∧ (∀ (k : Nat) (d y : Dt), ds[k]? = some d → fs[k]? = some y → Wp K pf te (ρ.set j (.dat d)) fun z ρ3 => z = y ∧ ρ3 = ρ.set j (.dat d)) ∧ Φ (.lst fs) ρ) :
    Wp K pf (tLc wi (gName j) tYes te [j]) ρ Φ := by
  refine w_lc (js := [j]) (fun _ z => z) fun M σ H S R q => h M σ H S R fun J H1 ds ρ1 s1 S1 w ⟨e1, hz, hl, he, z⟩ => q J H1 ds ρ1 s1 S1 w ?_
  subst e1
  have w0 : wipeS ρ1 [j] = ρ1 := by
    show ρ1.set j .any = ρ1
    have := set_any (s := .any) e
    rw [List.set_set] at this
    exact this
  have w1 : ∀ d, wipeS (ρ1.set j (.dat d)) [j] = ρ1 := fun d => set_any e
  refine ⟨⟨fun i acc ρ2 => ρ2 = ρ1 ∧ acc = fs.take i, ⟨w0, rfl⟩, hz, fun i d acc ρ2 hd ⟨e2, ea⟩ => ?_, fun acc ρ2 ⟨e2, ea⟩ => ?_⟩⟩
  · subst e2 ea
    have hi : i < fs.length := by rw [← hl]; exact (List.getElem?_eq_some_iff.mp hd).1
    have hy : fs[i]? = some fs[i] := List.getElem?_eq_getElem hi
    refine wg_name (wt_yes (ifT ((he i d _ hd hy).imp fun y ρ5 ⟨ey, e5⟩ => ?_)))
    subst e5 ey
    exact ⟨w1 d, by rw [List.take_add_one, hy]; rfl⟩
  · subst e2 ea
    rw [hl, List.take_length]
    exact z
end

end DL

set_option maxHeartbeats 2000000
/-! Data level: enumerate over a tuple; a list without its k-th item. -/
namespace DL
open PySem PySem.Spec PyProof.Rows L2
variable [Tb]
open PySem.Sem (wp)
open AutoSeq1 (wpAny_loadPart')
section
variable {prog : Program} {w : World} {A : Around} {E : Value → Shared → Prop} {s : Shared}
/-- what enumerate(v) lays: the iterator o of v, then its own object -/
abbrev enumO (n : Addr) : Obj := { cls := .type "enumerate", data := .fields #[.none, .bool false, .ref n, rawInt 0, .none, .none] }
theorem meets_enumB {v : Value} {o : Obj} {H : Heap → Prop} (B : Begins v o H) :
    Meets (Builtin.«enumerate.__new__» ⟨[.type "enumerate", v], []⟩) (fun _ R s => H s.heap ∧ R (.ok (.ret (.ref (s.heap.push o).objs.size))) { s with heap := (s.heap.push o).push (enumO s.heap.objs.size) }) := .of_wp fun prog w A R s h => by
  obtain ⟨hp, g, d, tk, os⟩ := s
  have sub := sub_enumerate
  have go : ∀ {A' : Around} {E : Value → Shared → Prop} {Q : Value → Shared → Prop}, Q (.ref hp.objs.size) ⟨hp.push o, g, d, tk, os⟩ → wpAny (model prog w) A' (pyIter v) Q E ⟨hp, g, d, tk, os⟩ := fun q => B.iter _ _ _ _ ⟨hp, g, d, tk, os⟩ _ h.1 q
  wp_walk using go
  refine wpAny_stack_any fun st => wpAny_pure ?_
  split <;> try (rename_i c _ _ _ _ _; cases c == Value.type "enumerate")
  all_goals (wp_walk using go; exact ⟨_, rfl, h.2⟩)
theorem call_enumB {v : Value} {o : Obj} {H : Heap → Prop} {Q : Value → Shared → Prop} (B : Begins v o H) (hH : H s.heap)
    (h : ∀ h', IsEnum h' (s.heap.objs.size + 1) s.heap.objs.size 0 .none → h'.get? s.heap.objs.size = some o → (∀ b o, s.heap.get? b = some o → h'.get? b = some o) → Q (.ref (s.heap.objs.size + 1)) { s with heap := h' }) :
    wpAny (model prog w) A (call (.type "enumerate") [v]) Q E s := by
  have z : (s.heap.push o).objs.size = s.heap.objs.size + 1 := Heap.size_push ..
  have e : ((s.heap.push o).push (enumO s.heap.objs.size)).get? (s.heap.objs.size + 1) = some (enumO s.heap.objs.size) := z ▸ Heap.get?_push_size _ rfl
  have fin := h _ e (Heap.get?_push_of_some _ (Heap.get?_push_size _ B.free)) fun b u x => Heap.get?_push_of_some _ (Heap.get?_push_of_some _ x)
  refine callType_new F.called_enumerate (by decide) (F.typeCall_enumerate_1 _) (F.newCall_enumerate_1 _) (fun obj => F.args_object_init_2 obj _) F.entry_enumerate_new (meets_enumB B) ⟨hH, ?_⟩
  show _ ∧ _
  rw [z]
  exact ⟨⟨_, e, rfl⟩, fin⟩
end
theorem one_val {v : V} {us : List Value} (r : Vals [v] us) : ∃ u, us = [u] ∧ RelV v u := by
  cases r with
  | cons a b => cases b; exact ⟨_, rfl, a⟩
/-- the tuple at a, each item in a new pair -/
def IteT (K : PySem.W.Frag) (a : Addr) : It :=
  ⟨fun i H => ∃ (xs : List V) (x : V), SqT K H a xs ∧ xs[i]? = some x, fun i H v H' => ∃ T x, v = .ref T ∧ H T = none ∧ H' = upd H T (.tup [.int (i : Nat), x]) ∧ ∀ xs, SqT K H a xs → xs[i]? = some x, fun i H => ∃ xs : List V, SqT K H a xs ∧ xs.length = i⟩
theorem turn_enumT {P : Program} {w : World} {K : PySem.W.Frag} {elts : List Expr} {kk : Nat} {tpos : Pos} (a e it : Addr) :
    Turn P w K (.Tuple elts kk tpos) (IteT K a) [e, it] e (fun i h => (∃ old, IsEnum h e it ((i : Nat) : Int) old) ∧ h.IsTupleIter it a i ∧ e ≠ it) := by
  have apart : ∀ {h : Heap} {its : Array Value} {i : Nat} {old : Value}, IsEnum h e it i old → h.IsTupleIter it a i → h.IsTuple a its → a ≠ it ∧ e ≠ a := fun {h its i old} h1 ⟨o2, g2, c2, _⟩ ⟨o3, g3, c3, _⟩ => by
    constructor
    · rintro rfl
      rw [g2] at g3; cases g3; rw [c2] at c3; injection c3 with c; exact absurd c (by decide)
    · rintro rfl
      have g1 : h.get? e = some _ := h1
      rw [g1] at g3; cases g3; injection c3 with c; exact absurd c (by decide)
  have two : ∀ b ∈ [e, it], b = e ∨ b = it := fun b hb => by simpa using hb
  refine ⟨by simp, fun i h st b hb => ?_, fun i h h' ⟨⟨old, st⟩, si, ne⟩ k => ⟨⟨old, k e (by simp) _ st⟩, si.at fun o q => k it (by simp) o q, ne⟩, ?_, ?_, fun A i s Q E st q => let ⟨⟨_, st⟩, _⟩ := st; wpAny_pyIter_enum st q⟩
  · obtain ⟨⟨old, st⟩, ⟨o, ho, _, hd⟩, _⟩ := st
    rcases two b hb with rfl | rfl
    · exact ⟨_, st, fun v q => nomatch q⟩
    · exact ⟨o, ho, fun v q => by rw [hd] at q; cases q⟩
  · rintro X rfl rfl rfl hc i pins s σ H E I hf ⟨⟨old, st⟩, si, ne⟩ ⟨xs, x, hq, hx⟩
    obtain ⟨its, rv, tp, -⟩ := I.tuple hq
    have tp : s.heap.IsTuple a its.toArray := tp
    obtain ⟨u, hu, ru⟩ := rv.get hx
    obtain ⟨n1, n2⟩ := apart st si tp
    have W := WalksT.enumerateD (prog := X.prog) (w := X.w) (A := X.A) (Draws.tuple (A := X.A.in1) (by simp [I.ok.hd hc]) it a n1 its.toArray) e ne (by simp [ne, n2]) (by simp)
    have lt : i < its.toArray.size := by simpa using (List.getElem?_eq_some_iff.mp hu).1
    refine W.item i s _ E lt ⟨⟨old, st⟩, si, tp⟩ fun T vs h1 t1 pt le hT mid k1 => ?_
    have off := W.apart i T h1 mid
    obtain ⟨t, y, hy, rfl⟩ := pt
    obtain rfl : u = y := by rw [List.getElem?_toArray, hu] at hy; exact Option.some.inj hy
    refine ⟨_, rfl, W.go elts kk tpos i T { s with heap := h1, toks := t1 } _ E mid fun h2 st2 k2 => ?_⟩
    obtain ⟨⟨old2, g2⟩, s2, -⟩ := st2
    have new : ObjOk X.prog X.w (upd H T (.tup [.int (i : Nat), x])) h2 T (.tup [.int (i : Nat), x]) :=
      ⟨by show 2 ≤ sizeLine; decide, [.int i t, u], .cons ⟨_, rfl⟩ (.cons ru .nil), hT.at fun o q => k2 T o off q⟩
    refine ⟨.ref T, _, I.turnedNew (t' := t1) (ch := [e, it]) (fun b o hb q => k2 b o hb (k1 b o hb q)) hf le new, rfl, ⟨T, x, rfl, I.hok.fresh le, rfl, fun ys hy => by rw [I.tuple_inj hy hq]; exact hx⟩, ⟨⟨old2, g2⟩, s2, ne⟩, fun b hb => ?_⟩
    rw [upd_ne fun z => off (by rw [← z]; exact hb)]
    exact (hf b hb).1
  · rintro X rfl rfl rfl hc i pins s σ H E I hf ⟨⟨old, st⟩, si, ne⟩ ⟨xs, hq, hx⟩
    obtain ⟨its, rv, tp, -⟩ := I.tuple hq
    have tp : s.heap.IsTuple a its.toArray := tp
    obtain ⟨n1, n2⟩ := apart st si tp
    obtain rfl : i = its.toArray.size := by rw [List.size_toArray, ← rv.length]; exact hx.symm
    obtain ⟨f0, f1, f2, f3, f4, f5⟩ := hf it (by simp)
    exact wpAny_pyNext_enum_endD (prog := X.prog) (w := X.w) (Draws.tuple (A := X.A.in1) (by simp [I.ok.hd hc]) it a n1 its.toArray) st ⟨si, tp⟩ fun h' eb => ⟨rfl, I.turned (t' := s.toks) (fun b o hb q => eb b o hb q) f0 f1 f3 f4 f5⟩
def iEnumT (K : PySem.W.Frag) (ta : TA) : TI := fun σ H R => ta σ H fun vs H1 => ∃ a xs, vs = [.ref a] ∧ SqT K H1 a xs ∧ R (IteT K a) H1
theorem pi_enumT {X : Cx} {e : Expr} {ta : TA} {p pos tpos : Pos} {elts : List Expr} {kk : Nat} (hg : Gl X "enumerate") (hm : X.mg "enumerate" = none) (ha : PA X [e] ta) (hs : starEach [e] X.env = [(false, eval e X.env)] := by rfl) :
    PI X (.Tuple elts kk tpos) (.Call (.Name "enumerate" p) [e] [] pos) (iEnumT X.K ta) := by
  constructor
  intro pins s σ H R I h
  refine Call_ (ld_blt I hg hm boot_enumerate (PyProof.Rows.callWith_type1 (wpAny_mono (ha.run pos pins s σ H _ I h) (fun us s1 z => ?_) fun _ _ z => z) hs rfl))
  obtain ⟨vs, H1, J, r, a, xs, rfl, hq, q⟩ := z
  obtain ⟨its, -, tp, -⟩ := J.tuple hq
  obtain ⟨u, rfl, ru⟩ := one_val r
  obtain rfl : u = Value.ref a := ru
  have tp : s1.heap.IsTuple a its.toArray := tp
  refine call_enumB (begins_tuple a its.toArray) tp fun h' en it kp => wpAny_pyIter_enum en ?_
  have fp : ∀ b, s1.heap.objs.size ≤ b → _ := fun b hb => J.fpOk hb (J.hok.fresh hb)
  refine ⟨s1.heap.objs.size + 1, [s1.heap.objs.size + 1, s1.heap.objs.size], _, _, H1, rfl, J.kept (t' := s1.toks) kp, turn_enumT a _ _, ⟨⟨_, en⟩, ⟨_, it, rfl, rfl⟩, Nat.succ_ne_self _⟩, fun b hb => ?_, q⟩
  rcases List.mem_cons.mp hb with rfl | hb
  · exact fp _ (Nat.le_succ _)
  · exact List.mem_singleton.mp hb ▸ fp _ (Nat.le_refl _)
theorem walk_enumT {K : PySem.W.Frag} {a : Addr} {xs : List V} : Walk (IteT K a) xs.length (fun H => SqT K H a xs) (YPair (fun i => some (.int (i : Nat))) (fun i => xs[i]?)) := by
  refine ⟨fun i _ hi q => ⟨xs, xs[i], q, by simp [hi]⟩, fun _ q => ⟨xs, q, rfl⟩, fun i H v H' _ q y => ?_⟩
  obtain ⟨T, x, h1, h2, h3, h4⟩ := y
  exact ⟨T, .int (i : Nat), x, h1, h2, h3, rfl, h4 xs q⟩
def enumD (ds : List Dt) : List Dt := (List.range ds.length).map fun i => .tup [.int (i : Nat), ds.getD i .non]
theorem enumD_len (ds : List Dt) : (enumD ds).length = ds.length := by unfold enumD; rw [List.length_map, List.length_range]
theorem enumD_at {ds : List Dt} {i : Nat} {d : Dt} (h : ds[i]? = some d) : (enumD ds)[i]? = some (.tup [.int (i : Nat), d]) := by
  unfold enumD
  rw [List.getElem?_map, List.getElem?_range (List.getElem?_eq_some_iff.mp h).1]
  show some (Dt.tup [.int (i : Nat), ds.getD i .non]) = _
  rw [List.getD_eq_getElem?_getD, h]
  rfl
section
variable {K : PySem.W.Frag} {ρ : List Sl} {tr : TA} {pf : Bool} {Ψ : List Dt → List Sl → Prop}
theorem wi_enumT (h : Wa K pf tr ρ fun ds ρ1 => ∃ xs, ds = [.tup xs] ∧ Ψ (enumD xs) ρ1) : WI K pf (iEnumT K tr) ρ Ψ := fun M σ H S R q =>
  h M σ H S _ fun vs H1 ds ρ1 s1 S1 x1 ⟨xs, e, f⟩ => by
    subst e
    cases x1 with
    | cons x1 xn =>
      cases xn
      cases x1 with
      | tup hs ha =>
        refine ⟨_, _, rfl, same_T (cut_sub M H1) hs, q _ H1 _ ρ1 s1 S1 ⟨_, _, _, walk_enumT, by rw [enumD_len]; exact ha.len, fun M' H' s => same_T (cut_sub M' H') (same_T s hs), fun M' H' i x H'' s m hi y => ?_⟩ f⟩
        obtain ⟨T, y1, y2, e1, e2, e3, e4, e5⟩ := y
        cases e4
        obtain ⟨d, g1, g2⟩ := ha.get e5
        subst e1 e3
        exact ⟨same_new e2, _, enumD_at g1, dx_new_t m e2 (.cons (.int _) (.cons (g2.mono s) .nil))⟩
end
end DL

set_option maxHeartbeats 2000000
/-! Data level: comprehensions over pairs; isinstance of instances; == by own __eq__ over data; getters. -/
namespace DL
open PySem PySem.Spec PyProof.Rows L2
variable [Tb]
section
variable {K : PySem.W.Frag} {pf : Bool} {ρ : List Sl} {te : TE} {tt : TT} {wi : TI} {i j : Nat} {Φ : Dt → List Sl → Prop}
/-- [f(x, y) for x, y in .. if b(x, y)] -/
theorem w_lcP (ps : List (Dt × Dt)) (b : Dt → Dt → Bool) (f : Dt → Dt → Dt) (ei : ρ[i]? = some .any) (ej : ρ[j]? = some .any) (ne : i ≠ j) (h : WI K pf wi ρ fun ds ρ1 => ρ1 = ρ ∧ ds.length ≤ 50000 ∧ ds = ps.map (fun p => .tup [p.1, p.2]) ∧
      (∀ p ∈ ps, Wt K pf tt ((ρ.set i (.dat p.1)).set j (.dat p.2)) fun c ρ2 => c = b p.1 p.2 ∧ ρ2 = (ρ.set i (.dat p.1)).set j (.dat p.2)) ∧
      (∀ p ∈ ps, b p.1 p.2 = true → Wp K pf te ((ρ.set i (.dat p.1)).set j (.dat p.2)) fun y ρ3 => y = f p.1 p.2 ∧ ρ3 = (ρ.set i (.dat p.1)).set j (.dat p.2)) ∧ Φ (.lst ((ps.filter fun p => b p.1 p.2).map fun p => f p.1 p.2)) ρ) :
    Wp K pf (tLc wi (gTup K 2 (gCons (gName i) (gCons (gName j) gNil))) tt te [i, j]) ρ Φ := by
  refine w_lc (js := [i, j]) (fun _ z => z) fun M σ H S R q => h M σ H S R fun J H1 ds ρ1 s1 S1 w ⟨e1, hz, ed, ht, he, z⟩ => q J H1 ds ρ1 s1 S1 w ?_
  subst e1 ed
  have w0 : wipeS ρ1 [i, j] = ρ1 := by
    show (ρ1.set j .any).set i .any = ρ1
    have h1 : ρ1.set j .any = ρ1 := by
      have := set_any (s := .any) ej
      rw [List.set_set] at this
      exact this
    have h2 := set_any (s := .any) ei
    rw [List.set_set] at h2
    rw [h1, h2]
  have w1 : ∀ x y, wipeS ((ρ1.set i (.dat x)).set j (.dat y)) [i, j] = ρ1 := fun x y => by
    show (((ρ1.set i (.dat x)).set j (.dat y)).set j .any).set i .any = ρ1
    have h1 : ((ρ1.set i (.dat x)).set j (.dat y)).set j .any = ρ1.set i (.dat x) := set_any (by rw [List.getElem?_set_ne ne]; exact ej)
    rw [h1, set_any ei]
  refine ⟨⟨fun k acc ρ2 => ρ2 = ρ1 ∧ acc = ((ps.take k).filter fun p => b p.1 p.2).map fun p => f p.1 p.2, ⟨w0, rfl⟩, hz, fun k d acc ρ2 hd ⟨e2, ea⟩ => ?_, fun acc ρ2 ⟨e2, ea⟩ => ?_⟩⟩
  · subst e2 ea
    rw [List.getElem?_map] at hd
    obtain ⟨p, hp, rfl⟩ := Option.map_eq_some_iff.mp hd
    have hm := List.mem_of_getElem? hp
    have tk : ps.take (k + 1) = ps.take k ++ [p] := by rw [List.take_add_one, hp]; rfl
    refine wg_tup (js := [i, j]) rfl (wgs_cons (js := [i]) (ks := [j]) (wg_name (wgs_cons (js := [j]) (ks := []) (wg_name (wgs_nil ((ht p hm).imp fun c ρ4 ⟨ec, e4⟩ => ?_))))))
    subst e4
    cases c with
    | true =>
      rw [if_pos rfl]
      refine (he p hm ec.symm).imp fun y ρ5 ⟨ey, e5⟩ => ?_
      subst e5 ey
      refine ⟨w1 _ _, ?_⟩
      rw [tk, List.filter_append, List.map_append]
      show _ = _ ++ List.map (fun p => f p.1 p.2) (List.filter (fun p => b p.1 p.2) [p])
      rw [List.filter_cons, if_pos ec.symm]
      rfl
    | false =>
      rw [if_neg Bool.false_ne_true]
      refine ⟨w1 _ _, ?_⟩
      rw [tk, List.filter_append, List.map_append]
      show _ = _ ++ List.map (fun p => f p.1 p.2) (List.filter (fun p => b p.1 p.2) [p])
      rw [List.filter_cons, if_neg (by rw [← ec]; exact Bool.false_ne_true)]
      simp
  · subst e2 ea
    rw [List.length_map, List.take_length]
    exact z
end
/-- what isinstance asks of an own class -/
structure IsiC (K : PySem.W.Frag) (C : Addr) : Prop where
  cl : Cls K C
  ha : PySem.W.findIn K (.ref C) "__class__" = some (some (.builtin "object.__class__"))
  hn : PySem.W.specialIn K (.builtin "object.__class__") "__get__" = some (some (.builtin "getset_descriptor.__get__"))
  htk : PySem.W.takesIn K (.builtin "object.__class__") = some true
  hm : PySem.W.mroIn K C (.type "object") = some true
section
variable {K : PySem.W.Frag} {Ψ : Dt → Prop} {C a : Addr} {ns : List Str} {es : List Dt} {pf : Bool} {ρ : List Sl} {Φ : Dt → List Sl → Prop}
theorem tyI {M : Md} {H : Hp} {v : V} (T : IsiC K C) (x : DX K (cut M H) v (.ins C a ns es)) : TyX K H v (.ref C) := by
  cases x with
  | ins hs hl ha => exact .base (.ins (cut_of hs).2 T.cl T.ha T.hn T.htk T.hm)
theorem rd_isiI {D : Addr} {b : Bool} (T : IsiC K C) (e : PySem.W.kitOne K (.ref C) (.ref D) = some b) (h : Ψ (.bl b)) : RD K (rIsi K) [.ins C a ns es, .cls D] Ψ := fun M H vs m xx Q q => by
  obtain ⟨v, w, rfl, x1, x2⟩ := two_v xx
  cases x2
  exact ⟨v, .ref D, _, _, b, rfl, .own D, tyI T x1, e, q _ H _ (Same.refl H) (.bl _) h⟩
theorem rd_isiO {D : Addr} {b : Bool} {d : Dt} (hd : kitD d = true) (e : PySem.W.kitOne K (.type (tyD d)) (.ref D) = some b) (h : Ψ (.bl b)) : RD K (rIsi K) [d, .cls D] Ψ := fun M H vs m xx Q q => by
  obtain ⟨v, w, rfl, x1, x2⟩ := two_v xx
  cases x2
  exact ⟨v, .ref D, _, _, b, rfl, .own D, tyX_of x1 (noTy_ne hd), e, q _ H _ (Same.refl H) (.bl _) h⟩
theorem od_ownL {W : List Dt → (Dt → Prop) → Prop} {d : Dt} {t : Value} {neg : Bool} (ht : ∀ M H y, DX K (cut M H) y d → TyX K H y t) (hn : PySem.W.notFirst K C t = true) (w : W [.ins C a ns es, d] fun z => ∃ b, z = .bl b ∧ Ψ (.bl (neg ^^ b))) :
    OD K (rOwnL K neg C (spP K W)) (.ins C a ns es) d Ψ := fun M H x y m h1 h2 Q q => by
  have ec : ∀ H', cut M.callP H' = cut M H' := cut_congr M.callP_has
  have key : spP K W [x, y] H (fun v H' => ∃ k, v = .bl k ∧ Q (.bl (neg ^^ k)) H') L2.E0 := ⟨M.callP, [_, _], _, rfl, rfl, m.callP, by rw [ec]; exact .cons h1 (.one h2), w, fun v H2 z e x ⟨b, ez, f⟩ => by
    subst ez
    exact ⟨b, x.bl_eq, q _ H2 _ e (.bl _) f⟩⟩
  have ty := ht M H y h2
  cases h1 with
  | ins hs hl ha => exact ⟨a, _, _, t, rfl, (cut_of hs).2, ty, hn, key⟩
theorem od_ownR {W : List Dt → (Dt → Prop) → Prop} {D b : Addr} {ms : List Str} {fs : List Dt} {neg : Bool} (ne : C ≠ D) (hs : PySem.W.subIn K (.ref D) (.ref C) = some true) (w : W [.ins D b ms fs, .ins C a ns es] fun z => ∃ b, z = .bl b ∧ Ψ (.bl (neg ^^ b))) :
    OD K (rOwnR K neg C D (spP K W)) (.ins C a ns es) (.ins D b ms fs) Ψ := fun M H x y m h1 h2 Q q => by
  have ec : ∀ H', cut M.callP H' = cut M H' := cut_congr M.callP_has
  have key : spP K W [y, x] H (fun v H' => ∃ k, v = .bl k ∧ Q (.bl (neg ^^ k)) H') L2.E0 := ⟨M.callP, [_, _], _, rfl, rfl, m.callP, by rw [ec]; exact .cons h2 (.one h1), w, fun v H2 z e x ⟨b, ez, f⟩ => by
    subst ez
    exact ⟨b, x.bl_eq, q _ H2 _ e (.bl _) f⟩⟩
  cases h1 with
  | ins h1 _ _ =>
    cases h2 with
    | ins h2 _ _ => exact ⟨a, b, _, _, _, _, rfl, rfl, (cut_of h1).2, (cut_of h2).2, ne, hs, key⟩
end
/-! ### getters -/
section
variable {P : Program} {w : World} {K : PySem.W.Frag} {mg : Str → Option Value} {base : Heap} {C f : Addr} {fd : FuncData} {st : Stmt} {qual x : Str} {p1 p2 p3 : Pos}
theorem ok_getF {fl : Str} (F : Fun K x qual st f fd) (S : FnScope ["self"] ["self"] (defScope st)) (hb : defBody st = [.Return (some (.Attribute (.Name "self" p1) fl p2)) p3]) (hv : (defScope st).names.lookup ("self" : Str) = some NameKind.local) (c : Cls K C) (nF : NoAttr K C fl) :
    FnOk P w K mg base CX0 1 f fd ["self"] (spP K fun ds Φ => ∃ a ns es d, ds = [.ins C a ns es] ∧ look ns es fl = some d ∧ Φ d) := by
  refine defP0 F S (fun ds Φ ⟨a, ns, es, d, e, _⟩ => by rw [e]; rfl) (by decide) fun cdv A outer s H E hr => ?_
  rw [hb]
  refine ⟨_, pss_one (ps_ret (pe_fld (pv 0 (hv := .inl hv)) rfl)), ?_⟩
  rintro ds Φ ⟨a, ns, es, d, rfl, l, q⟩
  exact ws_ret (pf := true) <| w_fld c nF <| w_var rfl ⟨a, _, _, d, rfl, l, q⟩
theorem ok_getN {q0 : Pos} {kd : Option Nat} (F : Fun K x qual st f fd) (S : FnScope ["self"] ["self"] (defScope st)) (hb : ∃ e, defBody st = [.Return (some e) p3] ∧ e = .Constant .none 0 q0) :
    FnOk P w K mg base CX0 1 f fd ["self"] (spP K fun ds Φ => ∃ d, ds = [d] ∧ Φ .non) := by
  obtain ⟨e, hb, rfl⟩ := hb
  refine defP0 F S (fun ds Φ ⟨d, e, _⟩ => by rw [e]; rfl) (by decide) fun cdv A outer s H E hr => ?_
  rw [hb]
  refine ⟨_, pss_one (ps_ret pe_non), ?_⟩
  rintro ds Φ ⟨d, rfl, q⟩
  exact ws_ret (pf := true) <| w_c (fun _ => .non) q
end
end DL

/-! Data level: dicts walked by their keys, values, pairs. -/
namespace DL
open PySem PySem.Spec PyProof.Rows L2
variable [Tb]

/-! ### a dict locked or not: data stay what they are -/
structure Lk (a : Addr) (vs : List (Key × V)) (H H' : Hp) : Prop where
  off : ∀ b, b ≠ a → H' b = H b
  here : Rd H a (.dK vs)
  there : Rd H' a (.dK vs)
theorem Lk.symm {a : Addr} {vs : List (Key × V)} {H H' : Hp} (l : Lk a vs H H') : Lk a vs H' H := ⟨fun b n => (l.off b n).symm, l.there, l.here⟩
theorem Lk.at {a b : Addr} {vs : List (Key × V)} {H H' : Hp} {o : HO} (l : Lk a vs H H') (h : H b = some o) (n1 : o ≠ .dK vs) (n2 : ∀ x, o ≠ .frz x (.dK vs)) : H' b = some o := by
  by_cases e : b = a
  · subst e
    rcases l.here with z | ⟨x, z⟩
    · rw [h] at z; exact absurd (Option.some.inj z) n1
    · rw [h] at z; exact absurd (Option.some.inj z) (n2 x)
  · rw [l.off b e]; exact h
theorem Lk.rd {a b : Addr} {vs kvs : List (Key × V)} {H H' : Hp} (l : Lk a vs H H') (h : Rd H b (.dK kvs)) : Rd H' b (.dK kvs) := by
  by_cases e : b = a
  · subst e
    have ev : kvs = vs := by
      rcases l.here with z | ⟨x, z⟩ <;> rcases h with y | ⟨w, y⟩ <;> rw [y] at z <;> cases z <;> rfl
    rw [ev]; exact l.there
  · rcases h with y | ⟨w, y⟩
    · exact .inl (by rw [l.off b e]; exact y)
    · exact .inr ⟨w, by rw [l.off b e]; exact y⟩
section
variable {K : PySem.W.Frag} {H H' : Hp} {a : Addr} {ws : List (Key × V)}
theorem Lk.sqL {b : Addr} {xs : List V} (l : Lk a ws H H') (h : SqL K H b xs) : SqL K H' b xs := by
  rcases h with (h | ⟨o, h⟩) | h
  · exact .inl (.inl (l.at h (fun z => nomatch z) (fun _ z => nomatch z)))
  · exact .inl (.inr ⟨o, l.at h (fun z => nomatch z) (fun _ z => nomatch z)⟩)
  · exact .inr h
theorem Lk.sqT {b : Addr} {xs : List V} (l : Lk a ws H H') (h : SqT K H b xs) : SqT K H' b xs := by
  rcases h with (h | ⟨o, h⟩) | h
  · exact .inl (.inl (l.at h (fun z => nomatch z) (fun _ z => nomatch z)))
  · exact .inl (.inr ⟨o, l.at h (fun z => nomatch z) (fun _ z => nomatch z)⟩)
  · exact .inr h
mutual
theorem DX.lk (l : Lk a ws H H') : ∀ {d : Dt} {v : V}, DX K H v d → DX K H' v d
  | .non, _, h => by cases h; exact .non
  | .bl _, _, h => by cases h; exact .bl _
  | .int _, _, h => by cases h; exact .int _
  | .str _, _, h => by cases h; exact .str _
  | .ty _, _, h => by cases h; exact .ty _
  | .lst ds, _, h => by
    cases h with
    | lst hs ha => exact .lst (l.sqL hs) (DXs.lk l (ds := ds) ha)
  | .tup ds, _, h => by
    cases h with
    | tup hs ha => exact .tup (l.sqT hs) (DXs.lk l (ds := ds) ha)
  | .dct _ ds, _, h => by
    cases h with
    | dct hs ha => exact .dct (l.rd hs) (DXk.lk l (ds := ds) ha)
  | .ins _ _ _ ds, _, h => by
    cases h with
    | ins hs hl ha => exact .ins (l.at hs (fun z => nomatch z) (fun _ z => nomatch z)) hl (DXs.lk l (ds := ds) ha)
  | .cls _, _, h => by cases h; exact .cls _
  | .exc _ _ _ ds, _, h => by
    cases h with
    | exc hs hd hl ha => exact .exc (l.at hs (fun z => nomatch z) (fun _ z => nomatch z)) (l.at hd (fun z => nomatch z) (fun _ z => nomatch z)) hl (DXs.lk l (ds := ds) ha)
    | exc0 hs => exact .exc0 (l.at hs (fun z => nomatch z) (fun _ z => nomatch z))
theorem DXs.lk (l : Lk a ws H H') : ∀ {ds : List Dt} {vs : List V}, DXs K H vs ds → DXs K H' vs ds
  | [], _, h => by cases h; exact .nil
  | d :: ds, _, h => by
    cases h with
    | cons h1 h2 => exact .cons (DX.lk l (d := d) h1) (DXs.lk l (ds := ds) h2)
theorem DXk.lk (l : Lk a ws H H') : ∀ {ds : List (Key × Dt)} {vs : List (Key × V)}, DXk K H vs ds → DXk K H' vs ds
  | [], _, h => by cases h; exact .nil
  | (k, d) :: ds, _, h => by
    cases h with
    | cons h1 h2 => exact .cons (DX.lk l (d := d) h1) (DXk.lk l (ds := ds) h2)
end
end
theorem Lk.cut {a : Addr} {ws : List (Key × V)} {M : Md} {H H' : Hp} (l : Lk a ws H H') (n : ¬ M.has a) : Lk a ws (DL.cut M H) (DL.cut M H') := by
  refine ⟨fun b e => ?_, ?_, ?_⟩
  · unfold DL.cut
    rw [l.off b e]
  · rcases l.here with z | ⟨x, z⟩
    · exact .inl (cut_at n z)
    · exact .inr ⟨x, cut_at n z⟩
  · rcases l.there with z | ⟨x, z⟩
    · exact .inl (cut_at n z)
    · exact .inr ⟨x, cut_at n z⟩
section
variable {K : PySem.W.Frag} {M : Md} {H H' : Hp} {σ : L2.St} {ρ : List Sl} {a : Addr} {ws : List (Key × V)}
theorem Sd.lk (S : Sd K M H σ ρ) (l : Lk a ws H H') (n : ¬ M.has a) : Sd K M H' σ ρ := by
  have ne : ∀ b, M.has b → b ≠ a := fun b hb e => n (e ▸ hb)
  have lc := l.cut n
  refine ⟨S.len, S.olen, ⟨fun b hb => by rw [l.off b (ne b hb)]; exact S.mok.live b hb, S.mok.pF, S.mok.FO, S.mok.nd, fun t ht => ?_⟩, fun i s h => ?_⟩
  · have ha : M.inP t.1 := .inr ⟨t, ht, rfl⟩
    obtain ⟨ps, z1, z2, z3⟩ := S.mok.tb t ht
    refine ⟨ps, by rw [l.off _ (ne _ (.inl ha))]; exact z1, z2, fun pos cv hc => ?_⟩
    obtain ⟨c, e1, e2⟩ := z3 pos cv hc
    refine ⟨c, e1, ?_⟩
    have nca : c ≠ a := fun e => by
      have q := (cut_of e2).2
      rw [e] at q
      rcases l.here with w | ⟨x, w⟩ <;> rw [w] at q <;> cases q
    rw [lc.off c nca]; exact e2
  obtain ⟨o, h1, h2⟩ := S.ok i s h
  refine ⟨o, h1, ?_⟩
  have hO : ∀ {j : Nat} {b : Addr}, M.O[j]? = some (some b) → M.has b := fun e => .inr (.inr (List.mem_of_getElem? e))
  cases s with
  | any => trivial
  | dat d => obtain ⟨v, a1, a2⟩ := h2; exact ⟨v, a1, a2.lk lc⟩
  | val u d => obtain ⟨a1, a2⟩ := h2; exact ⟨a1, a2.lk lc⟩
  | own es => obtain ⟨l', vs', a1, a2, a3, a4⟩ := h2; exact ⟨l', vs', a1, a2, by rw [l.off _ (ne _ (hO a2))]; exact a3, a4.lk lc⟩
  | obj C0 b0 ns0 es => obtain ⟨l', dx0, vs', a1, a2, a3, a5, a4⟩ := h2; exact ⟨l', dx0, vs', a1, a2, by rw [l.off _ (ne _ (hO a2))]; exact a3, a5, a4.lk lc⟩
  | ownd es => obtain ⟨l', vs', a1, a2, a3, a4⟩ := h2; exact ⟨l', vs', a1, a2, by rw [l.off _ (ne _ (hO a2))]; exact a3, a4.lk lc⟩
  | pen m =>
    obtain ⟨p', a1, a2, l', ns, c, g, b1, b2, b3⟩ := h2
    exact ⟨p', a1, a2, l', ns, c, g, by rw [l.off _ (ne _ (.inl (.inl a2)))]; exact b1, lc.sqL b2, b3⟩
  | pown es => obtain ⟨p', vs', a1, a2, a3, a4⟩ := h2; exact ⟨p', vs', a1, a2, by rw [l.off _ (ne _ (.inl (.inl a2)))]; exact a3, a4.lk lc⟩
theorem lk_in {o : Obj} (h : H a = some (.dK ws)) : Lk a ws H (upd H a (.frz o (.dK ws))) := ⟨fun b e => upd_ne e, .inl h, .inr ⟨o, upd_same⟩⟩
theorem lk_out {o : Obj} (h : H a = some (.frz o (.dK ws))) : Lk a ws H (upd H a (.dK ws)) := ⟨fun b e => upd_ne e, .inr ⟨o, h⟩, .inl upd_same⟩
/-- from the locked heap's step to the plain heap's -/
theorem Stp.lk {M' : Md} {H2 : Hp} {o : Obj} (h : H a = some (.dK ws)) (n : ¬ M.has a) (s : Stp M (upd H a (.frz o (.dK ws))) M' H2) : H2 a = some (.frz o (.dK ws)) ∧ ¬ M'.has a ∧ Stp M H M' (upd H2 a (.dK ws)) := by
  obtain ⟨h1, h2⟩ := s.keep a _ upd_same (fun z => n (.inl z)) (fun z => n (.inr (.inr z)))
  refine ⟨h1, fun z => ?_, s.p, s.F, fun b u e c d => ?_⟩
  · rcases z with z | z | z
    · exact n (.inl ((s.inP a).mp z))
    · exact n (.inr (.inl (by rw [← s.F]; exact z)))
    · exact h2 z
  · by_cases eb : b = a
    · subst eb
      rw [h] at e
      exact ⟨by rw [upd_same]; exact e, h2⟩
    · obtain ⟨z1, z2⟩ := s.keep b u (by rw [upd_ne eb]; exact e) c d
      exact ⟨by rw [upd_ne eb]; exact z1, z2⟩
theorem Tr.lk {pf : Bool} {H2 : Hp} {o : Obj} (h : H a = some (.dK ws)) (n : ¬ M.has a) (s : Tr pf M (upd H a (.frz o (.dK ws))) H2) : Tr pf M H (upd H2 a (.dK ws)) :=
  ⟨(Stp.lk h n s.st).2.2, fun e b u z => by
    by_cases eb : b = a
    · subst eb
      rw [upd_same, ← h]; exact z
    · rw [upd_ne eb]
      exact s.sm e b u (by rw [upd_ne eb]; exact z)⟩
end

/-! ### the reading while the dict in slot i is locked -/
/-- te read where the dict at a is locked -/
def WpK (K : PySem.W.Frag) (f : Bool) (a : Addr) (kvs : List (Key × Dt)) (te : TE) (ρ : List Sl) (Φ : Dt → List Sl → Prop) : Prop :=
  ∀ (M : Md) (σ : L2.St) (H : Hp), Sd K M H σ ρ → ¬ M.has a → (∃ o vs, H a = some (.frz o (.dK vs)) ∧ DXk K (cut M H) vs kvs) → ∀ Q : VK, (∀ v H2 d ρ', Tr f M H H2 → Sd K M H2 σ ρ' → DX K (cut M H2) v d → Φ d ρ' → Q v H2) → te σ H Q
section
variable {K : PySem.W.Frag} {pf : Bool} {ρ : List Sl} {te : TE} {tt : TT} {wi : TI} {g : TG} {i : Nat} {a : Addr} {kvs : List (Key × Dt)} {Φ : Dt → List Sl → Prop} {js : List Nat} {D : DE} {t : TS}
theorem w_lock (hs : ρ[i]? = some (.dat (.dct a kvs))) (h : WpK K pf a kvs te ρ Φ) : Wp K pf (tOr2 (tLockE te) te) ρ Φ := fun M σ H S Q q => by
  obtain ⟨v, e, v', e', x⟩ := S.ok i _ hs
  cases x with
  | @dct _ vs _ hr ha =>
    obtain ⟨n, hr'⟩ := cut_Rd hr
    rcases hr' with z | ⟨o, z⟩
    · refine .inl ⟨a, .dK vs, z, trivial, fun od => ?_⟩
      have l := lk_in (o := od) z
      refine h M σ _ (S.lk l n) n ⟨od, vs, upd_same, ha.lk (l.cut n)⟩ _ fun v H2 d ρ' s S2 x f => ?_
      obtain ⟨h1, h2, h3⟩ := Stp.lk z n s.st
      have l2 := lk_out h1
      exact ⟨h1, q v _ d ρ' (Tr.lk z n s) (S2.lk l2 h2) (x.lk (l2.cut h2)) f⟩
    · exact .inr (h M σ H S n ⟨o, vs, z, ha⟩ Q q)
/-- the keys of a dict as data -/
def keyD : Key → Dt
  | .inl n => .int n
  | .inr s => .str s
def keysD (kvs : List (Key × Dt)) : List Dt := kvs.map fun kv => keyD kv.1
def valsD (kvs : List (Key × Dt)) : List Dt := kvs.map (·.2)
def itemsD (kvs : List (Key × Dt)) : List Dt := kvs.map fun kv => .tup [keyD kv.1, kv.2]
theorem keyD_dx {H : Hp} (k : Key) : DX K H (kV k) (keyD k) := by
  cases k with
  | inl n => exact .int n
  | inr s => exact .str s
theorem DXk.at {H : Hp} {k : Key} {v : V} : ∀ {ds : List (Key × Dt)} {vs : List (Key × V)} {j : Nat}, DXk K H vs ds → vs[j]? = some (k, v) → ∃ d, ds[j]? = some (k, d) ∧ DX K H v d
  | [], _, j, h, e => by cases h; simp at e
  | (k', d) :: ds, _, 0, h, e => by
    cases h with
    | cons h1 h2 =>
      simp at e
      obtain ⟨rfl, rfl⟩ := e
      exact ⟨d, rfl, h1⟩
  | (k', d) :: ds, _, j + 1, h, e => by
    cases h with
    | cons h1 h2 =>
      obtain ⟨d', e', x⟩ := DXk.at (j := j) h2 (by simpa using e)
      exact ⟨d', by simpa using e', x⟩
theorem wk_keys {M : Md} {H : Hp} {o : Obj} {vs : List (Key × V)} (n : ¬ M.has a) (hz : H a = some (.frz o (.dK vs))) (ha : DXk K (cut M H) vs kvs) : WkOk K M H (Itk a o vs) (keysD kvs) := by
  refine ⟨vs.length, _, _, walk_keys, ?_, fun M' H' s => (cut_of (s a _ (cut_at n hz))).2, fun M' H' j x H'' s m hj y => ?_⟩
  · unfold keysD; rw [List.length_map]; exact ha.len
  · obtain ⟨rfl, k, v, hk, rfl⟩ := y
    obtain ⟨d, hd, _⟩ := ha.at hk
    exact ⟨Same.refl _, keyD k, by unfold keysD; rw [List.getElem?_map, hd]; rfl, keyD_dx k⟩
theorem wk_vals {M : Md} {H : Hp} {o : Obj} {vs : List (Key × V)} (n : ¬ M.has a) (hz : H a = some (.frz o (.dK vs))) (ha : DXk K (cut M H) vs kvs) : WkOk K M H (Itd a o vs) (valsD kvs) := by
  refine ⟨vs.length, _, _, walk_values, ?_, fun M' H' s => (cut_of (s a _ (cut_at n hz))).2, fun M' H' j x H'' s m hj y => ?_⟩
  · unfold valsD; rw [List.length_map]; exact ha.len
  · obtain ⟨rfl, k, hk⟩ := y
    obtain ⟨d, hd, xd⟩ := ha.at hk
    exact ⟨Same.refl _, d, by unfold valsD; rw [List.getElem?_map, hd]; rfl, xd.mono s⟩
theorem wk_items {M : Md} {H : Hp} {o : Obj} {vs : List (Key × V)} (n : ¬ M.has a) (hz : H a = some (.frz o (.dK vs))) (ha : DXk K (cut M H) vs kvs) : WkOk K M H (Iti a o vs) (itemsD kvs) := by
  refine ⟨vs.length, _, _, walk_items, ?_, fun M' H' s => (cut_of (s a _ (cut_at n hz))).2, fun M' H' j x H'' s m hj y => ?_⟩
  · unfold itemsD; rw [List.length_map]; exact ha.len
  · obtain ⟨T, p, r, rfl, hT, rfl, h1, h2⟩ := y
    dsimp only at h1 h2
    cases hv : vs[j]? with
    | none => rw [hv] at h1; cases h1
    | some kv =>
      obtain ⟨k, v⟩ := kv
      rw [hv] at h1 h2
      cases h1
      cases h2
      obtain ⟨d, hd, xd⟩ := ha.at hv
      have sn : Same H' (upd H' T (.tup [kV k, v])) := same_new hT
      exact ⟨sn, .tup [keyD k, d], by unfold itemsD; rw [List.getElem?_map, hd]; rfl, dx_new_t m hT (.cons (keyD_dx k) (.cons (xd.mono s) .nil))⟩
/-- [.. for k in d], d in slot i -/
theorem w_lcKeys {vs : List Nat} (hs : ρ[i]? = some (.dat (.dct a kvs))) (hjs : ∀ j ∈ js, j ∈ vs) (h : LcI K pf g js tt te vs (fun es ρ' => Φ (.lst es) ρ') (keysD kvs) ρ) :
    Wp K pf (tOr2 (tLockE (tLc (iKeys (tVar i)) g tt te vs)) (tLc (iKeys (tVar i)) g tt te vs)) ρ Φ :=
  w_lock hs fun M σ H S n ⟨o, ws, hz, ha⟩ Q q => by
    obtain ⟨v, e, v', e', x⟩ := S.ok i _ hs
    subst e'
    cases x with
    | dct hr _ =>
      refine lc_at hjs M σ H (fun R r => ⟨_, e, a, o, rfl, .inl ⟨ws, hz, r _ H _ ρ (Tr.refl pf M H) S (wk_keys n hz ha) h⟩⟩) Q fun q0 H2 acc ads ρ0 h0 tr hD xa S2 nq f => ?_
      exact q (.ref q0) H2 (.lst ads) _ tr S2.back (.lst (.inl (.inl (cut_at nq hD))) (xa.mono (cut_le has_aside))) f
/-- [.. for x in d.values()] -/
theorem w_lcVals {vs : List Nat} (hs : ρ[i]? = some (.dat (.dct a kvs))) (hjs : ∀ j ∈ js, j ∈ vs) (h : LcI K pf g js tt te vs (fun es ρ' => Φ (.lst es) ρ') (valsD kvs) ρ) :
    Wp K pf (tOr2 (tLockE (tLc (iVals (tVar i)) g tt te vs)) (tLc (iVals (tVar i)) g tt te vs)) ρ Φ :=
  w_lock hs fun M σ H S n ⟨o, ws, hz, ha⟩ Q q => by
    obtain ⟨v, e, v', e', x⟩ := S.ok i _ hs
    subst e'
    cases x with
    | dct hr _ =>
      refine lc_at hjs M σ H (fun R r => ⟨_, e, a, o, ws, rfl, hz, r _ H _ ρ (Tr.refl pf M H) S (wk_vals n hz ha) h⟩) Q fun q0 H2 acc ads ρ0 h0 tr hD xa S2 nq f => ?_
      exact q (.ref q0) H2 (.lst ads) _ tr S2.back (.lst (.inl (.inl (cut_at nq hD))) (xa.mono (cut_le has_aside))) f
/-- [.. for k, x in d.items()] -/
theorem w_lcItems {vs : List Nat} (hs : ρ[i]? = some (.dat (.dct a kvs))) (hjs : ∀ j ∈ js, j ∈ vs) (h : LcI K pf g js tt te vs (fun es ρ' => Φ (.lst es) ρ') (itemsD kvs) ρ) :
    Wp K pf (tOr2 (tLockE (tLc (iItems (tVar i)) g tt te vs)) (tLc (iItems (tVar i)) g tt te vs)) ρ Φ :=
  w_lock hs fun M σ H S n ⟨o, ws, hz, ha⟩ Q q => by
    obtain ⟨v, e, v', e', x⟩ := S.ok i _ hs
    subst e'
    cases x with
    | dct hr _ =>
      refine lc_at hjs M σ H (fun R r => ⟨_, e, a, o, ws, rfl, hz, r _ H _ ρ (Tr.refl pf M H) S (wk_items n hz ha) h⟩) Q fun q0 H2 acc ads ρ0 h0 tr hD xa S2 nq f => ?_
      exact q (.ref q0) H2 (.lst ads) _ tr S2.back (.lst (.inl (.inl (cut_at nq hD))) (xa.mono (cut_le has_aside))) f
end
/-! ### for over a dict -/
def tOrS (t1 t2 : TS) : TS := fun D σ H => t1 D σ H ∨ t2 D σ H
theorem ps_or2 {X : Cx} {st : Stmt} {t1 t2 : TS} (h1 : PS X st t1) (h2 : PS X st t2) : PS X st (tOrS t1 t2) := ⟨fun pins s σ H D I q => q.elim (h1.run pins s σ H D I) (h2.run pins s σ H D I)⟩
section
variable {K : PySem.W.Frag} {pf : Bool} {ρ : List Sl} {te : TE} {g : TG} {i : Nat} {a : Addr} {kvs : List (Key × Dt)} {js : List Nat} {D : DE} {t : TS}
theorem ws_lock (hx : ∀ C ns es, ¬ D.xd C ns es) (hs : ρ[i]? = some (.dat (.dct a kvs)))
    (h : ∀ (M : Md) (σ : L2.St) (H : Hp), Sd K M H σ ρ → ¬ M.has a → (∃ o vs, H a = some (.frz o (.dK vs)) ∧ DXk K (cut M H) vs kvs) → ∀ E, EOk K M H E D → t E σ H) : Ws K (tOrS (tLock t) t) ρ D := fun M σ H S E k => by
  obtain ⟨v, e, v', e', x⟩ := S.ok i _ hs
  cases x with
  | @dct _ vs _ hr ha =>
    obtain ⟨n, hr'⟩ := cut_Rd hr
    rcases hr' with z | ⟨o, z⟩
    · refine .inl ⟨a, .dK vs, z, trivial, fun od => ?_⟩
      have l := lk_in (o := od) z
      have fin : ∀ {M' : Md} {H2 : Hp} {σ' : L2.St} {ρ' : List Sl}, Stp M (upd H a (.frz od (.dK vs))) M' H2 → Sd K M' H2 σ' ρ' → H2 a = some (.frz od (.dK vs)) ∧ Stp M H M' (upd H2 a (.dK vs)) ∧ Sd K M' (upd H2 a (.dK vs)) σ' ρ' ∧ Lk a vs (cut M' H2) (cut M' (upd H2 a (.dK vs))) := fun s S2 => by
        obtain ⟨h1, h2, h3⟩ := Stp.lk z n s
        exact ⟨h1, h3, S2.lk (lk_out h1) h2, (lk_out h1).cut h2⟩
      refine h M σ _ (S.lk l n) n ⟨od, vs, upd_same, ha.lk (l.cut n)⟩ _ ⟨fun M' σ' H' ρ' s S2 f => ?_, fun M' v H' d ρ' σ' s S2 x f => ?_, fun M' σ' H' ρ' s S2 f => ?_, fun M' σ' H' ρ' s S2 f => ?_, fun M' H' C dd ns us es s _ _ _ _ f => (hx C ns es f).elim⟩
      · obtain ⟨h1, s1, S3, _⟩ := fin s S2; exact ⟨h1, k.nx M' σ' _ ρ' s1 S3 f⟩
      · obtain ⟨h1, s1, S3, lc⟩ := fin s S2; exact ⟨h1, k.rt M' v _ d ρ' σ' s1 S3 (x.lk lc) f⟩
      · obtain ⟨h1, s1, S3, _⟩ := fin s S2; exact ⟨h1, k.bk M' σ' _ ρ' s1 S3 f⟩
      · obtain ⟨h1, s1, S3, _⟩ := fin s S2; exact ⟨h1, k.ct M' σ' _ ρ' s1 S3 f⟩
    · exact .inr (h M σ H S n ⟨o, vs, z, ha⟩ E k)
/-- for k in d: .. -/
theorem ws_forKeys (hx : ∀ C ns es, ¬ D.xd C ns es) (hs : ρ[i]? = some (.dat (.dct a kvs))) (I : Nat → List Sl → Prop) (i0 : I 0 ρ)
    (turn : ∀ j d ρ2, (keysD kvs)[j]? = some d → I j ρ2 → WG K g js d ρ2 fun ρ3 => Ws K t ρ3 { D with nx := I (j + 1), ct := I (j + 1), bk := D.nx }) (fin : ∀ ρ2, I kvs.length ρ2 → D.nx ρ2) :
    Ws K (tOrS (tLock (tFor (iKeys (tVar i)) g t)) (tFor (iKeys (tVar i)) g t)) ρ D :=
  ws_lock hx hs fun M σ H S n ⟨o, ws, hz, ha⟩ E k => by
    obtain ⟨v, e, v', e', x⟩ := S.ok i _ hs
    subst e'
    cases x with
    | dct hr _ =>
      exact for_at (pf := false) (fun _ j ρ2 => I j ρ2) M σ H (fun R r => ⟨_, e, a, o, rfl, .inl ⟨ws, hz, r _ H _ ρ (Tr.refl false M H) S (wk_keys n hz ha) ⟨i0, turn, fun ρ2 z => fin ρ2 (by
        have el : (keysD kvs).length = kvs.length := List.length_map ..
        rw [el] at z; exact z)⟩⟩⟩) E k
/-- for k, x in d.items(): .. -/
theorem ws_forItems (hx : ∀ C ns es, ¬ D.xd C ns es) (hs : ρ[i]? = some (.dat (.dct a kvs))) (I : Nat → List Sl → Prop) (i0 : I 0 ρ)
    (turn : ∀ j d ρ2, (itemsD kvs)[j]? = some d → I j ρ2 → WG K g js d ρ2 fun ρ3 => Ws K t ρ3 { D with nx := I (j + 1), ct := I (j + 1), bk := D.nx }) (fin : ∀ ρ2, I kvs.length ρ2 → D.nx ρ2) :
    Ws K (tOrS (tLock (tFor (iItems (tVar i)) g t)) (tFor (iItems (tVar i)) g t)) ρ D :=
  ws_lock hx hs fun M σ H S n ⟨o, ws, hz, ha⟩ E k => by
    obtain ⟨v, e, v', e', x⟩ := S.ok i _ hs
    subst e'
    cases x with
    | dct hr _ =>
      exact for_at (pf := false) (fun _ j ρ2 => I j ρ2) M σ H (fun R r => ⟨_, e, a, o, ws, rfl, hz, r _ H _ ρ (Tr.refl false M H) S (wk_items n hz ha) ⟨i0, turn, fun ρ2 z => fin ρ2 (by
        have el : (itemsD kvs).length = kvs.length := List.length_map ..
        rw [el] at z; exact z)⟩⟩) E k
end
end DL

/-! Data level: sums, sorted of any data, list(d.values()), list(d.items()). -/
namespace DL
open PySem PySem.Spec PyProof.Rows L2
variable [Tb]

/-! ### sum of a list or a tuple of ints -/
def rSum2 (K : PySem.W.Frag) : List V → Hp → VK → Prop := fun xs H Q => ∃ (a : Addr) (ns : List Int), xs = [.ref a] ∧ (SqL K H a (ns.map V.int) ∨ SqT K H a (ns.map V.int)) ∧ Q (.int ns.sum) H
theorem sumK {X : Cx} (K : PySem.W.Frag) (e : X.K = K) (hc : X.calm = true) : CallR X (.builtin "sum") (rSum2 K) := by
  subst e
  rintro pins s σ H xs us Q I r ⟨a, ns, rfl, hs, q⟩
  rw [Vals.ref1 r]
  rcases hs with hs | hs
  · obtain ⟨its, rv, hl, _⟩ := I.list hs
    exact sum_raw (I.ok.hd hc) hl.isList rv.ints fun h' tk t' hk => ⟨.int _, H, I.kept hk, ⟨_, rfl⟩, q⟩
  · obtain ⟨its, rv, hl, _⟩ := I.tuple hs
    obtain ⟨ys, hy⟩ := rv.ints.allInts.items
    have hn : numsOf its.toArray.toList = ns := by rw [show its.toArray.toList = its from rfl, rv.ints.numsOf]
    rw [hy] at hl hn
    rw [nums_intItems] at hn
    refine PySem.W.ktm_sumG (I.ok.hd hc) hl fun h' tk t' hk => ?_
    rw [preSum_eq, List.take_of_length_le (by simp), hn]
    exact ⟨.int _, H, I.kept hk, ⟨_, rfl⟩, q⟩
section
variable {K : PySem.W.Frag} {Ψ : Dt → Prop} {ns : List Int}
theorem rd_sumL (h : Ψ (.int ns.sum)) : RD K (rSum2 K) [.lst (ns.map Dt.int)] Ψ := fun M H vs m xx Q q => by
  obtain ⟨v, rfl, x⟩ := one_v xx
  cases x with
  | lst hs ha => rw [ha.ints] at hs; exact ⟨_, ns, rfl, .inl ((cut_sub M H).seq hs), q _ H _ (Same.refl H) (.int _) h⟩
theorem rd_sumT (h : Ψ (.int ns.sum)) : RD K (rSum2 K) [.tup (ns.map Dt.int)] Ψ := fun M H vs m xx Q q => by
  obtain ⟨v, rfl, x⟩ := one_v xx
  cases x with
  | tup hs ha => rw [ha.ints] at hs; exact ⟨_, ns, rfl, .inr (same_T (cut_sub M H) hs), q _ H _ (Same.refl H) (.int _) h⟩
end

/-! ### sorted of any data that are alike -/
def sortD (ds : List Dt) : List Dt := ds.mergeSort (PySem.W.dataLe false Dt.py)
structure Srt (ds : List Dt) : Prop where
  pure : seqss ds = true
  alike : PySem.W.AllAlike (ds.map Dt.py)
  can : PySem.W.Sortable (ds.map Dt.py)
  len : ds.length ≤ 100000
  depth : ∀ d ∈ ds, d.py.depth ≤ 30
def rSortD (K : PySem.W.Frag) : List V → Hp → VK → Prop := fun xs H Q => ∃ (H0 : Hp) (a : Addr) (ds : List Dt), xs = [.ref a] ∧ Same H0 H ∧ DX K H0 (.ref a) (.lst ds) ∧ Srt ds ∧ ∀ p ys, H p = none → DXs K H0 ys (sortD ds) → Q (.ref p) (upd H p (.lst ys))
theorem each_dx {X : Cx} {H : Hp} : ∀ {xs : List V} {us : List Value} {ds : List Dt}, Vals xs us → DXs X.K H xs ds → PySem.W.EachIs (fun u d => ∃ x, RelV x u ∧ DX X.K H x d) us ds
  | _, _, [], r, h => by cases h; cases r; exact .nil
  | _, _, d :: ds, r, h => by
    cases h with
    | cons h1 h2 =>
      cases r with
      | cons r1 r2 => exact .cons ⟨_, r1, h1⟩ (each_dx r2 h2)
theorem dx_each {X : Cx} {H : Hp} : ∀ {us : List Value} {ds : List Dt}, PySem.W.EachIs (fun u d => ∃ x, RelV x u ∧ DX X.K H x d) us ds → ∃ xs, Vals xs us ∧ DXs X.K H xs ds
  | _, _, .nil => ⟨[], .nil, .nil⟩
  | _, _, .cons ⟨x, r, h⟩ t => let ⟨xs, rs, hs⟩ := dx_each t; ⟨x :: xs, .cons r rs, .cons h hs⟩
theorem seqss_mem : ∀ {ds : List Dt} {d : Dt}, seqss ds = true → d ∈ ds → d.seqs = true
  | e :: ds, d, h, m => by
    simp only [seqss, Bool.and_eq_true] at h
    rcases List.mem_cons.mp m with z | z
    · rw [z]; exact h.1
    · exact seqss_mem h.2 z
theorem each_reads {X : Cx} {pins : List (Addr × Obj)} {σ : L2.St} {H H0 : Hp} {s : Shared} (I : Inv X pins σ H s) (e : Same H0 H) : ∀ {us : List Value} {ds : List Dt}, PySem.W.EachIs (fun u d => ∃ x, RelV x u ∧ DX X.K H0 x d) us ds → seqss ds = true → PySem.W.EachIs (fun u d => ∃ as, Reads s.heap u d.py as) us ds
  | _, _, .nil, _ => .nil
  | _, _, .cons (b := d) ⟨x, r, h⟩ t, z => by
    simp only [seqss, Bool.and_eq_true] at z
    exact .cons (Dp.reads I _ _ _ ((h.mono e).dp z.1) r) (each_reads I e t z.2)
theorem sortedK {X : Cx} (K : PySem.W.Frag) (e : X.K = K) (hu : X.A.units + 64 < cLine) : CallR X (.builtin "sorted") (rSortD K) := by
  subst e
  rintro pins s σ H xs us Q I r ⟨H0, a, ds, rfl, e0, hx, S, q⟩
  rw [Vals.ref1 r]
  cases hx with
  | @lst _ ys _ hs ha =>
    obtain ⟨its, rv, hl, _⟩ := I.list (e0.seq hs)
    have e := each_dx (X := X) rv ha
    have hlen : its.length = ds.length := e.length
    refine PySem.W.sorted_data (enc := Dt.py) hl.isList e (each_reads I e0 e S.pure) S.alike S.can (Nat.le_trans S.len (by decide)) (fun d hd => ?_) fun out ho ee => ?_
    · have := S.depth d hd; omega
    · obtain ⟨zs, rz, hz⟩ := dx_each ee
      obtain ⟨n, hn⟩ := sortedAll_at s.heap its out.toArray
      have hzl : zs.length ≤ sizeLine := by
        rw [hz.len, List.length_mergeSort]
        exact Nat.le_trans S.len (by decide)
      exact ⟨.ref (s.heap.objs.size + 1), upd H (s.heap.objs.size + 1) (.lst zs), I.laid (t' := s.toks) (fun b o z => sortedAll_old z) (Nat.le_succ _) (show ObjOk X.prog X.w _ _ _ (.lst zs) from ⟨hzl, out, n, rz, hn⟩), rfl,
        q _ zs (I.hok.fresh (Nat.le_succ _)) hz⟩
section
variable {K : PySem.W.Frag} {Ψ : Dt → Prop} {ds : List Dt}
theorem rd_sorted (S : Srt ds) (h : Ψ (.lst (sortD ds))) : RD K (rSortD K) [.lst ds] Ψ := fun M H vs m xx Q q => by
  obtain ⟨v, rfl, x⟩ := one_v xx
  obtain ⟨a, rfl⟩ : ∃ a, v = .ref a := by cases x; exact ⟨_, rfl⟩
  exact ⟨cut M H, a, ds, rfl, cut_sub M H, x, S, fun p ys hp hy => q _ _ (.lst (sortD ds)) (same_new hp) (dx_new_l m hp hy) h⟩
end
end DL

/-! Data level: list(d.values()), list(d.items()), instances called, great numbers, own dicts written at any text, [..] and {} side by side. -/
namespace DL
open PySem PySem.Spec PyProof.Rows L2
variable [Tb]

/-! ### list(d.values()) -/
def rValsL (x : V) (H : Hp) (Q : VK) : Prop := ∃ (d : Addr) (kvs : List (Key × V)), x = .ref d ∧ Rd H d (.dK kvs) ∧ ∀ p, H p = none → Q (.ref p) (upd H p (.lst (kvs.map (·.2))))
def tListVals (te : TE) : TE := fun σ H Q => te σ H fun x H1 => rValsL x H1 Q
section
variable {X : Cx} {e : Expr} {te : TE} {p apos cpos pos : Pos}
theorem vals_of {kvs : List (Key × V)} {vs : List (Key × Value)} (kv : KV kvs vs) : ∀ {acc : List Value}, acc.length = vs.length → (∀ (j : Nat) (v : Value), acc[j]? = some v → ∃ k, vs[j]? = some (k, v)) → Vals (kvs.map (·.2)) acc := by
  induction kv with
  | nil =>
    intro acc hl _
    cases acc with
    | nil => exact .nil
    | cons _ _ => cases hl
  | @cons q w kvs vs h t ih =>
    intro acc hl ha
    cases acc with
    | nil => cases hl
    | cons u us =>
      obtain ⟨k, e⟩ := ha 0 u rfl
      have e : w = (k, u) := Option.some.inj e
      refine .cons ?_ (ih (Nat.succ.inj hl) fun j v z => ha (j + 1) v z)
      have := h.2
      rw [e] at this
      exact this
/-- what a view of the dict d is made as -/
abbrev viewO (cls : String) (d : Addr) : Obj := { cls := .type cls, data := .fields #[.ref d] }
/-- list(e.m()), m a view of dicts -/
theorem pe_listView {m : Str} {id cls : String} {B : Builtin} {G : V → Hp → VK → Prop} (slot : Slot "dict" m id) (ty : typeOf (.builtin id) = pure (.type "method_descriptor")) (entry : entryFor table id = some B) (args : ∀ a, argsOk id ⟨[a], []⟩)
    (meets : ∀ d, (d == sysModules) = false → MeetsIn X.prog X.w (B ⟨[.ref d], []⟩) (fun _ R s => (∃ kvs, s.heap.DictOf (mixKind X.prog X.w) d kvs) ∧ R (.ok (.ret (.ref s.heap.objs.size))) { s with heap := s.heap.push (viewO cls d) }))
    (he : PE X e te) (hg : Gl X "list") (hm : X.mg "list" = none) (hv : bootBuiltins "list" = some (.type "list"))
    (hG : ∀ (x : V) (H : Hp) (Q : VK), G x H Q → ∃ d kvs, x = .ref d ∧ Rd H d (.dK kvs) ∧ ∀ (pins : List (Addr × Obj)) (σ : L2.St) (s : Shared) (vs : List (Key × Value)) (ep : Nat), Inv X pins σ H { s with heap := s.heap.push (viewO cls d) } → KV kvs vs → s.heap.DictAt (mixKind X.prog X.w) d vs ep → vs.length ≤ sizeLine →
      wpAny (model X.prog X.w) X.A (call (.type "list") [.ref s.heap.objs.size]) (EP X pins σ Q) X.xe { s with heap := s.heap.push (viewO cls d) })
    (hbase : attributeBase e m X.env (eval e X.env) = eval e X.env) (hline : (apos.endLine == cpos.line) = true)
    (hs : starEach [.Call (.Attribute e m apos) [] [] cpos] X.env = (false, eval (.Call (.Attribute e m apos) [] [] cpos) X.env) :: starEach [] X.env) :
    PE X (.Call (.Name "list" p) [.Call (.Attribute e m apos) [] [] cpos] [] pos) (fun σ H Q => te σ H fun x H1 => G x H1 Q) := by
  constructor
  intro pins s σ H Q I hq
  refine wpAny_Call_Name_kw (ld_blt I hg hm hv (PyProof.Rows.callWith_type1 (PyProof.Rows.args_cons ?_ hs) hs rfl))
  refine wpAny_Call_method hbase rfl hline F.plainAttrs_dict slot ty (wpAny_mono (he.run pins s σ H _ I hq) (fun u s1 z => ?_) fun _ _ z => z)
  obtain ⟨x, H1, J, r, q⟩ := z
  obtain ⟨d, kvs, rfl, rd, k⟩ := hG _ _ _ q
  cases r
  obtain ⟨hz, hs0, vs, kv, dict⟩ := rd_ok J rd
  obtain ⟨ep, at_⟩ := dict.dictAt
  refine ⟨dict.typeIs, dict.mapOf.noDict, method_meetsIn slot entry rfl (PySem.evalArgs_none ⟨rfl, dict.typeIs, args _, _, meets d hs0, ⟨vs, dict⟩, PyProof.Rows.args_nil (k pins σ s1 vs ep ?_ kv at_ (Paired.length kv ▸ hz))⟩)⟩
  exact J.kept (t' := s1.toks) fun _ _ z => Heap.get?_push_of_some _ z
theorem pe_listVals (hc : X.calm = true) (he : PE X e te) (hg : Gl X "list") (hm : X.mg "list" = none) (hv : bootBuiltins "list" = some (.type "list")) (hbase : attributeBase e "values" X.env (eval e X.env) = eval e X.env := by rfl) (hline : (apos.endLine == cpos.line) = true := by rfl)
    (hs : starEach [.Call (.Attribute e "values" apos) [] [] cpos] X.env = (false, eval (.Call (.Attribute e "values" apos) [] [] cpos) X.env) :: starEach [] X.env := by rfl) :
    PE X (.Call (.Name "list" p) [.Call (.Attribute e "values" apos) [] [] cpos] [] pos) (tListVals te) :=
  pe_listView (te := te) (G := rValsL) F.slot_dict_values F.type_dict_values F.entry_dict_values F.args_dict_values_1 (fun d => meets_dict_values _ d) he hg hm hv (fun x H Q ⟨d, kvs, e, rd, q⟩ => ⟨d, kvs, e, rd, fun pins σ s vs ep J kv at_ hz => by
    refine PySem.W.kdl_call (PySem.W.kdl_values (knd := mixKind X.prog X.w) (kvs := vs) (ep := ep)) (J.ok.hd hc) ⟨⟨_, Heap.get?_push_size _ rfl, rfl, rfl⟩, at_.push _⟩ hz fun h' tk acc c hk hS hacc => ?_
    have rv : Vals (kvs.map (·.2)) acc.toList := vals_of kv (by rw [Array.length_toList]; exact hacc.1) fun j v z => hacc.2 j v (by rw [← Array.getElem?_toList]; exact z)
    exact ⟨.ref _, _, J.laid (t' := tk) hk (Nat.le_refl _) (show ObjOk X.prog X.w _ _ _ (.lst (kvs.map (·.2))) from ⟨by rw [List.length_map, Paired.length kv]; exact hz, acc.toList, c, rv, by rw [Array.toArray_toList]; exact hS⟩), rfl, q _ (J.hok.fresh (Nat.le_refl _))⟩⟩) hbase hline hs
end
section
variable {K : PySem.W.Frag} {pf : Bool} {ρ : List Sl} {te : TE} {Φ : Dt → List Sl → Prop}
theorem DXk.vals {H : Hp} : ∀ {ds : List (Key × Dt)} {vs : List (Key × V)}, DXk K H vs ds → DXs K H (vs.map (·.2)) (valsD ds)
  | [], _, h => by cases h; exact .nil
  | (k, d) :: ds, _, h => by
    cases h with
    | cons h1 h2 => exact .cons h1 (DXk.vals h2)
theorem w_listVals (h : Wp K pf te ρ fun d ρ1 => ∃ a kvs, d = .dct a kvs ∧ Φ (.lst (valsD kvs)) ρ1) : Wp K pf (tListVals te) ρ Φ := fun M σ H S Q q =>
  h M σ H S _ fun v H1 d ρ1 s1 S1 x1 ⟨a, kvs, ed, f⟩ => by
    subst ed
    cases x1 with
    | @dct _ vs _ hr ha =>
      exact ⟨a, vs, rfl, (cut_Rd hr).2, fun p hp => q _ _ (.lst (valsD kvs)) ρ1 (s1.trans (Tr.same pf M (same_new hp))) (S1.same (same_new hp)) (dx_new_l S1.mok hp ha.vals) f⟩
end

/-! ### list(d.items()) -/
section
variable {K : PySem.W.Frag} {pf : Bool} {ρ : List Sl} {te : TE} {Φ : Dt → List Sl → Prop}
theorem paired_tups {H H0 : Hp} : ∀ {ts : List Addr} {kvs : List (Key × V)} {ds : List (Key × Dt)}, Paired (fun (t : Addr) (q : Key × V) => H t = some (.tup [kV q.1, q.2])) ts kvs → DXk K H0 kvs ds → Same H0 H → DXs K H (ts.map V.ref) (itemsD ds)
  | _, _, [], p, h, e => by cases h; cases p; exact .nil
  | _, _, (k, d) :: ds, p, h, e => by
    cases h with
    | cons h1 h2 =>
      cases p with
      | cons p1 p2 => exact .cons (.tup (.inl (.inl p1)) (.cons (keyD_dx k) (.cons (h1.mono e) .nil))) (paired_tups p2 h2 e)
end
def rItemsR (x : V) (H : Hp) (Q : VK) : Prop := ∃ (d : Addr) (kvs : List (Key × V)), x = .ref d ∧ Rd H d (.dK kvs) ∧
  ∀ (H2 : Hp) (p : Addr) (ts : List Addr), Same H H2 → H p = none → (∀ t ∈ ts, H t = none) → p ∉ ts → H2 p = some (.lst (ts.map V.ref)) → Paired (fun (t : Addr) (q : Key × V) => H2 t = some (.tup [kV q.1, q.2])) ts kvs → Q (.ref p) H2
def tListItemsR (te : TE) : TE := fun σ H Q => te σ H fun x H1 => rItemsR x H1 Q
section
variable {X : Cx} {e : Expr} {te : TE} {p apos cpos pos : Pos}
theorem pe_listItemsR (hc : X.calm = true) (he : PE X e te) (hg : Gl X "list") (hm : X.mg "list" = none) (hv : bootBuiltins "list" = some (.type "list")) (hbase : attributeBase e "items" X.env (eval e X.env) = eval e X.env := by rfl) (hline : (apos.endLine == cpos.line) = true := by rfl)
    (hs : starEach [.Call (.Attribute e "items" apos) [] [] cpos] X.env = (false, eval (.Call (.Attribute e "items" apos) [] [] cpos) X.env) :: starEach [] X.env := by rfl) :
    PE X (.Call (.Name "list" p) [.Call (.Attribute e "items" apos) [] [] cpos] [] pos) (tListItemsR te) :=
  pe_listView (te := te) (G := rItemsR) F.slot_dict_items F.type_dict_items F.entry_dict_items F.args_dict_items_1 (fun d => meets_dict_items _ d) he hg hm hv (fun x H Q ⟨d, kvs, e, rd, q⟩ => ⟨d, kvs, e, rd, fun pins σ s vs ep J kv at_ hz => by
    refine PySem.W.kdx_call (knd := mixKind X.prog X.w) (kvs := vs) (ep := ep) (J.ok.hd hc) ⟨_, Heap.get?_push_size _ rfl, rfl, rfl⟩ (at_.push _) hz fun h' tk acc c as hk hS hl hG hacc => ?_
    obtain ⟨H2, k1, k2, k3, k4, k5, k6, J2⟩ := LiI.items_laid (tk := tk) J (Paired.length kv ▸ hz) kv hk hS hl hG hacc
    exact ⟨.ref _, H2, J2, rfl, q H2 _ as k1 k2 k3 k4 k5 k6⟩⟩) hbase hline hs
end
section
variable {K : PySem.W.Frag} {pf : Bool} {ρ : List Sl} {te : TE} {Φ : Dt → List Sl → Prop}
theorem w_listItems (h : Wp K pf te ρ fun d ρ1 => ∃ a kvs, d = .dct a kvs ∧ Φ (.lst (itemsD kvs)) ρ1) : Wp K pf (tListItemsR te) ρ Φ := fun M σ H S Q q =>
  h M σ H S _ fun v H1 d ρ1 s1 S1 x1 ⟨a, kvs, ed, f⟩ => by
    subst ed
    cases x1 with
    | @dct _ vs _ hr ha =>
      refine ⟨a, vs, rfl, (cut_Rd hr).2, fun H2 p ts e hp ht np h1 h2 => q _ _ (.lst (itemsD kvs)) ρ1 (s1.trans (Tr.same pf M e)) (S1.same e) ?_ f⟩
      have nt : ∀ t ∈ ts, ¬ M.has t := fun t m => S1.mok.new (ht t m)
      have cutp : Paired (fun (t : Addr) (q : Key × V) => cut M H2 t = some (.tup [kV q.1, q.2])) ts vs := by
        have : ∀ {ts : List Addr} {vs : List (Key × V)}, (∀ t ∈ ts, ¬ M.has t) → Paired (fun (t : Addr) (q : Key × V) => H2 t = some (.tup [kV q.1, q.2])) ts vs → Paired (fun (t : Addr) (q : Key × V) => cut M H2 t = some (.tup [kV q.1, q.2])) ts vs := by
          intro ts vs n pr
          induction pr with
          | nil => exact .nil
          | cons z _ ih => exact .cons (cut_at (n _ List.mem_cons_self) z) (ih fun t m => n t (List.mem_cons_of_mem _ m))
        exact this nt h2
      exact .lst (.inl (.inl (cut_at (S1.mok.new hp) h1))) (paired_tups cutp ha (cut_same M e))
end

/-! ### an instance called -/
/-- f(e, ..), f an instance of the class at C -/
def tCallI (C : Addr) (sp : Sp) (dvs : List V) (E : XK) (tf : TE) (t : TA) : TE := fun σ H Q => tf σ H fun y H1 => ∃ a, y = .ref a ∧ t σ H1 fun vs H2 => (∃ dx fs, H2 a = some (.ins C dx fs)) ∧ sp (.ref a :: (vs ++ dvs)) H2 Q E
/-- f(k = v, ..) -/
def tCallIK (C : Addr) (sp : Sp) (m : Nat) (gV : List V → List V → List V) (E : XK) (tf : TE) (tk : TA) : TE := fun σ H Q => tf σ H fun y H1 => ∃ a, y = .ref a ∧ tk σ H1 fun zs H2 => zs.length = m ∧ (∃ dx fs, H2 a = some (.ins C dx fs)) ∧ sp (gV [.ref a] zs) H2 Q E
theorem callK_of {M : Model} {A : Around} {E : Value → Shared → Prop} {s : Shared} {a : Addr} {pos : Pos} {Q : Value → Shared → Prop} {args : List (Bool × Sem Value)} {kws : List (Option Str × Sem Value)} (hpl : (args.any (·.1) || kws.any (·.1.isNone)) = false)
    (h : wpAny M A (evalArgs (.ref a) true args kws) (fun z s1 => (∃ C ox od, PySem.W.InstAt s1.heap a ox C od ∧ ox.data = .plain) ∧ wpAny M A (call (.ref a) ([] ++ z.pos) z.kw) Q E s1) E s) : wpAny M A (callWith pos (.ref a) [] args kws) Q E s := by
  refine wpAny_bind (wpAny_holding (wpAny_mono h (fun z s1 y => wpAny_bind (wpAny_standAt ?_)) fun _ _ y => y))
  obtain ⟨⟨C, ox, od, J, hd⟩, y⟩ := y
  rw [hpl]
  exact wpAny_bind ((PySem.W.kco_keeper (M := M) J hd).here (wpAny_bind (wpAny_mono (wpAny_operateT y) (fun r s2 q => wpAny_bind (wpAny_holding (wpAny_point (wpAny_pure q)))) fun _ _ z => z)))
section
variable {X : Cx} {CX : CXT} {k n : Nat} {C f : Addr} {fd : FuncData} {ps ks : List Str} {sp : Sp} {E : XK} {pos : Pos} {fe e : Expr} {es : List Expr} {kws : List Keyword} {tf : TE} {t tk : TA} {dvs : List V} {ds : List Value} {g : List Value → List Value → List Value} {gV : List V → List V → List V}
theorem run_callI {pins : List (Addr × Obj)} {σ : L2.St} {H : Hp} {s : Shared} {Q : VK} {a : Addr} {as bs : List Value} {kw : List (Str × Value)} {vs : List V} (c : StX.CallO X.K C f) (F : FnOk X.prog X.w X.K X.mg X.base CX k f fd ps sp) (hr : Room k X.A)
    (hb : BindsTo s fd ⟨.ref a :: as, kw⟩ (ps.zip bs)) (hx : Passes CX X E) (I : Inv X pins σ H s) (hi : ∃ dx fs, H a = some (.ins C dx fs)) (r : Vals vs bs) (h : sp vs H Q E) : wpAny (model X.prog X.w) X.A (call (.ref a) as kw) (EP X pins σ Q) X.xe s := by
  obtain ⟨dx, fs, hi⟩ := hi
  obtain ⟨mA, O, _⟩ := ins_get I.hok hi
  obtain ⟨od, J, _⟩ := O.look
  refine wpAny_call (PySem.W.kco_code I.kIn J rfl c.at_ c.fn c.fi (codeAny_mono (F.run X.A X.stack s H ⟨.ref a :: as, kw⟩ bs vs Q E hr I.env0 hb r h) ?_))
  rintro (e | fl) s' hq
  · exact hx pins σ H s e s' I hq
  cases fl with
  | ret u => exact I.after hq
  | _ => exact hq.elim
theorem inst_of {pins : List (Addr × Obj)} {σ : L2.St} {H : Hp} {s : Shared} {a : Addr} (I : Inv X pins σ H s) (hi : ∃ dx fs, H a = some (.ins C dx fs)) : ∃ C ox od, PySem.W.InstAt s.heap a ox C od ∧ ox.data = .plain := by
  obtain ⟨dx, fs, hi⟩ := hi
  obtain ⟨mA, O, _⟩ := ins_get I.hok hi
  obtain ⟨od, J, _⟩ := O.look
  exact ⟨C, _, od, J, rfl⟩
theorem pe_callI (hf : PE X fe tf) (c : StX.CallO X.K C f) (F : FnOk X.prog X.w X.K X.mg X.base CX k f fd ps sp) (hr : Room k X.A) (hb : Binds X.K fd ps ds) (hd : Vals dvs ds) (hx : Passes CX X E) (ha : PA X (e :: es) t)
    (ht : eval (.Call fe (e :: es) [] pos) X.env = (do callWith pos (← eval fe X.env) [] (backTo pos (starEach (e :: es) X.env)) (backToKw pos (keywordEach [] X.env))) := by rfl)
    (he : starEach (e :: es) X.env = (false, eval e X.env) :: starEach es X.env := by rfl) (hpl : (backTo pos (starEach es X.env)).any (·.1) = false := by rfl) : PE X (.Call fe (e :: es) [] pos) (tCallI C sp dvs E tf t) := by
  constructor
  intro pins s σ H Q I h
  refine PyProof.Rows.Call_ (thn (hf.run pins s σ H _ I h) ?_) ht
  rintro u s1 ⟨y, H1, I1, ry, a, ey, q⟩
  subst ey
  obtain rfl : u = Value.ref a := ry
  refine StX.callO_with (thn (ha.run pos pins s1 σ H1 _ I1 q) ?_) he hpl
  rintro us s2 ⟨vs, H2, I2, r, hi, q2⟩
  have r2 := (show Vals (.ref a :: vs) (.ref a :: us) from .cons rfl r).append hd
  have hl : (Value.ref a :: us ++ ds).length = ps.length := r2.length.symm.trans (F.len _ _ _ _ q2)
  exact ⟨inst_of I2 hi, run_callI (as := us) c F hr (hb s2 _ I2.kIn hl) hx I2 hi r2 q2⟩
theorem pe_callIK (hf : PE X fe tf) (c : StX.CallO X.K C f) (F : FnOk X.prog X.w X.K X.mg X.base CX k f fd ps sp) (hr : Room k X.A) (hb : KBn X.K fd ps 1 ks g gV) (hx : Passes CX X E) (hkw : PK X kws tk)
    (ht : eval (.Call fe [] kws pos) X.env = (do callWith pos (← eval fe X.env) [] (backTo pos (starEach [] X.env)) (backToKw pos (keywordEach kws X.env))) := by rfl)
    (hall : (backToKw pos (keywordEach kws X.env)).all (·.1.isSome) = true := by rfl) (hks : (backToKw pos (keywordEach kws X.env)).filterMap (·.1) = ks := by rfl)
    (hpl : ((backTo pos (starEach [] X.env)).any (·.1) || (backToKw pos (keywordEach kws X.env)).any (·.1.isNone)) = false := by rfl) : PE X (.Call fe [] kws pos) (tCallIK C sp ks.length gV E tf tk) := by
  constructor
  intro pins s σ H Q I h
  rw [ht]
  refine wpAny_bind (thn (hf.run pins s σ H _ I h) ?_)
  rintro u s1 ⟨y, H1, I1, ry, a, ey, q⟩
  subst ey
  obtain rfl : u = Value.ref a := ry
  refine callK_of hpl (PyProof.Rows.evalArgs_kw2_nil hall (thn (hkw.run pos pins s1 σ H1 _ I1 q) ?_))
  rintro ws s2 ⟨zs, H2, I2, rz, l, hi, q2⟩
  rw [hks]
  exact ⟨inst_of I2 hi, run_callI (as := []) c F hr (hb.to s2 [.ref a] ws I2.kIn rfl (rz.length.symm.trans l)) hx I2 hi (hb.rel (vs := [.ref a]) (.cons rfl .nil) rz) q2⟩
end
section
variable {K : PySem.W.Frag} {pf : Bool} {ρ : List Sl} {tf : TE} {tr tk : TA} {Φ : Dt → List Sl → Prop} {C : Addr} {E : XK}
theorem w_callI {W : List Dt → (Dt → Prop) → Prop} {dvs : List V} {des : List Dt} (hd : ∀ H, DXs K H dvs des) (h : Wp K pf tf ρ fun d ρ1 => ∃ a ns es, d = .ins C a ns es ∧ Wa K pf tr ρ1 fun ds ρ2 => W (.ins C a ns es :: (ds ++ des)) fun e => Φ e ρ2) : Wp K pf (tCallI C (spP K W) dvs E tf tr) ρ Φ := fun M σ H S Q q =>
  h M σ H S _ fun v H1 d ρ1 s1 S1 x1 ⟨a, ns, es, ed, k⟩ => by
    subst ed
    obtain ⟨rfl, dx, us, hi, hl⟩ := ins_keep (H2 := H1) x1
    refine ⟨a, rfl, k M σ H1 S1 _ fun vs H2 ds ρ2 s2 S2 x2 w => ?_⟩
    have x1' := x1.mono s2.dx
    obtain ⟨_, dx2, us2, hi2, _⟩ := ins_keep (H2 := H2) x1'
    have ec : ∀ H', cut M.callP H' = cut M H' := cut_congr M.callP_has
    refine ⟨⟨dx2, _, hi2⟩, M.callP, _, _, rfl, rfl, S2.mok.callP, ?_, w, fun v H4 e s x f => q v H4 e ρ2 ((s1.trans s2).trans (Tr.same pf M s)) (S2.same s) (by rw [ec] at x; exact x) f⟩
    rw [ec]
    exact .cons x1' (x2.append (hd _))
theorem w_callIK {W : List Dt → (Dt → Prop) → Prop} {m : Nat} {gV : List V → List V → List V} {gD : Dt → List Dt → List Dt} (hg : ∀ (x : V) (zs : List V) (d : Dt) (es : List Dt) (H : Hp), zs.length = m → DX K H x d → DXs K H zs es → DXs K H (gV [x] zs) (gD d es))
    (h : Wp K pf tf ρ fun d ρ1 => ∃ a ns es, d = .ins C a ns es ∧ Wa K pf tk ρ1 fun fs ρ2 => fs.length = m ∧ W (gD (.ins C a ns es) fs) fun e => Φ e ρ2) : Wp K pf (tCallIK C (spP K W) m gV E tf tk) ρ Φ := fun M σ H S Q q =>
  h M σ H S _ fun v H1 d ρ1 s1 S1 x1 ⟨a, ns, es, ed, k⟩ => by
    subst ed
    obtain ⟨rfl, dx, us, hi, hl⟩ := ins_keep (H2 := H1) x1
    refine ⟨a, rfl, k M σ H1 S1 _ fun zs H2 ds ρ2 s2 S2 x2 ⟨l, w⟩ => ?_⟩
    have x1' := x1.mono s2.dx
    obtain ⟨_, dx2, us2, hi2, _⟩ := ins_keep (H2 := H2) x1'
    have ec : ∀ H', cut M.callP H' = cut M H' := cut_congr M.callP_has
    have l2 : zs.length = m := x2.len.trans l
    refine ⟨l2, ⟨dx2, _, hi2⟩, M.callP, _, _, rfl, rfl, S2.mok.callP, ?_, w, fun v H4 e s x f => q v H4 e ρ2 ((s1.trans s2).trans (Tr.same pf M s)) (S2.same s) (by rw [ec] at x; exact x) f⟩
    rw [ec]
    exact hg _ _ _ _ _ l2 x1' x2
end
end DL

/-! Data level: own dicts written at any key; two stores at once, own lists and dicts among them; list(x) as an own list. -/
namespace DL
open PySem PySem.Spec PyProof.Rows L2
variable [Tb]
section
variable {K : PySem.W.Frag} {ρ : List Sl} {te ti tk : TE} {tr : TA} {t u : TS} {D : DE} {i j : Nat} {pf : Bool} {kvs : List (Key × Dt)}
theorem keyD_eq {H : Hp} {v : V} {k : Key} (h : DX K H v (keyD k)) : v = kV k := by
  cases k with
  | inl n => exact h.int_eq
  | inr s => exact h.str_eq
theorem ws_dputK (e0 : ρ[i]? = some (.ownd kvs)) (h : Wp K pf te ρ fun d ρ1 => Wp K pf tk ρ1 fun y ρ2 => ∃ kvs1 x, ρ2[i]? = some (.ownd kvs1) ∧ y = keyD x ∧ kvs1.length < 100000 ∧ D.nx (ρ2.set i (.ownd (putD kvs1 x d)))) : Ws K (sDPut (tVar i) tk te) ρ D := fun M σ H S E k => by
  obtain ⟨o, h1, l, vs0, e1, e2, e3, e4⟩ := S.ok i _ e0
  subst e1
  refine h M σ H S _ fun v H1 d ρ1 s1 S1 x1 f => ⟨.ref l, h1, f M σ H1 S1 _ ?_⟩
  rintro y H2 dy ρ2 s2 S2 x2 ⟨kvs1, x, g1, rfl, g2, g3⟩
  obtain ⟨o', z1, l', vs, y1, y2, y3, y4⟩ := S2.ok i _ g1
  have el : l' = l := Option.some.inj (Option.some.inj (y2.symm.trans e2))
  subst el
  obtain rfl := keyD_eq x2
  refine ⟨l', _, rfl, .inl ⟨vs, x, y3, rfl, by rw [y4.len]; exact Nat.lt_of_lt_of_le g2 (by decide), rfl⟩, ?_⟩
  obtain ⟨S3, s3⟩ := S2.writed (vs := vs) g1 y2 (y4.put (x1.mono s2.dx))
  exact k.nx M σ _ _ ((s1.trans s2).st.trans s3) S3 g3
/-- a, b = x, {} -/
theorem ws_parD (h : Wp K pf te ρ fun d ρ' => j < ρ'.length ∧ D.nx ((ρ'.set i (.dat d)).set j (.ownd []))) : Ws K (tPar i j (tCons te (tCons tDNewK tNil))) ρ D := fun M σ H S E k =>
  h M σ H S _ fun v H1 d ρ1 s1 S1 x1 ⟨hj, z⟩ q hq => by
    have S2 := S1.put x1 i
    exact ⟨v, .ref q, rfl, k.nx _ _ _ _ (s1.st.trans (Stp.own hq (same_new hq))) ((S2.same (same_new hq)).ownd (by rw [List.length_set]; exact hj) (S2.mok.new hq) upd_same .nil (S2.aside hq (same_new hq) upd_same)) z⟩
/-- a, b = x, [] -/
theorem ws_parL (h : Wp K pf te ρ fun d ρ' => j < ρ'.length ∧ D.nx ((ρ'.set i (.dat d)).set j (.own []))) : Ws K (tPar i j (tCons te (tCons (tLst tNil) tNil))) ρ D := fun M σ H S E k =>
  h M σ H S _ fun v H1 d ρ1 s1 S1 x1 ⟨hj, z⟩ => ⟨by show 0 ≤ _; exact Nat.zero_le _, fun q hq => by
    have S2 := S1.put x1 i
    exact ⟨v, .ref q, rfl, k.nx _ _ _ _ (s1.st.trans (Stp.own hq (same_new hq))) ((S2.same (same_new hq)).own (by rw [List.length_set]; exact hj) (S2.mok.new hq) upd_same .nil (S2.aside hq (same_new hq) upd_same)) z⟩⟩
/-- a, b = [..], [] : both one's own -/
theorem ws_parLL (h : WpL K pf te ρ fun ds ρ' => i < ρ'.length ∧ j < ρ'.length ∧ D.nx ((ρ'.set i (.own ds)).set j (.own []))) : Ws K (tPar i j (tCons te (tCons (tLst tNil) tNil))) ρ D := fun M σ H S E k =>
  h M σ H S _ fun q vs H2 ds ρ' s S2 hq x ⟨hi, hj, z⟩ => ⟨by show 0 ≤ _; exact Nat.zero_le _, fun q2 hq2 => by
    have S3 := (S2.same (same_new hq)).own hi (S2.mok.new hq) upd_same (x.mono fun b u y => by
      obtain ⟨c, y⟩ := cut_of y
      refine cut_at (fun t => ?_) (by rw [upd_ne (ne_of_none y hq)]; exact y)
      rcases t with t | t | t
      · exact c (.inl t)
      · rcases List.mem_cons.mp t with t | t
        · exact ne_of_none y hq t
        · exact c (.inr (.inl t))
      · exact c (.inr (.inr t))) (S2.aside hq (same_new hq) upd_same)
    refine ⟨.ref q, .ref q2, rfl, k.nx _ _ _ _ ((s.st.trans (Stp.own hq (same_new hq))).trans (Stp.own hq2 (same_new hq2))) ((S3.same (same_new hq2)).own (by rw [List.length_set]; exact hj) (S3.mok.new hq2) upd_same .nil (S3.aside hq2 (same_new hq2) upd_same)) z⟩⟩
end
end DL

/-! Data level: own lists popped at an index. -/
namespace DL
open PySem PySem.Spec PyProof.Rows L2
variable [Tb]
theorem DXs.erase {K : PySem.W.Frag} {H : Hp} {ds : List Dt} {vs : List V} (j : Nat) (h : DXs K H vs ds) : DXs K H (vs.eraseIdx j) (ds.eraseIdx j) := by
  rw [List.eraseIdx_eq_take_drop_succ, List.eraseIdx_eq_take_drop_succ]
  exact (h.take j).append (h.drop (j + 1))
section
variable {K : PySem.W.Frag} {ρ : List Sl} {te : TE} {Φ : Dt → List Sl → Prop} {i : Nat}
theorem w_pop (h : Wp K false te ρ fun d ρ1 => ∃ ds j x, ρ1[i]? = some (.own ds) ∧ d = .int ((j : Nat) : Int) ∧ ds[j]? = some x ∧ j < 1000000 ∧ Φ x (ρ1.set i (.own (ds.eraseIdx j)))) {ds0 : List Dt} (e0 : ρ[i]? = some (.own ds0)) :
    Wp K false (tBM K "list" rPopAt (tVar i) (tCons te tNil)) ρ Φ := fun M σ H S Q q => by
  obtain ⟨o, h1, l, vs0, e1, e2, e3, e4⟩ := S.ok i _ e0
  subst e1
  refine ⟨.ref l, h1, .inl ⟨rfl, _, .inl (.inl e3)⟩, h M σ H S _ fun v H1 d ρ1 s1 S1 x1 ⟨ds, j, x, g1, g2, g3, g4, g5⟩ => ?_⟩
  subst g2
  obtain ⟨o', z1, l', vs, y1, y2, y3, y4⟩ := S1.ok i _ g1
  have el : l' = l := Option.some.inj (Option.some.inj (y2.symm.trans e2))
  subst el
  obtain ⟨y, k1, k2⟩ := y4.getd g3
  have hj : j < vs.length := (List.getElem?_eq_some_iff.mp k1).1
  refine ⟨l', vs, j, j, y, rfl, by rw [x1.int_eq], y3, by omega, by omega, ?_, k1, ?_⟩
  · unfold seqIndex?
    rw [if_neg (show ¬ ((j : Nat) : Int) < 0 by omega)]
    simp only [Int.toNat_natCast]
    first
      | rw [if_pos hj]
      | simp [hj]
  · obtain ⟨S2, s2⟩ := S1.write (vs := vs) g1 y2 (y4.erase j)
    exact q y _ x _ ⟨s1.st.trans s2, fun z => nomatch z⟩ S2 (k2.mono s2.dx) g5
end
section
variable {K : PySem.W.Frag} {pf : Bool} {ρ : List Sl} {ta : TA} {Ψ : List Dt → List Sl → Prop}
/-- list(x), owned -/
theorem wl_list (h : Wa K pf ta ρ fun ds ρ1 => ∃ d xs, ds = [d] ∧ seqD d = some xs ∧ Ψ xs ρ1) : WpL K pf (tCB (fun xs H Q => ∃ p ys, xs = [.ref p] ∧ (SqL K H p ys ∨ SqT K H p ys) ∧ ∀ l, H l = none → Q (.ref l) (upd H l (.lst ys))) ta) ρ Ψ := fun M σ H S Q q =>
  h M σ H S _ fun vs H1 ds ρ1 s1 S1 x1 ⟨d, xs, e, hs, f⟩ => by
    subst e
    obtain ⟨v, rfl, x⟩ := one_v x1
    cases x with
    | lst hs' ha => cases hs; exact ⟨_, _, rfl, .inl ((cut_sub M H1).seq hs'), fun l hl => q l _ H1 _ ρ1 s1 S1 hl ha f⟩
    | tup hs' ha => cases hs; exact ⟨_, _, rfl, .inr (same_T (cut_sub M H1) hs'), fun l hl => q l _ H1 _ ρ1 s1 S1 hl ha f⟩
    | _ => cases hs
theorem od_neb {Ψ : Dt → Prop} {a b : Bool} (h : Ψ (.bl (!decide (a = b)))) : OD K rNe (.bl a) (.bl b) Ψ := fun M H u v m h1 h2 Q q => by
  rw [h1.bl_eq, h2.bl_eq]
  have e : decide (V.bl a = V.bl b) = decide (a = b) := decide_eq_decide.mpr ⟨fun z => V.bl.inj z, fun z => by rw [z]⟩
  exact ⟨rfl, by rw [e]; exact q _ H _ (Same.refl H) (.bl _) h⟩
end
end DL

/-! Data level: methods of texts, formatted texts, None in lists, truth of lists, own lists returned. -/
namespace DL
open PySem PySem.Spec PyProof.Rows L2
variable [Tb]
section
variable {K : PySem.W.Frag} {Ψ : Dt → Prop} {a b : Str}
theorem dxs_strs' {H : Hp} (xs : List Str) : DXs K H (xs.map V.str) (xs.map Dt.str) := dxs_strs xs
theorem md_split (hb : (b.length == 0) = false) (hz : a.length + 2 ≤ 16777216) (h : Ψ (.lst ((Txt.split a b).map Dt.str))) :
    MD K (fun x xs H Q => ∃ a b, x = .str a ∧ xs = [.str b] ∧ (b.length == 0) = false ∧ a.length + 2 ≤ sizeLine ∧ rNewStrs (Txt.split a b) H Q) (.str a) (.str b) Ψ := fun M H u v m h1 h2 Q q => by
  rw [h1.str_eq, h2.str_eq]
  exact ⟨a, b, rfl, rfl, hb, Nat.le_trans hz (by decide), fun p hp => q _ _ _ (same_new hp) (dx_new_l m hp (dxs_strs _)) h⟩
theorem md_part (hb : (b.length == 0) = false) (hz : a.length ≤ 16777216) (h : Ψ (.tup [.str (Txt.partition a b).1, .str (Txt.partition a b).2.1, .str (Txt.partition a b).2.2])) :
    MD K (fun x xs H Q => ∃ a b, x = .str a ∧ xs = [.str b] ∧ (b.length == 0) = false ∧ a.length ≤ sizeLine ∧ ∀ p, H p = none → Q (.ref p) (upd H p (.tup [.str (Txt.partition a b).1, .str (Txt.partition a b).2.1, .str (Txt.partition a b).2.2]))) (.str a) (.str b) Ψ := fun M H u v m h1 h2 Q q => by
  rw [h1.str_eq, h2.str_eq]
  exact ⟨a, b, rfl, rfl, hb, Nat.le_trans hz (by decide), fun p hp => q _ _ _ (same_new hp) (dx_new_t m hp (.cons (.str _) (.cons (.str _) (.one (.str _))))) h⟩
theorem md_ends (h : Ψ (.bl (Txt.endswith a b))) : MD K (fun x xs H Q => ∃ a b, x = .str a ∧ xs = [.str b] ∧ Q (.bl (Txt.endswith a b)) H) (.str a) (.str b) Ψ := fun M H u v m h1 h2 Q q => by
  rw [h1.str_eq, h2.str_eq]
  exact ⟨a, b, rfl, rfl, q _ H _ (Same.refl H) (.bl _) h⟩
theorem rd_int_str {n : Int} (e : intText? a = some n) (hz : a.length ≤ 640) (h : Ψ (.int n)) : RD K (fun xs H Q => ∃ a n, xs = [.str a] ∧ intText? a = some n ∧ a.length ≤ 640 ∧ Q (.int n) H) [.str a] Ψ := fun M H vs m xx Q q => by
  obtain ⟨v, rfl, x⟩ := one_v xx
  rw [x.str_eq]
  exact ⟨a, n, rfl, e, hz, q _ H _ (Same.refl H) (.int _) h⟩
theorem rd_str_int {i : Int} (hz : i.natAbs.log2 < 1920) (h : Ψ (.str (Str.ofString (toString i)))) : RD K (fun xs H Q => ∃ i, xs = [.int i] ∧ i.natAbs.log2 < 1920 ∧ Q (.str (Str.ofString (toString i))) H) [.int i] Ψ := fun M H vs m xx Q q => by
  obtain ⟨v, rfl, x⟩ := one_v xx
  rw [x.int_eq]
  exact ⟨i, rfl, hz, q _ H _ (Same.refl H) (.str _) h⟩
end
section
variable {K : PySem.W.Frag} {pf : Bool} {ρ : List Sl} {te : TE} {ts : List TE} {Φ : Dt → List Sl → Prop}
theorem w_fmt_s (h : Wp K pf te ρ fun d ρ1 => ∃ y, d = .str y ∧ y.length ≤ 100000 ∧ Φ (.str y) ρ1) : Wp K pf (tFmt te) ρ Φ := fun M σ H S Q q =>
  h M σ H S _ fun v H1 d ρ1 s S1 x ⟨y, e, hz, f⟩ => by
    subst e
    rw [x.str_eq]
    exact .inl ⟨y, rfl, Nat.le_trans hz (by decide), q _ H1 _ ρ1 s S1 (.str y) f⟩
theorem w_fmt_i (h : Wp K pf te ρ fun d ρ1 => ∃ i, d = .int i ∧ i.natAbs.log2 < 1920 ∧ Φ (.str (Str.ofString (toString i))) ρ1) : Wp K pf (tFmt te) ρ Φ := fun M σ H S Q q =>
  h M σ H S _ fun v H1 d ρ1 s S1 x ⟨i, e, hz, f⟩ => by
    subst e
    rw [x.int_eq]
    exact .inr ⟨i, rfl, hz, q _ H1 _ ρ1 s S1 (.str _) f⟩
/-- the pieces of a formatted text -/
def Wj (K : PySem.W.Frag) (f : Bool) (ts : List TE) (acc : Str) (ρ : List Sl) (Ξ : Str → List Sl → Prop) : Prop :=
  ∀ (M : Md) (σ : L2.St) (H : Hp), Sd K M H σ ρ → ∀ Q : Str → Hp → Prop, (∀ z H2 ρ', Tr f M H H2 → Sd K M H2 σ ρ' → Ξ z ρ' → Q z H2) → tJs ts acc σ H Q
theorem wj_nil {acc : Str} {Ξ : Str → List Sl → Prop} (h : Ξ acc ρ) : Wj K pf [] acc ρ Ξ := fun M σ H S Q q => q acc H ρ (Tr.refl pf M H) S h
theorem wj_cons {acc : Str} {Ξ : Str → List Sl → Prop} (h : Wp K pf te ρ fun d ρ1 => ∃ y, d = .str y ∧ (acc ++ y).length ≤ 100000 ∧ Wj K pf ts (acc ++ y) ρ1 Ξ) : Wj K pf (te :: ts) acc ρ Ξ := fun M σ H S Q q =>
  h M σ H S _ fun v H1 d ρ1 s1 S1 x ⟨y, e, hz, k⟩ => by
    subst e
    rw [x.str_eq]
    exact ⟨y, rfl, Nat.le_trans hz (by decide), k M σ H1 S1 Q fun z H2 ρ2 s2 S2 f => q z H2 ρ2 (s1.trans s2) S2 f⟩
theorem w_js (h : Wj K pf ts Str.empty ρ fun z ρ1 => Φ (.str z) ρ1) : Wp K pf (fun σ H Q => tJs ts Str.empty σ H fun out H1 => Q (.str out) H1) ρ Φ := fun M σ H S Q q =>
  h M σ H S _ fun z H2 ρ2 s S2 f => q _ H2 _ ρ2 s S2 (.str z) f
/-- truth -/
theorem wt_seq {Θ : Bool → List Sl → Prop} (h : Wp K pf te ρ fun d ρ1 => ∃ xs, seqD d = some xs ∧ Θ (!xs.isEmpty) ρ1) : Wt K pf (fun σ H Q => te σ H fun x H' => ∃ k, TruV K x H' k ∧ Q k H') ρ Θ := fun M σ H S Q q =>
  h M σ H S _ fun v H1 d ρ1 s1 S1 x ⟨xs, e, f⟩ => by
    cases x with
    | @lst a vs ds hs ha =>
      cases e
      refine ⟨_, .inl ⟨vs, (cut_sub M H1).seq hs, rfl⟩, ?_⟩
      have : vs.isEmpty = xs.isEmpty := by have := ha.len; cases vs <;> cases xs <;> first | rfl | (simp at this)
      rw [this]
      exact q _ H1 ρ1 s1 S1 f
    | @tup a vs ds hs ha =>
      cases e
      refine ⟨_, .inr (.inl ⟨vs, same_T (cut_sub M H1) hs, rfl⟩), ?_⟩
      have : vs.isEmpty = xs.isEmpty := by have := ha.len; cases vs <;> cases xs <;> first | rfl | (simp at this)
      rw [this]
      exact q _ H1 ρ1 s1 S1 f
    | _ => cases e
end
theorem truthK {X : Cx} (K : PySem.W.Frag) (h : X.K = K) {a : Expr} {ta : TE} (ha : PE X a ta) (he : ∀ whole, PySem.isTrue a X.env whole = (do let v ← whole; standAt a.pos; holding [v] (truthy v))) : PT X a (fun σ H Q => ta σ H fun x H' => ∃ k, TruV K x H' k ∧ Q k H') := by subst h; exact pt_truth ha he
theorem inDK {X : Cx} (K : PySem.W.Frag) (h : X.K = K) (hu : X.A.units + 65 < cLine) : OpR X (compareOp .In) (rInD K) := by subst h; exact op_inD hu
theorem indexDK {X : Cx} (K : PySem.W.Frag) (h : X.K = K) (hu : X.A.units + 65 < cLine) : MtR X "list.index" (rIndexD K) := by subst h; exact mt_indexD hu
section
variable {K : PySem.W.Frag} {pf : Bool} {ρ : List Sl} {ta te : TE} {Φ : Dt → List Sl → Prop} {Ψ : Dt → Prop}
/-- x in a list, x.index: by the data -/
theorem od_inDD {d : Dt} {ds : List Dt} (s1 : d.seqs = true) (s2 : seqss ds = true) (h1 : SeqAt.shaped d.py = true) (h2 : SeqAt.shaped (.list (pys ds)) = true) (h : Ψ (.bl ((pys ds).any fun z => PyData.eqv z d.py))) : OD K (rInD K) d (.lst ds) Ψ := fun M H u v m x1 x2 Q q => by
  have e2 := (x2.mono (cut_sub M H)).dp (show (Dt.lst ds).seqs = true by simp only [Dt.seqs]; exact s2)
  rw [show (Dt.lst ds).py = .list (pys ds) from by simp only [Dt.py]] at e2
  exact ⟨_, _, (x1.mono (cut_sub M H)).dp s1, e2, h1, h2, q _ H _ (Same.refl H) (.bl _) h⟩
theorem w_indexD {d : Dt} {ds : List Dt} {j : Nat} {z : PyData} (s1 : d.seqs = true) (s2 : seqss ds = true) (h1 : SeqAt.shaped d.py = true) (h2 : SeqAt.shaped (.list (pys ds)) = true) (hj : (pys ds)[j]? = some z) (hz : PyData.eqv z d.py = true) (hm : ∀ m z', m < j → (pys ds)[m]? = some z' → PyData.eqv z' d.py = false)
    (h : Wp K pf ta ρ fun d1 ρ1 => d1 = .lst ds ∧ Wp K pf te ρ1 fun e ρ2 => e = d ∧ Φ (.int (j : Nat)) ρ2) : Wp K pf (tBM K "list" (rIndexD K) ta (tCons te tNil)) ρ Φ := fun M σ H S Q q =>
  h M σ H S _ fun v1 H1 d1 ρ1 s1' S1 x1 ⟨e1, k⟩ => by
    subst e1
    cases x1 with
    | @lst a vs _ hs ha =>
      refine ⟨.inl ⟨rfl, vs, (cut_sub M H1).seq hs⟩, k M σ H1 S1 _ fun v2 H2 e ρ2 s2' S2 x2 ⟨e2, f⟩ => ?_⟩
      subst e2
      have x1' : DX K H2 (.ref a) (.lst ds) := (DX.lst hs ha).mono (fun b o t => cut_sub M H2 b o (s2'.dx b o t))
      have e2 := x1'.dp (show (Dt.lst ds).seqs = true by simp only [Dt.seqs]; exact s2)
      rw [show (Dt.lst ds).py = .list (pys ds) from by simp only [Dt.py]] at e2
      exact ⟨a, v2, _, _, j, z, rfl, rfl, e2, (x2.mono (cut_sub M H2)).dp s1, h2, h1, hj, hz, hm, q _ H2 _ ρ2 (s1'.trans s2') S2 (.int _) f⟩
end
end DL

/-! Data level: methods of texts without arguments; isascii, isalpha, islower together tell letters a to z. -/
namespace DL
open PySem PySem.Spec PyProof.Rows L2
variable [Tb]
section
variable {K : PySem.W.Frag} {pf : Bool} {ρ : List Sl} {ta : TE} {Φ : Dt → List Sl → Prop}
theorem w_m0 {g : Str → Bool} (h : Wp K pf ta ρ fun d ρ1 => ∃ z, d = .str z ∧ Φ (.bl (g z)) ρ1) : Wp K pf (tM0 (fun x xs H Q => ∃ a, x = .str a ∧ xs = [] ∧ True ∧ Q (.bl (g a)) H) ta) ρ Φ := fun M σ H S Q q =>
  h M σ H S _ fun v H1 d ρ1 s1 S1 x1 ⟨z, ez, k⟩ => by
    subst ez
    exact ⟨⟨z, x1.str_eq⟩, z, x1.str_eq, rfl, trivial, q _ H1 _ ρ1 s1 S1 (.bl _) k⟩
end
def lowC (c : Nat) : Bool := decide (97 ≤ c) && decide (c ≤ 122)
theorem low_one (c : Nat) : low ⟨#[c]⟩ = lowC c := by
  unfold low lowC
  have e1 : (⟨#[c]⟩ : Str).cps.toList = [c] := rfl
  have e2 : ("a" : Str).cps.toList = [97] := by decide +kernel
  have e3 : ("z" : Str).cps.toList = [122] := by decide +kernel
  rw [e1, e2, e3]
  have k (a b : Nat) : ([a] < [b]) ↔ a < b := by
    constructor
    · intro h
      cases h with
      | rel h => exact h
      | cons h => cases h
    · exact fun h => .rel h
  have k1 : decide ([c] < [97]) = decide (c < 97) := decide_eq_decide.mpr (k c 97)
  have k2 : decide ([122] < [c]) = decide (122 < c) := decide_eq_decide.mpr (k 122 c)
  rw [k1, k2]
  by_cases a : 97 ≤ c
  · rw [decide_eq_true a, decide_eq_false (show ¬ c < 97 by omega)]
    by_cases b : c ≤ 122
    · rw [decide_eq_true b, decide_eq_false (show ¬ 122 < c by omega)]; rfl
    · rw [decide_eq_false b, decide_eq_true (show 122 < c by omega)]; rfl
  · rw [decide_eq_false a, decide_eq_true (show c < 97 by omega)]; rfl
theorem ascii_low : ∀ c : Fin 128, (Unicode.isAlpha c.1 = true → (Unicode.isUpper c.1 || Unicode.isTitle c.1) = !lowC c.1) ∧ (lowC c.1 = true → Unicode.isAlpha c.1 = true ∧ Unicode.isLower c.1 = true) := by decide +kernel
theorem low_lt {c : Nat} (h : lowC c = true) : c < 128 := by
  unfold lowC at h
  rw [Bool.and_eq_true, decide_eq_true_eq, decide_eq_true_eq] at h
  omega
theorem allA {f : Nat → Bool} {z : Str} : z.cps.all f = z.cps.toList.all f := by rw [Array.all_toList]
theorem anyA {f : Nat → Bool} {z : Str} : z.cps.any f = z.cps.toList.any f := by rw [Array.any_toList]
/-- value.isascii() and value.isalpha() and value.islower() -/
theorem three_low (z : Str) : (Txt.isascii z && (Txt.isalpha z && Txt.islower z)) = (decide (1 ≤ z.length) && z.cps.toList.all lowC) := by
  unfold Txt.isascii Txt.isalpha Txt.islower
  rw [allA, allA, anyA, anyA]
  have hz : z.length = z.cps.toList.length := by rw [Array.length_toList]; rfl
  rw [hz]
  generalize z.cps.toList = l
  by_cases hl : l.all lowC = true
  · have h1 : (l.all fun c => decide (c < 128)) = true := List.all_eq_true.mpr fun c hc => decide_eq_true (low_lt (List.all_eq_true.mp hl c hc))
    have h2 : l.all Unicode.isAlpha = true := List.all_eq_true.mpr fun c hc => ((ascii_low ⟨c, low_lt (List.all_eq_true.mp hl c hc)⟩).2 (List.all_eq_true.mp hl c hc)).1
    have h3 : (l.any fun c => Unicode.isUpper c || Unicode.isTitle c) = false := by
      rw [List.any_eq_false]
      intro c hc
      have a := List.all_eq_true.mp hl c hc
      have b := ascii_low ⟨c, low_lt a⟩
      rw [b.1 (b.2 a).1]
      show ¬ (!lowC c) = true
      rw [a]
      decide
    rw [h1, h2, h3, hl]
    cases l with
    | nil => rfl
    | cons c cs =>
      have a := List.all_eq_true.mp hl c (List.mem_cons_self ..)
      have h4 : (c :: cs).any Unicode.isLower = true := List.any_eq_true.mpr ⟨c, List.mem_cons_self .., ((ascii_low ⟨c, low_lt a⟩).2 a).2⟩
      rw [h4]
      rfl
  · rw [Bool.not_eq_true] at hl
    rw [hl, Bool.and_false]
    cases h1 : (l.all fun c => decide (c < 128)) with
    | false => rfl
    | true =>
      cases h2 : l.all Unicode.isAlpha with
      | false => rw [Bool.and_false]; rfl
      | true =>
        have h3 : (l.any fun c => Unicode.isUpper c || Unicode.isTitle c) = true := by
          rw [List.all_eq_false] at hl
          obtain ⟨c, hc, n⟩ := hl
          rw [List.any_eq_true]
          refine ⟨c, hc, ?_⟩
          have b := ascii_low ⟨c, of_decide_eq_true (List.all_eq_true.mp h1 c hc)⟩
          rw [b.1 (List.all_eq_true.mp h2 c hc)]
          show (!lowC c) = true
          rw [Bool.not_eq_true] at n
          rw [n]
          rfl
        rw [h3]
        simp
theorem isName_three {z : Str} (h : z.length ≤ 8) : isName (.str z) = (Txt.isascii z && (Txt.isalpha z && Txt.islower z)) := by
  rw [three_low]
  show (decide (1 ≤ z.length) && decide (z.length ≤ 8) && (DL.signs z).all lowD) = _
  rw [decide_eq_true h, Bool.and_true]
  congr 1
  unfold DL.signs
  rw [List.all_map]
  congr 1
  funext c
  exact low_one c
theorem isName_long {z : Str} (h : 8 < z.length) : isName (.str z) = false := by
  show (decide (1 ≤ z.length) && decide (z.length ≤ 8) && (DL.signs z).all lowD) = _
  rw [decide_eq_false (show ¬ z.length ≤ 8 by omega), Bool.and_false, Bool.false_and]
end DL

namespace K04
open PySem PySem.Spec PyProof.Rows L2 DL
variable [Tb]
def topS (i : Nat) : Stmt := PySem.Challenge.pw_duskisles_k04_isles_changed.main.body.getD i (.Pass ⟨0, 0, 0, 0⟩)
abbrev sInt : Stmt := topS 9
abbrev sNam : Stmt := topS 10
abbrev sOwn : Stmt := topS 11
abbrev sRow : Stmt := topS 12
abbrev sLead : Stmt := topS 13
abbrev sWords : Stmt := topS 14
theorem scInt : FnScope ["value"] ["value"] (defScope sInt) := ⟨rfl, rfl, rfl, by decide +kernel, rfl, by decide +kernel, by decide +kernel⟩
theorem scNam : FnScope ["value"] ["value"] (defScope sNam) := ⟨rfl, rfl, rfl, by decide +kernel, rfl, by decide +kernel, by decide +kernel⟩
theorem scOwn : FnScope ["value"] ["value"] (defScope sOwn) := ⟨rfl, rfl, rfl, by decide +kernel, rfl, by decide +kernel, by decide +kernel⟩
theorem scRow : FnScope ["value", "most", "name"] ["value", "most"] (defScope sRow) := ⟨rfl, rfl, rfl, by decide +kernel, rfl, by decide +kernel, by decide +kernel⟩
theorem scLead : FnScope ["value"] ["value"] (defScope sLead) := ⟨rfl, rfl, rfl, by decide +kernel, rfl, by decide +kernel, by decide +kernel⟩
theorem scWords : FnScope ["value", "words", "word"] ["value", "words"] (defScope sWords) := ⟨rfl, rfl, rfl, by decide +kernel, rfl, by decide +kernel, by decide +kernel⟩
section
variable {P : Program} {w : World} {K : PySem.W.Frag} {mg : Str → Option Value} {base : Heap}
/-! ### is_integer -/
def WInt : List Dt → (Dt → Prop) → Prop := fun ds Φ => ∃ d, ds = [d] ∧ noTy d = true ∧ Φ (.bl (isInt d))
theorem ok_int {f : Addr} {fd : FuncData} (F : Fun K "is_integer" "is_integer" sInt f fd) (B : Bt mg) : FnOk P w K mg base CX0 1 f fd ["value"] (spP K WInt) := by
  refine defP0 F scInt (fun ds Φ ⟨d, e, _⟩ => by rw [e]; rfl) (by decide) fun cdv A outer s H E hr => ?_
  refine ⟨_, pss_one (ps_ret (pe_and (pe_callB call_isi (by rfl) B.isi boot_isinstance (pa_cons (pv 0) (pa_cons (pe_bltn (v := .ty "int") (by rfl) B.int PyProof.Rows.boot_int rfl) pa_nil)))
    (pe_one (pe_not (pe_callB call_isi (by rfl) B.isi boot_isinstance (pa_cons (pv 0) (pa_cons (pe_bltn (v := .ty "bool") (by rfl) B.bool PyProof.Rows.boot_bool rfl) pa_nil))))))), ?_⟩
  rintro ds Φ ⟨d, rfl, hd, q⟩
  obtain ⟨b, k1, k2, k3⟩ := kit_int hd
  obtain ⟨c, k4⟩ := kit_bool hd
  refine ws_ret (pf := true) (w_andV (w_cb (wa_cons (w_var rfl (wa_cons (w_c (fun _ => .ty "int") (wa_nil (rd_isi (noTy_ne hd) k1 ⟨b, rfl, ?_⟩))))))))
  cases b with
  | true =>
    rw [if_pos rfl]
    refine w_notV (w_cb (wa_cons (w_var rfl (wa_cons (w_c (fun _ => .ty "bool") (wa_nil (rd_isi (noTy_ne hd) k4 ⟨c, rfl, ?_⟩)))))))
    rw [← k2 rfl c k4]
    exact q
  | false =>
    rw [if_neg Bool.false_ne_true, ← k3 rfl]
    exact q
/-! ### is_name -/
def WNam : List Dt → (Dt → Prop) → Prop := fun ds Φ => ∃ d, ds = [d] ∧ shortD d = true ∧ Φ (.bl (isName d))
theorem ok_nam {f : Addr} {fd : FuncData} {tk : Tok} (F : Fun K "is_name" "is_name" sNam f fd) (B : Bt mg) (hM : mg "MOST_LETTERS" = some (.int 8 tk)) : FnOk P w K mg base CX0 1 f fd ["value"] (spP K WNam) := by
  refine defP0 F scNam (fun ds Φ ⟨d, e, _⟩ => by rw [e]; rfl) (by decide) fun cdv A outer s H E hr => ?_
  refine ⟨_, pss_cons (ps_if (PW.pt (pw_or (pt_not (pt_val (pe_callB call_isi (by rfl) B.isi boot_isinstance (pa_cons (pv 0) (pa_cons (pe_bltn (v := .ty "str") (by rfl) B.str PyProof.Rows.boot_str rfl) pa_nil)))))
      (pw_or1 (pt_cmpR op_gt (pe_callB call_len (by rfl) B.len PySem.boot_len (pa_cons (pv 0) pa_nil)) (pe_glob (v := .int 8) (by rfl) hM ⟨_, rfl⟩) (nomark _)))))
      (pss_one (ps_ret pe_bl)) pss_nil)
    (pss_one (ps_ret (pe_and (pe_m0 PySem.F.slot_str_isascii PySem.F.type_str_isascii mt_isascii (pv 0)) (pe_and (pe_m0 PySem.F.slot_str_isalpha PySem.F.type_str_isalpha mt_isalpha (pv 0)) (pe_one (pe_m0 PySem.F.slot_str_islower PySem.F.type_str_islower mt_islower (pv 0))))))), ?_⟩
  rintro ds Φ ⟨d, rfl, hd, q⟩
  refine ws_seq <| ws_if (pf := true) <| wt_or <| wt_not <| wt_B <| w_isi rfl (shortD_no hd) (kit_str (shortD_no hd)) ⟨_, rfl, ?_⟩
  cases c : isStr d with
  | false =>
    refine ifT (ifT (ws_ret (pf := true) (w_c (fun _ => .bl false) ?_)))
    have e : isName d = false := by
      cases d with
      | str z => cases c
      | _ => rfl
    rw [e] at q
    exact q
  | true =>
    obtain ⟨z, rfl⟩ := isStr_of c
    have hz : z.length ≤ 1000 := of_decide_eq_true hd
    refine ifF <| wt_test <| w_op <| w_cb <| wa_cons <| w_var rfl <| wa_nil <| rd_len (len1000 hz) <| w_c (fun _ => .int 8) <| od_I0b ⟨_, rfl, ?_⟩
    by_cases c1 : (8 : Int) < (z.length : Nat)
    · rw [decide_eq_true c1]
      rw [isName_long (by omega)] at q
      exact ifT (ws_ret (pf := true) (w_c (fun _ => .bl false) q))
    · rw [decide_eq_false c1]
      rw [isName_three (by omega)] at q
      refine ifF <| ws_next <| ws_ret (pf := true) <| w_andV <| w_m0 (g := Txt.isascii) <| w_var (d := .str z) rfl ⟨z, rfl, _, rfl, ?_⟩
      cases a : Txt.isascii z with
      | false =>
        rw [a, Bool.false_and] at q
        exact ifF q
      | true =>
        rw [a, Bool.true_and] at q
        refine ifT <| w_andV <| w_m0 (g := Txt.isalpha) <| w_var (d := .str z) rfl ⟨z, rfl, _, rfl, ?_⟩
        cases a : Txt.isalpha z with
        | false =>
          rw [a, Bool.false_and] at q
          exact ifF q
        | true =>
          rw [a, Bool.true_and] at q
          exact ifT <| w_m0 (g := Txt.islower) <| w_var (d := .str z) rfl ⟨z, rfl, q⟩
/-! ### is_own_name -/
def WOwn : List Dt → (Dt → Prop) → Prop := fun ds Φ => ∃ d, ds = [d] ∧ shortD d = true ∧ Φ (.bl (isOwn d))
theorem ok_own {f fN : Addr} {fd fdN : FuncData} {k : Nat} (F : Fun K "is_own_name" "is_own_name" sOwn f fd) (FN : Fun K "is_name" "is_name" sNam fN fdN) (bN : Binds K fdN ["value"] []) (gN : mg "is_name" = some (.ref fN)) (G : FnOk P w K mg base CX0 k fN fdN ["value"] (spP K WNam)) :
    FnOk P w K mg base CX0 (k + 1) f fd ["value"] (spP K WOwn) := by
  refine defP0 F scOwn (fun ds Φ ⟨d, e, _⟩ => by rw [e]; rfl) (by decide) fun cdv A outer s H E hr => ?_
  refine ⟨_, pss_one (ps_ret (pe_and (pe_call G hr (by rfl) gN FN.kp bN .nil pass0 (pa_cons (pv 0) pa_nil)) (pe_one (pe_cmpR op_ne (pv 0) pe_str (nomark _))))), ?_⟩
  rintro ds Φ ⟨d, rfl, hd, q⟩
  refine ws_ret (pf := true) <| w_andV <| w_call0 <| wa_cons <| w_var rfl <| wa_nil ⟨d, rfl, hd, _, rfl, ?_⟩
  cases c : isName d with
  | false => exact ifF (by rw [isOwn_no c] at q; exact q)
  | true =>
    obtain ⟨z, rfl⟩ := isName_str c
    rw [isOwn_eq, c, Bool.true_and] at q
    exact ifT <| w_op <| w_var rfl <| w_c (fun _ => .str _) <| od_nes q
/-! ### is_name_row -/
def WRow : List Dt → (Dt → Prop) → Prop := fun ds Φ => ∃ d m, ds = [d, .int m] ∧ thingD d = true ∧ Φ (.bl (isRow d m))
theorem ok_row {f fN : Addr} {fd fdN : FuncData} {k : Nat} (F : Fun K "is_name_row" "is_name_row" sRow f fd) (FN : Fun K "is_own_name" "is_own_name" sOwn fN fdN) (bN : Binds K fdN ["value"] []) (gN : mg "is_own_name" = some (.ref fN)) (B : Bt mg) (G : FnOk P w K mg base CX0 k fN fdN ["value"] (spP K WOwn)) :
    FnOk P w K mg base CX0 (k + 1) f fd ["value", "most"] (spP K WRow) := by
  refine defP0 F scRow (fun ds Φ ⟨d, m, e, _⟩ => by rw [e]; rfl) (by decide) fun cdv A outer s H E hr => ?_
  refine ⟨_, pss_cons (ps_if (PW.pt (pw_or (pt_not (pt_val (pe_callB call_isi (by rfl) B.isi boot_isinstance (pa_cons (pv 0) (pa_cons (pe_bltn (v := .ty "tuple") (by rfl) B.tuple PyProof.Rows.boot_tuple rfl) pa_nil)))))
      (pw_or1 (pt_cmpR op_gt (pe_callB call_len (by rfl) B.len PySem.boot_len (pa_cons (pv 0) pa_nil)) (pv 1) (nomark _)))))
      (pss_one (ps_ret pe_bl)) pss_nil)
    <| pss_cons (ps_for PassesOwn.never rfl (pi_tup (pv 0)) (pg_name (i := 2) scRow.nd rfl (Or.inl rfl))
      (pss_one (ps_if (pt_not (pt_val (pe_call G hr (by rfl) gN FN.kp bN .nil pass0 (pa_cons (pv 2) pa_nil)))) (pss_one (ps_ret pe_bl)) pss_nil)))
    <| pss_one (ps_ret (pe_cmpR op_eq (pe_lenS rfl (by rfl) B.len (by rfl) B.set (pv 0)) (pe_callB call_len (by rfl) B.len PySem.boot_len (pa_cons (pv 0) pa_nil)) (nomark _))), ?_⟩
  rintro ds Φ ⟨d, m, rfl, hd, q⟩
  refine ws_seq <| ws_if (pf := true) <| wt_or <| wt_not <| wt_B <| w_isi rfl (thingD_no hd) (kit_tup (thingD_no hd)) ⟨_, rfl, ?_⟩
  cases c : isTup d with
  | false =>
    refine ifT <| ifT <| ws_ret (pf := true) <| w_c (fun _ => .bl false) ?_
    have e : isRow d m = false := by
      cases d with
      | tup z => cases c
      | _ => rfl
    rw [e] at q
    exact q
  | true =>
    obtain ⟨xs, rfl⟩ := isTup_of c
    obtain ⟨hz, hs⟩ := thingD_tup hd
    refine ifF <| wt_test <| w_op <| w_cb <| wa_cons <| w_var rfl <| wa_nil <| rd_len rfl <| w_var rfl <| od_I0b ⟨_, rfl, ?_⟩
    by_cases c1 : m < (xs.length : Nat)
    · rw [decide_eq_true c1]
      refine ifT <| ws_ret (pf := true) <| w_c (fun _ => .bl false) ?_
      have e : isRow (.tup xs) m = false := by
        show (decide _ && _) = _
        rw [decide_eq_false (show ¬ ((xs.length : Nat) : Int) ≤ m by omega), Bool.false_and]
      rw [e] at q
      exact q
    · rw [decide_eq_false c1]
      have e : isRow (.tup xs) m = rowIs xs := by
        show (decide _ && _) = _
        rw [decide_eq_true (show ((xs.length : Nat) : Int) ≤ m by omega), Bool.true_and]
      rw [e] at q
      refine ifF <| ws_next <| ws_seqI (fun ρ' => xs.all isOwn = true ∧ ∃ s, ρ' = [.dat (.tup xs), .dat (.int m), s]) ?_ ?_
      · refine ws_for (js := [2]) (fun ds i ρ' => ds = xs ∧ (xs.take i).all isOwn = true ∧ ∃ s, ρ' = [.dat (.tup xs), .dat (.int m), s]) <| wi_tup (pf := true) <| w_var (d := .tup xs) rfl ⟨xs, rfl, ⟨rfl, rfl, _, rfl⟩, ?_, ?_⟩
        · rintro i d ρ2 hd ⟨-, ha, s, rfl⟩
          have hm := List.mem_of_getElem? hd
          refine wg_name <| ws_if (pf := true) <| wt_not <| wt_B <| w_call0 <| wa_cons <| w_var (d := d) rfl <| wa_nil ⟨d, rfl, hs d hm, _, rfl, ?_⟩
          have et : xs.take (i + 1) = xs.take i ++ [d] := by rw [List.take_add_one, hd]; rfl
          cases co : isOwn d with
          | false =>
            refine ifT <| ws_ret (pf := true) <| w_c (fun _ => .bl false) ?_
            have e : rowIs xs = false := by
              unfold rowIs
              rw [List.all_eq_false.mpr ⟨d, hm, by rw [co]; decide⟩, Bool.false_and]
            rw [e] at q
            exact q
          | true =>
            refine ifF <| ws_next ⟨rfl, ?_, _, rfl⟩
            rw [et, List.all_append, ha, List.all_cons, co]
            rfl
        · rintro ρ2 ⟨-, ha, s, rfl⟩
          rw [List.take_length] at ha
          exact ⟨ha, _, rfl⟩
      · rintro ρ' ⟨ca, s, rfl⟩
        obtain ⟨ss, rfl⟩ := all_str (fun _ => isOwn_str) ca
        unfold rowIs at q
        rw [ca, Bool.true_and, strsOf_map] at q
        rw [List.length_map] at hz
        refine ws_ret (pf := true) <| w_op <| w_lenS <| w_var (d := .tup (ss.map Dt.str)) rfl ⟨ss, rfl, hz, w_cb <| wa_cons <| w_var (d := .tup (ss.map Dt.str)) rfl <| wa_nil <| rd_len rfl <| od_eqi ?_⟩
        rw [List.length_map, uniq_dec]
        exact q
/-! ### is_lead -/
def WLead : List Dt → (Dt → Prop) → Prop := fun ds Φ => ∃ d, ds = [d] ∧ thingD d = true ∧ Φ (.bl (isRow d 4))
theorem ok_lead {f fN : Addr} {fd fdN : FuncData} {k : Nat} {tk : Tok} (F : Fun K "is_lead" "is_lead" sLead f fd) (FN : Fun K "is_name_row" "is_name_row" sRow fN fdN) (bN : Binds K fdN ["value", "most"] []) (gN : mg "is_name_row" = some (.ref fN)) (hM : mg "MOST_IN_LEAD" = some (.int 4 tk)) (G : FnOk P w K mg base CX0 k fN fdN ["value", "most"] (spP K WRow)) :
    FnOk P w K mg base CX0 (k + 1) f fd ["value"] (spP K WLead) := by
  refine defP0 F scLead (fun ds Φ ⟨d, e, _⟩ => by rw [e]; rfl) (by decide) fun cdv A outer s H E hr => ?_
  refine ⟨_, pss_one (ps_ret (pe_call G hr (by rfl) gN FN.kp bN .nil pass0 (pa_cons (pv 0) (pa_cons (pe_glob (v := .int 4) (by rfl) hM ⟨_, rfl⟩) pa_nil)))), ?_⟩
  rintro ds Φ ⟨d, rfl, hd, q⟩
  exact ws_ret (pf := true) <| w_call0 <| wa_cons <| w_var rfl <| wa_cons <| w_c (fun _ => .int 4) <| wa_nil ⟨d, 4, rfl, hd, q⟩
/-! ### is_words -/
def WWords : List Dt → (Dt → Prop) → Prop := fun ds Φ => ∃ d ms, ds = [d, .tup (ms.map Dt.str)] ∧ thingD d = true ∧ Φ (.bl (isWords ms d))
theorem ok_words {f : Addr} {fd : FuncData} (F : Fun K "is_words" "is_words" sWords f fd) (B : Bt mg) : FnOk P w K mg base CX0 1 f fd ["value", "words"] (spP K WWords) := by
  refine defP0 F scWords (fun ds Φ ⟨d, m, e, _⟩ => by rw [e]; rfl) (by decide) fun cdv A outer s H E hr => ?_
  refine ⟨_, pss_cons (ps_if (PW.pt (pw_or (pt_not (pt_val (pe_callB call_isi (by rfl) B.isi boot_isinstance (pa_cons (pv 0) (pa_cons (pe_bltn (v := .ty "tuple") (by rfl) B.tuple PyProof.Rows.boot_tuple rfl) pa_nil)))))
      (pw_or (pt_not (pt_val (pe_callB call_isi (by rfl) B.isi boot_isinstance (pa_cons (pv 1) (pa_cons (pe_bltn (v := .ty "tuple") (by rfl) B.tuple PyProof.Rows.boot_tuple rfl) pa_nil)))))
      (pw_or1 (pt_cmpR op_eq (pe_callB call_len (by rfl) B.len PySem.boot_len (pa_cons (pv 0) pa_nil)) pe_int (nomark _))))))
      (pss_one (ps_ret pe_bl)) pss_nil)
    (pss_cons (ps_if (pt_not (pt_val (pe_callB (cr_all rfl) (by rfl) B.all boot_all (pa_cons (pe_lc (own := [("word", 2)]) (g := gName 2) (tt := tYes) rfl scWords.nd (pi_tup (pv 0)) (blkOk_by (N := ["value", "words", "word"]) (sc := defScope sWords) (by decide +kernel))
      (fun _ _ _ _ _ => pg_name (i := 2) scWords.nd rfl (Or.inl rfl)) (fun _ _ _ _ _ => pts_nil) (fun _ _ _ _ _ => pe_and (pe_callB (isiK K rfl) (by rfl) B.isi boot_isinstance (pa_cons (pv 2) (pa_cons (pe_bltn (v := .ty "str") (by rfl) B.str PyProof.Rows.boot_str rfl) pa_nil)))
        (pe_one (pe_cmpR (in_seqK K rfl) (pv 2) (pv 1) (by rfl))))) pa_nil))))
      (pss_one (ps_ret pe_bl)) pss_nil)
    (pss_one (ps_ret (pe_cmpR op_eq (pe_lenS rfl (by rfl) B.len (by rfl) B.set (pv 0)) (pe_callB call_len (by rfl) B.len PySem.boot_len (pa_cons (pv 0) pa_nil)) (nomark _))))), ?_⟩
  rintro ds Φ ⟨d, ms, rfl, hd, q⟩
  refine ws_seq <| ws_if (pf := true) <| wt_or <| wt_not <| wt_B <| w_isi rfl (thingD_no hd) (kit_tup (thingD_no hd)) ⟨_, rfl, ?_⟩
  cases c : isTup d with
  | false =>
    refine ifT <| ifT <| ws_ret (pf := true) <| w_c (fun _ => .bl false) ?_
    have e : isWords ms d = false := by
      cases d with
      | tup z => cases c
      | _ => rfl
    rw [e] at q
    exact q
  | true =>
    obtain ⟨xs, rfl⟩ := isTup_of c
    obtain ⟨hz, hs⟩ := thingD_tup hd
    refine ifF <| wt_or <| wt_not <| wt_B <| w_isi (d := .tup (ms.map Dt.str)) rfl rfl (kit_tup rfl) ⟨_, rfl, ifF <| wt_test <| w_op <| w_cb <| wa_cons <| w_var rfl <| wa_nil <| rd_len rfl <| w_c (fun _ => .int 0) <| od_eqi ⟨_, rfl, ?_⟩⟩
    cases xs with
    | nil => exact ifT <| ws_ret (pf := true) <| w_c (fun _ => .bl false) q
    | cons x xs =>
      rw [decide_eq_false (show ¬ (((x :: xs).length : Nat) : Int) = 0 by rw [List.length_cons]; omega)]
      refine ifF <| ws_next <| ws_seq <| ws_if (pf := true) <| wt_not <| wt_B <| w_cb <| wa_cons <| w_lcM (fun d => .bl (wordOf ms d)) rfl <| wi_tup <| w_var rfl ⟨x :: xs, rfl, rfl, by omega, fun d hm => ?_, wa_nil ?_⟩
      · have hd' := shortD_no (hs d hm)
        refine w_andV <| w_isi rfl hd' (kit_str hd') ⟨_, rfl, ?_⟩
        cases c2 : isStr d with
        | false =>
          refine ifF ⟨?_, rfl⟩
          cases d with
          | str z => cases c2
          | _ => rfl
        | true =>
          obtain ⟨z, rfl⟩ := isStr_of c2
          exact ifT <| w_op <| w_var rfl <| w_var rfl <| od_inS (neg := false) (xs := ms) rfl ⟨rfl, rfl⟩
      · rw [map_bl]
        refine rd_all ⟨_, rfl, ?_⟩
        rw [all_id]
        have q : Φ (.bl (!(x :: xs).isEmpty && ((x :: xs).all (wordOf ms) && decide (strsOf (x :: xs)).Nodup))) := q
        cases ca : (x :: xs).all (wordOf ms) with
        | false =>
          rw [ca] at q
          exact ifT <| ws_ret (pf := true) <| w_c (fun _ => .bl false) q
        | true =>
          rw [ca] at q
          obtain ⟨ss, e⟩ := all_str (fun _ => wordOf_str) ca
          rw [e] at q hz ⊢
          rw [strsOf_map] at q
          rw [List.length_map] at hz
          refine ifF <| ws_next <| ws_ret (pf := true) <| w_op <| w_lenS <| w_var rfl ⟨ss, rfl, hz, w_cb <| wa_cons <| w_var rfl <| wa_nil <| rd_len rfl <| od_eqi ?_⟩
          rw [List.length_map, uniq_dec]
          have ne : (ss.map Dt.str).isEmpty = false := by rw [← e]; rfl
          rw [ne] at q
          exact q
end

end K04

/-! A set of tuples of whole numbers and texts: what a search in it answers is worked out on its table alone (seek); the set itself is asked for no more than that. -/
namespace DL
open PySem PySem.Spec PyProof.Rows L2
variable [Tb]

/-- the tuple at `a` has the keys `k` -/
abbrev MI (P : Program) (w : World) (h : Heap) (k : List Key) (a : Addr) : Prop := IsTupleKey (mixKind P w) h k a
abbrev mh (P : Program) (w : World) (k : List Key) : Int := tupleKeyHash (mixKind P w) k
abbrev Row := Addr × List Key
/-- a row's entry -/
def entR (P : Program) (w : World) (q : Row) : Int × Value := (mh P w q.2, .ref q.1)
def ents (P : Program) (w : World) (L : List Row) : List (Int × Value) := L.map (entR P w)
def hs (P : Program) (w : World) (L : List Row) : List Int := L.map fun q => mh P w q.2

/-! ### loops that tell nothing -/
theorem calm_loop {α β : Type} {f : α → β → Sem (ForInStep β)} {b : β} : ∀ l : List α, (∀ a ∈ l, f a b = pure (.yield b)) → (forIn l b f : Sem β) = pure b
  | [], _ => rfl
  | a :: l, h => by
    rw [List.forIn_cons, h a (.head _)]
    exact calm_loop l fun c hc => h c (.tail _ hc)
section
variable {P : Program} {w : World} {A : Around} {E : Value → Shared → Prop} {s : Shared}
theorem same_loop {M : Model} {α β : Type} {f : α → β → Sem (ForInStep β)} {b : β} {Q : β → Shared → Prop} : ∀ l : List α, (∀ a ∈ l, ∀ Q' : ForInStep β → Shared → Prop, Q' (.yield b) s → wpAny M A (f a b) Q' E s) → Q b s → wpAny M A (forIn l b f) Q E s
  | [], _, q => wpAny_pure q
  | a :: l, h, q => by
    rw [List.forIn_cons]
    exact wpAny_bind (h a (.head _) _ (same_loop l (fun c hc => h c (.tail _ hc)) q))
theorem any_loop {M : Model} {α β : Type} {f : α → β → Sem (ForInStep β)} {b : β} {Q : β → Shared → Prop} : ∀ l : List α, (∀ a ∈ l, f a b = pure (.yield b) ∨ ∃ c, f a b = pure (.done c)) → (∀ c, Q c s) → wpAny M A (forIn l b f) Q E s
  | [], _, q => wpAny_pure (q b)
  | a :: l, h, q => by
    rw [List.forIn_cons]
    rcases h a (.head _) with e | ⟨c, e⟩ <;> rw [e]
    · exact any_loop l (fun c hc => h c (.tail _ hc)) q
    · exact wpAny_pure (q c)
theorem mi_plain {k : List Key} {vs : List Value} (h : ItemsAre (mixKind P w) k vs) : ∀ v ∈ vs, (∃ i t, v = Value.int i t) ∨ ∃ x t, v = Value.str x t := by
  intro v hv
  obtain ⟨q, hq⟩ : ∃ q, (mixKind P w).is q v = true := by
    induction h with
    | nil => cases hv
    | cons a _ ih => exact (List.mem_cons.mp hv).elim (fun e => ⟨_, e ▸ a⟩) ih
  rcases q with i | x
  · exact .inl ⟨i, Value.isInt_shape hq⟩
  · exact .inr ⟨x, Value.isStrOf_shape hq⟩
/-- no class statement made such a thing -/
theorem mi_noClass {k : List Key} {b : Addr} {Q : Bool → Shared → Prop} (hk : MI P w s.heap k b) (q : Q false s) : wpAny (model P w) A (ofAClassStatement 8 (.ref b)) Q E s := by
  have ty := hk.typeIs
  obtain ⟨o, its, n, ho, _, hd, hi⟩ := hk
  unfold ofAClassStatement
  refine wpAny_bind (wpAny_typeOf ty ?_)
  show wpAny _ _ (if ("tuple" == "tuple") = true then _ else _) _ _ _
  rw [if_pos (by decide)]
  refine wpAny_bind (wpAny_pure ?_)
  show wpAny _ _ (if (!true) = true then _ else _) _ _ _
  rw [if_neg (by decide)]
  refine wpAny_bind (wpAny_seqItems ho hd ?_)
  dsimp only
  rw [← Array.forIn_toList, calm_loop its.toList fun v hv => by rcases mi_plain hi v hv with ⟨i, t, rfl⟩ | ⟨x, t, rfl⟩ <;> rfl]
  exact wpAny_bind (wpAny_pure (wpAny_pure q))
/-- whether its hash hangs on the values alone: asked without trouble -/
theorem mi_byValue {k : List Key} {b : Addr} {Q : Bool → Shared → Prop} (hk : MI P w s.heap k b) (q : ∀ v, Q v s) : wpAny (model P w) A (hashByValue 8 (.ref b)) Q E s := by
  have ty := hk.typeIs
  obtain ⟨o, its, n, ho, _, hd, hi⟩ := hk
  refine wpAny_bind (wpAny_specialOf ty F.slot_tuple_hash.lookup (wpAny_bind (wpAny_seqItems ho hd (wpAny_bind ?_))))
  rw [show (some its).getD #[Value.ellipsis] = its from rfl, ← Array.forIn_toList]
  refine any_loop its.toList (fun v hv => ?_) fun c => ?_
  · rcases mi_plain hi v hv with ⟨i, t, rfl⟩ | ⟨x, t, rfl⟩
    · exact .inl rfl
    · exact .inr ⟨_, rfl⟩
  · rcases c with ⟨_ | r, _⟩ <;> exact wpAny_pure (q _)
/-- comparing such tuples shows nothing -/
theorem mi_unseen {k : List Key} {b : Addr} {Q : Bool → Shared → Prop} (hk : MI P w s.heap k b) {ys : List Value} (all : ∀ y ∈ ys, ∃ c k', MI P w s.heap k' c ∧ y = .ref c) (q : Q false s) : wpAny (model P w) A (searchCouldBeSeen (.ref b) ys) Q E s := by
  refine wpAny_bind (same_loop ys (fun y hy Q' q' => ?_) (wpAny_pure q))
  obtain ⟨c, k', hc, rfl⟩ := all y hy
  dsimp only
  split
  · exact wpAny_pure q'
  · exact wpAny_bind (wpAny_eqIsQuiet_tuple hk (wp_if_neg (by decide) (wpAny_bind (wpAny_eqIsQuiet_tuple hc (wp_if_neg (by decide) (wpAny_bind (mi_noClass hk (wp_if_neg (by decide) (wpAny_bind (mi_noClass hc (wp_if_neg (by decide) (wpAny_pure q'))))))))))))
theorem mi_off {h h' : Heap} {k : List Key} {a S : Addr} {o : Obj} {es : Array (Int × Value)} {ep : Nat} {t : SetTable} (x : MI P w h k a) (ho : h.get? S = some o) (hd : o.data = .set es ep t) (sb : Heap.SameBut S h h') : MI P w h' k a := by
  obtain ⟨u, its, n, hu, hc, hs, hi⟩ := x
  have ne : a ≠ S := fun e => by
    rw [e, ho] at hu
    rw [← Option.some.inj hu, hd] at hs
    cases hs
  exact ⟨u, its, n, (sb.2 a ne).trans hu, hc, hs, hi⟩
theorem mi_keep {h h' : Heap} {k : List Key} {a : Addr} (x : MI P w h k a) (kp : ∀ b o, h.get? b = some o → h'.get? b = some o) : MI P w h' k a := x.elim fun u z => ⟨u, z.elim fun its z => ⟨its, z.elim fun n z => ⟨n, kp a u z.1, z.2⟩⟩⟩
end

/-! ### the table alone -/
/-- its entries and its places belong to the rows -/
structure Tab (P : Program) (w : World) (L : List Row) (es : Array (Int × Value)) (t : SetTable) : Prop where
  ent : es.toList = ents P w L
  ok : TabOk t (hs P w L)
section
variable {P : Program} {w : World} {L : List Row} {es : Array (Int × Value)} {t : SetTable}
theorem Tab.size (T : Tab P w L es t) : es.size = L.length := by rw [← Array.length_toList, T.ent]; exact List.length_map ..
theorem Tab.cnt (T : Tab P w L es t) : t.place.toList.length = L.length := by rw [Array.length_toList, T.ok.sz]; exact List.length_map ..
theorem Tab.fits (T : Tab P w L es t) (h : L.length ≤ t.mask) : t.fits es.size = true := by
  have c := T.cnt
  rw [Array.length_toList] at c
  simp [SetTable.fits, SetTable.fill, T.ok.dm, T.size, c, h]
theorem Tab.whole (T : Tab P w L es t) : ¬ t.gaveWay = true := by
  unfold SetTable.gaveWay
  rw [mask_odd T.ok.mok]
  decide
theorem Tab.at_ (T : Tab P w L es t) (i : Nat) : es[i]? = (L[i]?).map (entR P w) := by rw [← Array.getElem?_toList, T.ent]; exact List.getElem?_map ..
/-- the hash of the i-th entry, as a probe asks for it -/
abbrev hashAt (es : Array (Int × Value)) (i : Nat) : Int := (es[i]?.map (·.1)).getD 0
theorem Tab.hash (T : Tab P w L es t) {i : Nat} {q : Row} (h : L[i]? = some q) : hashAt es i = mh P w q.2 := by
  unfold hashAt
  rw [T.at_, h]
  rfl
/-- what a search for the keys k of the hash z answers, by the table -/
def seek (t : SetTable) (es : Array (Int × Value)) (L : List Row) (z : Int) (k : List Key) : Nat → Option SetTable.Probe → Option SetFound
  | 0, _ => none
  | f + 1, st => match t.probe (hashAt es) z (st.getD (t.probeStart z)) with
    | some (.empty j none) => some (.free j false)
    | some (.candidate j i next) => match L[i]? with
      | some q => if t.slot j = .live i then if q.2 = k then some (.there none) else seek t es L z k f (some next) else none
      | none => none
    | _ => none
/-- the c-th place that is looked at -/
def spot (m : Nat) (z : Int) (c : Nat) : SetTable.Probe := nth m (runAt m (SetTable.bits z % (m + 1)) (SetTable.bits z)) c
theorem spot_on (m : Nat) (z : Int) (c q : Nat) : nth m (spot m z c) q = spot m z (c + q) := (nth_add m c _ q).symm
theorem spot_clean (m : Nat) (z : Int) (c : Nat) : (spot m z c).dummy = none := by
  induction c with
  | zero => rfl
  | succ c ih =>
    show (nth m _ (c + 1)).dummy = none
    rw [nth_succ]
    show (adv m (spot m z c)).dummy = none
    unfold adv
    split
    · exact ih
    · exact ih
/-- a row with these keys stands on the way, from c on and before K -/
def Ahead (t : SetTable) (L : List Row) (z : Int) (k : List Key) (K c : Nat) : Prop := ∃ (i : Nat) (q : Row) (c' : Nat), L[i]? = some q ∧ q.2 = k ∧ c ≤ c' ∧ c' < K ∧ t.place.toList[i]? = some (way t.mask z c')
theorem seek_is (T : Tab P w L es t) {k : List Key} {K : Nat} (big : K < 10 * SetTable.turns t.mask) (free : way t.mask (mh P w k) K ∉ t.place.toList) (full : ∀ c, c < K → way t.mask (mh P w k) c ∈ t.place.toList) (n : Nat) :
    ∀ (c f : Nat) (st : Option SetTable.Probe), c + n = K → n < f → st.getD (t.probeStart (mh P w k)) = spot t.mask (mh P w k) c →
      (Ahead t L (mh P w k) k K c → seek t es L (mh P w k) k f st = some (.there none)) ∧ (¬ Ahead t L (mh P w k) k K c → seek t es L (mh P w k) k f st = some (.free (way t.mask (mh P w k) K) false)) := by
  induction n using Nat.strongRecOn with
  | ind n ih =>
    intro c f st hK hf hst
    obtain ⟨f, rfl⟩ : ∃ g, f = g + 1 := ⟨f - 1, by omega⟩
    have sp : t.probe (hashAt es) (mh P w k) (st.getD (t.probeStart (mh P w k))) = SetTable.probe.go t (hashAt es) (mh P w k) (10 * SetTable.turns t.mask) (spot t.mask (mh P w k) c) := by rw [hst]; rfl
    have row : ∀ (i : Nat) (q : Row), L[i]? = some q → q.2 = k → hashAt es i = mh P w k := fun i q h e => by rw [T.hash h, e]
    unfold seek
    rcases go_spec t T.ok.ris T.ok.dm (hashAt es) (mh P w k) (10 * SetTable.turns t.mask) n (spot t.mask (mh P w k) c) (spot_clean ..) (by omega)
        (fun a ha => by rw [spot_on]; exact full _ (by omega)) (by rw [spot_on, hK]; exact free) with ⟨a, i, ha, hi, _, before, ans⟩ | ⟨before, ans⟩
    · rw [spot_on] at hi
      rw [spot_on, spot_on] at ans
      rw [sp, ans]
      have hiL : i < L.length := T.cnt ▸ (List.getElem?_eq_some_iff.mp hi).1
      have hq : L[i]? = some L[i] := List.getElem?_eq_getElem hiL
      have live := slot_live T.ok.ris hi
      dsimp only
      rw [hq]
      dsimp only
      rw [if_pos live]
      by_cases e : L[i].2 = k
      · rw [if_pos e]
        exact ⟨fun _ => rfl, fun no => absurd ⟨i, _, c + a, hq, e, by omega, by omega, hi⟩ no⟩
      · rw [if_neg e]
        have same : Ahead t L (mh P w k) k K c ↔ Ahead t L (mh P w k) k K (c + (a + 1)) := by
          refine ⟨fun ⟨i', q, c', h1, h2, h3, h4, h5⟩ => ⟨i', q, c', h1, h2, ?_, h4, h5⟩, fun ⟨i', q, c', h1, h2, h3, h4, h5⟩ => ⟨i', q, c', h1, h2, by omega, h4, h5⟩⟩
          rcases Nat.lt_trichotomy c' (c + a) with y | y | y
          · exact absurd (row i' q h1 h2) (before (c' - c) i' (by omega) (by rw [spot_on, show c + (c' - c) = c' by omega]; exact h5))
          · have two := slot_live T.ok.ris h5
            rw [y] at two
            have : i' = i := SetTable.Slot.live.inj (two.symm.trans live)
            rw [this, hq] at h1
            exact absurd ((congrArg Prod.snd (Option.some.inj h1)).trans h2) e
          · omega
        rw [same]
        exact ih (n - (a + 1)) (by omega) (c + (a + 1)) f _ (by omega) (by omega) rfl
    · rw [spot_on, hK] at ans
      rw [sp, ans]
      refine ⟨fun ⟨i', q, c', h1, h2, h3, h4, h5⟩ => ?_, fun _ => rfl⟩
      exact absurd (row i' q h1 h2) (before (c' - c) i' (by omega) (by rw [spot_on, show c + (c' - c) = c' by omega]; exact h5))
/-- .. from the beginning: the keys are there or they are not -/
theorem seek_all (T : Tab P w L es t) (room : L.length ≤ t.mask) (k : List Key) :
    (k ∈ L.map Prod.snd ∧ seek t es L (mh P w k) k 100000 none = some (.there none)) ∨
    (k ∉ L.map Prod.snd ∧ ∃ K, seek t es L (mh P w k) k 100000 none = some (.free (way t.mask (mh P w k) K) false) ∧ way t.mask (mh P w k) K ∉ t.place.toList ∧ ∀ c, c < K → way t.mask (mh P w k) c ∈ t.place.toList) := by
  obtain ⟨K, big, free, full⟩ := T.ok.first (by rw [hs, List.length_map]; exact room) (mh P w k)
  have lim : 10 * SetTable.turns t.mask ≤ 2000 := by
    unfold SetTable.turns
    rcases T.ok.mok with e | e | e <;> rw [e] <;> decide
  obtain ⟨yes, no⟩ := seek_is T big free full K 0 100000 none (Nat.zero_add K) (by omega) rfl
  by_cases e : k ∈ L.map Prod.snd
  · obtain ⟨q, hq, rfl⟩ := List.mem_map.mp e
    obtain ⟨i, hi⟩ := List.getElem?_of_mem hq
    have lt : i < t.place.toList.length := T.cnt ▸ (List.getElem?_eq_some_iff.mp hi).1
    obtain ⟨c', l, ew⟩ := T.ok.before free (i := i) (by rw [hs, List.getElem?_map, hi]; rfl) (List.getElem?_eq_getElem lt)
    exact .inl ⟨e, yes ⟨i, q, c', hi, rfl, Nat.zero_le _, l, by rw [ew]; exact List.getElem?_eq_getElem lt⟩⟩
  · exact .inr ⟨e, K, no fun ⟨i, q, _, h1, h2, _⟩ => e (h2 ▸ List.mem_map_of_mem (List.mem_of_getElem? h1)), free, full⟩
/-! ### a row more, and a larger table -/
theorem Tab.put (T : Tab P w L es t) {x : Addr} {k : List Key} {K : Nat} (free : way t.mask (mh P w k) K ∉ t.place.toList) (full : ∀ c, c < K → way t.mask (mh P w k) c ∈ t.place.toList) :
    ∃ L1 : List Row, L1.Perm ((x, k) :: L) ∧ Tab P w L1 (SetTable.insertAt es (t.put (way t.mask (mh P w k) K)).2 (mh P w k, .ref x)) (t.put (way t.mask (mh P w k) K)).1 ∧
      (t.put (way t.mask (mh P w k) K)).1.mask = t.mask ∧ (t.put (way t.mask (mh P w k) K)).1.fill = L.length + 1 := by
  obtain ⟨e1, _, ok, e2, _, _, _, _, e3⟩ := T.ok.put free full
  refine ⟨L.take (SetTable.below t.place (way t.mask (mh P w k) K)) ++ (x, k) :: L.drop (SetTable.below t.place (way t.mask (mh P w k) K)), ?_, ⟨?_, ?_⟩, e2, by rw [e3, hs, List.length_map]⟩
  · exact put_perm L _ (x, k)
  · rw [SetTable.toList_insertAt, e1, T.ent]
    simp [ents, entR]
  · simpa [hs] using ok
/-- numbers turned into what stands there -/
theorem picked {α β : Type} (L : List α) (g : α → β) : ∀ o : List Nat, (∀ i ∈ o, i < L.length) → o.filterMap (fun i => (L[i]?).map g) = (o.filterMap fun i => L[i]?).map g := fun o _ => by rw [List.map_filterMap]
theorem range_picks {α : Type} (L : List α) : (List.range L.length).filterMap (fun i => L[i]?) = L := by
  induction L with
  | nil => rfl
  | cons a L ih =>
    rw [List.length_cons, List.range_succ_eq_map, List.filterMap_cons]
    simp only [List.getElem?_cons_zero, List.filterMap_map]
    exact congrArg (a :: ·) ih
theorem Tab.picked_hash (T : Tab P w L es t) : ∀ o : List Nat, (∀ i ∈ o, i < L.length) → hs P w (o.filterMap fun i => L[i]?) = o.map fun i => (es.map (·.1)).getD i 0
  | [], _ => rfl
  | i :: o, h => by
    have z := T.picked_hash o fun j hj => h j (.tail _ hj)
    unfold hs at z ⊢
    simp [List.getElem?_eq_getElem (h i (.head _)), T.at_, entR, z]
theorem Tab.relay (T : Tab P w L es t) {n M : Nat} (e1 : SetTable.sizeAbove n - 1 = M) (e2 : MaskOk M) (e3 : L.length ≤ M) :
    ∃ t' ord L', t.relaid (es.map (·.1)) n = some (t', ord) ∧ L'.Perm L ∧ Tab P w L' (ord.filterMap (es[·]?)) t' ∧ t'.mask = M := by
  have sz := T.size
  obtain ⟨t', ord, rl, pm, ok, mk, _⟩ := relaid_ok t (hs := es.map (·.1)) (wanted := n) e1 e2 (by rw [Array.size_map, sz]; exact e3)
  rw [Array.size_map, sz] at pm
  have inL : ∀ i ∈ ord.toList, i < L.length := fun i hi => List.mem_range.mp (pm.mem_iff.mp hi)
  refine ⟨t', ord, ord.toList.filterMap fun i => L[i]?, rl, by have z := pm.filterMap fun i => L[i]?; rwa [range_picks] at z, ⟨?_, ?_⟩, mk⟩
  · rw [Array.toList_filterMap, ents, ← picked L (entR P w) _ inL]
    exact congrArg (List.filterMap · ord.toList) (funext T.at_)
  · rw [← T.picked_hash _ inL] at ok
    exact ok
end

/-! ### the set -/
structure SM (P : Program) (w : World) (h : Heap) (S : Addr) (L : List Row) (es : Array (Int × Value)) (ep : Nat) (t : SetTable) : Prop where
  obj : ∃ o, h.get? S = some o ∧ o.ExactSet ∧ o.data = .set es ep t
  tab : Tab P w L es t
  one : (L.map Prod.snd).Nodup
  here : ∀ q ∈ L, MI P w h q.2 q.1
  sp : L.length * 5 < t.mask * 3
  sm : L.length < 64
section
variable {P : Program} {w : World} {A : Around} {E : Value → Shared → Prop} {s : Shared} {S : Addr} {L : List Row} {es : Array (Int × Value)} {ep : Nat} {t : SetTable}
theorem SM.fits {h : Heap} (R : SM P w h S L es ep t) : t.fits es.size = true := R.tab.fits (by have := R.sp; omega)
/-- what the table answers the search in the set answers, and nothing is changed by it -/
theorem seek_run (R : SM P w s.heap S L es ep t) {x : Addr} {k : List Key} (hx : MI P w s.heap k x) (hu : A.units < cLine) {r : SetFound} {Q : SetFound → Shared → Prop} (q : Q r s) (f : Nat) :
    ∀ st : Option SetTable.Probe, seek t es L (mh P w k) k f st = some r → wpAny (model P w) A (setSearchFrom S (.ref x) (mh P w k) true f st) Q E s := by
  obtain ⟨o, ho, _, hd⟩ := R.obj
  induction f with
  | zero => exact fun st e => nomatch e
  | succ f ih =>
    intro st e
    rw [setSearchFrom_succ]
    refine wpAny_bind (wpAny_setState_of ho hd R.fits (wp_if_neg R.tab.whole ?_))
    unfold seek at e
    split at e
    · rename_i j hp
      rw [show t.probe (fun i => (es[i]?.map (·.1)).getD 0) (mh P w k) (st.getD (t.probeStart (mh P w k))) = _ from hp]
      exact wpAny_pure (Option.some.inj e ▸ q)
    · rename_i j i next hp
      rw [show t.probe (fun i => (es[i]?.map (·.1)).getD 0) (mh P w k) (st.getD (t.probeStart (mh P w k))) = _ from hp]
      split at e
      · rename_i z hz
        split at e
        · rename_i live
          have ent : es[i]? = some (mh P w z.2, .ref z.1) := by rw [R.tab.at_, hz]; rfl
          have rest : wpAny (model P w) A (searchRest S (.ref x) (mh P w k) true f es t j i next) Q E s := by
            unfold searchRest
            rw [ent]
            refine wpAny_bind (wpAny_holding (wpAny_eqBool_tuple hu (R.here z (List.mem_of_getElem? hz)) hx (wpAny_bind (wpAny_setState_of ho hd R.fits ?_))))
            split at e
            · rename_i same
              exact wp_if_pos (by simp [same]) (wpAny_pure (Option.some.inj e ▸ q))
            · rename_i other
              refine wp_if_neg (by simp [other]) ?_
              rw [sameMem]
              simp only [if_true, live, ent]
              refine wpAny_bind (wpAny_isSame_ref_self (wpAny_bind (wpAny_pure ?_)))
              simp only [if_true]
              exact wp_if_neg (by simp [other]) (ih _ e)
          dsimp only
          split
          · refine wpAny_bind (mi_unseen hx (fun y hy => ?_) (wp_if_neg (by decide) rest))
            obtain ⟨u, hu, rfl⟩ := List.mem_map.mp hy
            have hu : u ∈ es.toList := Array.mem_toList_iff.mpr (Array.mem_filter.mp (Array.mem_toList_iff.mp hu)).1
            rw [R.tab.ent] at hu
            obtain ⟨z2, h2, rfl⟩ := List.mem_map.mp hu
            exact ⟨z2.1, z2.2, R.here z2 h2, rfl⟩
          · exact rest
        · cases e
      · cases e
    · cases e
/-- a table and its entries written into the set -/
theorem SM.store {h : Heap} {o : Obj} (ho : h.get? S = some o) (ex : o.ExactSet) (hd : o.data = .set es ep t) {L1 : List Row} {es1 : Array (Int × Value)} {t1 : SetTable} (T : Tab P w L1 es1 t1) (one : (L1.map Prod.snd).Nodup) (here : ∀ q ∈ L1, MI P w h q.2 q.1)
    (sp : L1.length * 5 < t1.mask * 3) (sm : L1.length < 64) : SM P w (h.update S (Obj.putSet es1 t1)) S L1 es1 (ep + 1) t1 :=
  ⟨⟨_, store_at ho hd, ⟨ex.1, ex.2.1, ex.2.2⟩, rfl⟩, T, one, fun q hq => mi_off (here q hq) ho hd (Heap.SameBut.update ..), sp, sm⟩
theorem relaySM {o : Obj} (ho : s.heap.get? S = some o) (ex : o.ExactSet) (hd : o.data = .set es ep t) (T : Tab P w L es t) (le : L.length ≤ t.mask) (one : (L.map Prod.snd).Nodup) (here : ∀ q ∈ L, MI P w s.heap q.2 q.1) (sm : L.length < 64)
    {n M : Nat} (e1 : SetTable.sizeAbove n - 1 = M) (e2 : MaskOk M) (e3 : SetTable.sizeAbove n ≤ 128) (e4 : L.length * 5 < M * 3) {Q : Unit → Shared → Prop}
    (k : ∀ h' L' es' ep' t', Heap.SameBut S s.heap h' → SM P w h' S L' es' ep' t' → L'.Perm L → Q () { s with heap := h' }) : wpAny (model P w) A (setRelay S n) Q E s := by
  obtain ⟨t', ord, L', rl, pm, T', mk⟩ := T.relay e1 e2 (by omega)
  have sz : (ord.filterMap (es[·]?)).size = es.size := by rw [T'.size, T.size, pm.length_eq]
  rw [setRelay_eq]
  refine wpAny_bind (wpAny_setState_of ho hd (T.fits le) (wp_if_neg (by rw [sizeLine_eq]; omega) ?_))
  rw [rl]
  refine wpAny_bind (wp_if_neg (by rw [sz]; simp) (wpAny_pure ?_))
  refine wpAny_storeSet_of ho hd ?_ (by show Array.size _ ≤ _; rw [sz, T.size, sizeLine_eq]; omega)
  exact k _ _ _ _ _ (Heap.SameBut.update ..) (SM.store ho ex hd T' ((pm.map _).nodup_iff.mpr one) (fun q hq => here q (pm.mem_iff.mp hq)) (by rw [pm.length_eq, mk]; exact e4) (by rw [pm.length_eq]; exact sm)) pm
theorem Tab.marked (T : Tab P w L es t) (v : Bool) : Tab P w L es (if v = true then t else { t with plain := false }) := by
  cases v
  · exact ⟨T.ent, ⟨T.ok.ris, T.ok.dm, T.ok.sz, T.ok.mok, T.ok.bd, T.ok.reach⟩⟩
  · exact T
/-- the table's word, whether its things are plain, may fall or stay -/
theorem word_go {x : Addr} {k : List Key} (hx : MI P w s.heap k x) {b : Bool} {α : Type} {f : Bool → Sem α} {Q : α → Shared → Prop} (h : ∀ v, wpAny (model P w) A (f v) Q E s) :
    wpAny (model P w) A (if b = true then hashByValue 8 (.ref x) >>= f else pure true >>= f) Q E s := by
  cases b
  · exact wp_if_neg (by decide) (wpAny_bind (wpAny_pure (h true)))
  · exact wp_if_pos rfl (wpAny_bind (mi_byValue hx h))
/-- when a table is laid anew, and how large -/
theorem fuller {m n : Nat} (hm : MaskOk m) (h1 : n * 5 < m * 3) (h2 : (n + 1) * 5 ≥ m * 3) (h3 : n + 1 < 64) : ∃ M, SetTable.sizeAbove (SetTable.grown (n + 1)) - 1 = M ∧ MaskOk M ∧ SetTable.sizeAbove (SetTable.grown (n + 1)) ≤ 128 ∧ (n + 1) * 5 < M * 3 := by
  rcases hm with e | e | e
  · obtain rfl : n = 4 := by omega
    exact ⟨31, by rw [size_20], .inr (.inl rfl), by rw [size_20]; decide, by decide⟩
  · obtain rfl : n = 18 := by omega
    exact ⟨127, by rw [size_76], .inr (.inr rfl), by rw [size_76]; decide, by decide⟩
  · omega
theorem addSM (R : SM P w s.heap S L es ep t) {x : Addr} {k : List Key} (hx : MI P w s.heap k x) (hu : A.units < cLine) (few : L.length + 1 < 64) {Q : Bool → Shared → Prop}
    (K : ∀ b h' L' es' ep' t', Heap.SameBut S s.heap h' → SM P w h' S L' es' ep' t' → (k ∈ L.map Prod.snd → L' = L) → (k ∉ L.map Prod.snd → L'.Perm ((x, k) :: L)) → Q b { s with heap := h' }) : wpAny (model P w) A (setAddHashed S (.ref x) (mh P w k)) Q E s := by
  obtain ⟨o, ho, ex, hd⟩ := R.obj
  have sp := R.sp
  unfold setAddHashed
  rw [show (100000 : Nat) = 99999 + 1 from rfl, setAddHashedIn_succ]
  refine wpAny_holding (wpAny_bind (wpAny_setState_of ho hd R.fits (wp_if_neg (by simp [byScan, Value.scannable]) (wpAny_bind ?_))))
  rcases seek_all R.tab (by omega) k with ⟨old, e⟩ | ⟨new, c, e, free, full⟩
  · exact seek_run R hx hu (wpAny_pure (K false _ L es ep t (Heap.SameBut.refl S _) R (fun _ => rfl) fun z => absurd old z)) 100000 none e
  · refine seek_run R hx hu (wpAny_bind (wpAny_setState_of ho hd R.fits ?_)) 100000 none e
    obtain ⟨L1, pm, T1, mk, fl⟩ := R.tab.put (x := x) free full
    dsimp only
    generalize t.put (way t.mask (mh P w k) c) = pt at T1 mk fl ⊢
    obtain ⟨t1, p⟩ := pt
    dsimp only at T1 mk fl ⊢
    refine word_go hx fun v => ?_
    have T2 := T1.marked v
    have m2 : (if v = true then t1 else { t1 with plain := false }).mask = t.mask ∧ (if v = true then t1 else { t1 with plain := false }).fill = L.length + 1 := by cases v <;> exact ⟨mk, fl⟩
    generalize (if v = true then t1 else { t1 with plain := false }) = t2 at T2 m2 ⊢
    generalize SetTable.insertAt es p (mh P w k, Value.ref x) = es1 at T2 ⊢
    have n1 : L1.length = L.length + 1 := pm.length_eq
    have one1 : (L1.map Prod.snd).Nodup := (pm.map _).nodup_iff.mpr (List.nodup_cons.mpr ⟨new, R.one⟩)
    have here1 : ∀ q ∈ L1, MI P w s.heap q.2 q.1 := fun q hq => (List.mem_cons.mp (pm.mem_iff.mp hq)).elim (fun e => e ▸ hx) (R.here q)
    refine wpAny_bind (wpAny_storeSet_of ho hd ?_ (by rw [T2.size, n1, sizeLine_eq]; omega))
    have sb : Heap.SameBut S s.heap (s.heap.update S (Obj.putSet es1 t2)) := Heap.SameBut.update ..
    split
    · rename_i full2
      have big : (L.length + 1) * 5 ≥ t.mask * 3 := by
        have z : t2.tooFull = true := by simpa using full2
        unfold SetTable.tooFull at z
        rw [decide_eq_true_eq, m2.1, m2.2] at z
        omega
      obtain ⟨M, f1, f2, f3, f4⟩ := fuller R.tab.ok.mok sp big few
      rw [R.tab.size]
      refine wpAny_bind (relaySM (s := { s with heap := s.heap.update S (Obj.putSet es1 t2) }) (store_at ho hd) ⟨ex.1, ex.2.1, ex.2.2⟩ rfl T2 (by rw [m2.1, n1]; omega) one1 (fun q hq => mi_off (here1 q hq) ho hd sb) (by omega) f1 f2 f3 (by rw [n1]; exact f4) fun h2 L2 es2 ep2 t3 sb2 R2 pm2 => wpAny_pure ?_)
      exact K true h2 L2 es2 ep2 t3 (sb.trans sb2) R2 (fun z => absurd z new) fun _ => pm2.trans pm
    · rename_i roomy
      refine wpAny_pure (K true _ L1 es1 (ep + 1) t2 sb (SM.store ho ex hd T2 one1 here1 ?_ (by omega)) (fun z => absurd z new) fun _ => pm)
      have z : ¬ t2.tooFull = true := by simpa using roomy
      unfold SetTable.tooFull at z
      rw [decide_eq_true_eq, m2.2] at z
      omega
end
end DL

/-! len(set(t)), t a tuple of tuples of whole numbers and texts: the rule. -/
namespace DL
open PySem PySem.Spec PyProof.Rows L2
variable [Tb]

/-! ### each once -/
section
variable {α : Type} [DecidableEq α]
def addG (acc : List α) (x : α) : List α := if x ∈ acc then acc else acc ++ [x]
def onceG (xs : List α) : List α := xs.foldl addG []
theorem onceG_snoc (xs : List α) (x : α) : onceG (xs ++ [x]) = addG (onceG xs) x := by
  unfold onceG
  rw [List.foldl_append]
  rfl
theorem addG_len (acc : List α) (x : α) : (addG acc x).length ≤ acc.length + 1 := by
  unfold addG
  split
  · exact Nat.le_succ _
  · rw [List.length_append]
    exact Nat.le_refl _
theorem foldG_le : ∀ (r acc : List α), (r.foldl addG acc).length ≤ acc.length + r.length
  | [], acc => Nat.le_refl _
  | x :: r, acc => by
    have h := foldG_le r (addG acc x)
    have h2 := addG_len acc x
    rw [List.foldl_cons, List.length_cons]
    omega
theorem onceG_le (xs : List α) : (onceG xs).length ≤ xs.length := by
  have h := foldG_le xs ([] : List α)
  simpa [onceG] using h
theorem onceG_full (xs : List α) : (onceG xs).length = xs.length ↔ xs.Nodup := by
  have go : ∀ (r acc : List α), (r.foldl addG acc).length = acc.length + r.length ↔ (∀ x ∈ r, x ∉ acc) ∧ r.Nodup := by
    intro r
    induction r with
    | nil => intro acc; simp
    | cons x r ih =>
      intro acc
      rw [List.foldl_cons, List.length_cons, List.nodup_cons]
      by_cases c : x ∈ acc
      · rw [show addG acc x = acc from if_pos c]
        have h := foldG_le r acc
        exact ⟨fun z => by omega, fun z => absurd c (z.1 x (.head _))⟩
      · rw [show addG acc x = acc ++ [x] from if_neg c]
        have h := ih (acc ++ [x])
        rw [List.length_append, List.length_singleton] at h
        rw [show acc.length + (r.length + 1) = acc.length + 1 + r.length by omega, h]
        refine ⟨fun ⟨h1, h2⟩ => ⟨fun y hy => ?_, fun hx => h1 x hx (by simp), h2⟩, fun ⟨h1, h2, h3⟩ => ⟨fun y hy z => ?_, h3⟩⟩
        · rcases List.mem_cons.mp hy with e | hy
          · rw [e]; exact c
          · exact fun z => h1 y hy (List.mem_append_left _ z)
        · rcases List.mem_append.mp z with z | z
          · exact h1 y (.tail _ hy) z
          · rw [List.mem_singleton.mp z] at hy; exact h2 hy
  have h := go xs []
  simpa [onceG] using h
end

section
variable {P : Program} {w : World} {A : Around} {E : Value → Shared → Prop} {s : Shared}
/-- the set at S holds just the keys of ks; its tuples stand in h0 already -/
def SetM (P : Program) (w : World) (h0 h : Heap) (S : Addr) (ks : List (List Key)) : Prop := ∃ L es ep t, SM P w h S L es ep t ∧ (∀ q ∈ L, MI P w h0 q.2 q.1) ∧ (L.map Prod.snd).Perm (onceG ks)
variable {h0 : Heap}
theorem SetM.at {h h' : Heap} {S : Addr} {ks : List (List Key)} (q : SetM P w h0 h S ks) (k : ∀ o, h.get? S = some o → h'.get? S = some o) (kp : Kp h0 h') : SetM P w h0 h' S ks := by
  obtain ⟨L, es, ep, tb, R, u, p⟩ := q
  obtain ⟨o, ho, r⟩ := R.obj
  exact ⟨L, es, ep, tb, ⟨⟨o, k o ho, r⟩, R.tab, R.one, fun z hz => mi_keep (u z hz) kp, R.sp, R.sm⟩, u, p⟩
theorem SetM.new {h : Heap} {S : Addr} (ho : h.get? S = some (objS w)) : SetM P w h0 h S [] := by
  refine ⟨[], #[], 0, .fresh 0 0 (!w.params.followText "set-order"), ⟨⟨_, ho, ⟨rfl, rfl, rfl⟩, rfl⟩, ⟨rfl, ⟨List.Pairwise.nil, rfl, rfl, .inl rfl, (fun _ z => nomatch z), fun i _ _ z => ?_⟩⟩, List.nodup_nil, (fun _ z => nomatch z), ?_, ?_⟩, (fun _ z => nomatch z), List.Perm.nil⟩
  · exact nomatch (show none = some _ from z)
  · show 0 * 5 < 7 * 3
    decide
  · show 0 < 64
    decide
theorem SetM.add {S : Addr} {ks : List (List Key)} {x : Addr} {k : List Key} {Q : Bool → Shared → Prop} (q : SetM P w h0 s.heap S ks) (hx : MI P w h0 k x) (kp : Kp h0 s.heap) (hS : h0.get? S = none) (hu : A.units < cLine) (few : ks.length + 1 < 64)
    (K : ∀ b h', Heap.SameBut S s.heap h' → SetM P w h0 h' S (ks ++ [k]) → Kp h0 h' → Q b { s with heap := h' }) : wpAny (model P w) A (setAddHashed S (.ref x) (mh P w k)) Q E s := by
  obtain ⟨L, es, ep, t, R, u, p⟩ := q
  have l1 : L.length ≤ ks.length := by
    have e := p.length_eq
    rw [List.length_map] at e
    rw [e]
    exact onceG_le ks
  refine addSM R (mi_keep hx kp) hu (by omega) fun b h' L' es' ep' t' sb R' same more => K b h' sb ⟨L', es', ep', t', R', ?_, ?_⟩ fun a o e => ?_
  · intro z hz
    by_cases c : k ∈ L.map Prod.snd
    · rw [same c] at hz
      exact u z hz
    · rcases List.mem_cons.mp ((more c).mem_iff.mp hz) with e | hz
      · rw [e]; exact hx
      · exact u z hz
  · rw [onceG_snoc]
    by_cases c : k ∈ L.map Prod.snd
    · rw [same c, show addG (onceG ks) k = onceG ks from if_pos (p.mem_iff.mp c)]
      exact p
    · rw [show addG (onceG ks) k = onceG ks ++ [k] from if_neg fun z => c (p.mem_iff.mpr z)]
      exact ((more c).map Prod.snd).trans ((p.cons k).trans (List.perm_append_singleton k _).symm)
  · rw [sb.2 a fun z => by rw [z, hS] at e; cases e]
    exact kp a o e
theorem call_setM {l : Addr} {items : Array Value} (xs : List Row) {Q : Value → Shared → Prop} (hh : A.handled = none) (hl : s.heap.IsTuple l items) (hit : items.toList = xs.map fun q => Value.ref q.1) (here : ∀ q ∈ xs, MI P w s.heap q.2 q.1) (hb : xs.length < 64) (hu : A.units + 8 < cLine)
    (h : ∀ (h' : Heap) (tk : Nat), SetM P w s.heap h' s.heap.objs.size (xs.map Prod.snd) → Kp s.heap h' → Q (.ref s.heap.objs.size) { s with heap := h', toks := tk }) :
    wpAny (model P w) A (call (.type "set") [.ref l]) Q E s := by
  have hz : items.size = xs.length := by rw [← Array.length_toList, hit, List.length_map]
  refine call_setG (J := fun i h => SetM P w s.heap h s.heap.objs.size ((xs.take i).map Prod.snd)) hh hl ⟨fun i h h' q e kp => q.at (fun o z => e.trans z) kp, fun i h ⟨_, _, _, _, R, _⟩ => R.obj.elim fun o z => ⟨o, z.1⟩⟩
    (fun h' e _ => SetM.new e) (fun i v s1 Q1 E1 hv q kp k => ?_) fun h' tk q kp => h h' tk (by rw [hz, List.take_length] at q; exact q) kp
  rw [← Array.getElem?_toList, hit, List.getElem?_map] at hv
  obtain ⟨⟨x, ks⟩, hx, rfl⟩ := Option.map_eq_some_iff.mp hv
  have hxs := here _ (List.mem_of_getElem? hx)
  have gone : s.heap.get? s.heap.objs.size = none := by
    cases e : s.heap.get? s.heap.objs.size with
    | none => rfl
    | some o => exact absurd (Heap.lt_size e) (Nat.lt_irrefl _)
  refine wpAny_holding (wpAny_bind (wpAny_pyHash_tuple (by first | omega | (simp only [Around.in1_units]; omega)) (show MI P w s1.heap ks x from mi_keep hxs kp) ?_))
  refine SetM.add (s := { s1 with toks := s1.toks + (ks.length + 1) }) q hxs kp gone (by first | omega | (simp only [Around.in1_units]; omega)) (by have := (List.getElem?_eq_some_iff.mp hx).1; rw [List.length_map, List.length_take]; omega) fun b h' sb q2 kp2 => k b h' _ sb ?_
  show SetM P w s.heap h' _ ((xs.take (i + 1)).map Prod.snd)
  rw [List.take_add_one, hx, List.map_append]
  exact q2
end
/-! ### the rule -/
theorem vals_rows : ∀ {rows : List Row} {us : List Value}, Vals (rows.map fun q => V.ref q.1) us → us = rows.map fun q => Value.ref q.1
  | [], [], _ => rfl
  | q :: rows, u :: us, h => by
    cases h with
    | cons a b =>
      cases a
      rw [vals_rows b]
      rfl
def tLenM (K : PySem.W.Frag) (ta : TE) : TE := fun σ H Q => ta σ H fun x H1 => ∃ (l : Addr) (rows : List Row), x = .ref l ∧ SqT K H1 l (rows.map fun q => V.ref q.1) ∧ (∀ q ∈ rows, SqT K H1 q.1 (q.2.map kV)) ∧ rows.length < 64 ∧ Q (.int ((onceG (rows.map Prod.snd)).length : Nat)) H1
theorem pe_lenM {X : Cx} {a : Expr} {ta : TE} {p p2 q pos : Pos} (hc : X.calm = true) (hu : X.A.units + 64 < cLine) (hg : Gl X "len") (hm : X.mg "len" = none) (hg2 : Gl X "set") (hm2 : X.mg "set" = none) (ha : PE X a ta)
    (na : starEach [a] X.env = (false, eval a X.env) :: starEach [] X.env := by rfl) :
    PE X (.Call (.Name "len" p) [.Call (.Name "set" p2) [a] [] q] [] pos) (tLenM X.K ta) := by
  constructor
  intro pins s σ H Q I h
  refine Call_ (ld_blt I hg hm boot_len (PyProof.Rows.callWith_builtin1 (PyProof.Rows.args_cons ?_ rfl) rfl rfl))
  refine Call_ (ld_blt I hg2 hm2 boot_set (PyProof.Rows.callWith_type1 (PyProof.Rows.args_cons ?_ na) na rfl))
  refine thn (ha.run pins s σ H _ I h) ?_
  intro v s1 ⟨x, H1, I1, r1, l, rows, ex, hq, hrow, hz, q1⟩
  subst ex
  cases r1
  refine PyProof.Rows.args_nil ?_
  obtain ⟨its, r, ht, _⟩ := I1.tuple hq
  have here : ∀ q ∈ rows, MI X.prog X.w s1.heap q.2 q.1 := fun q hq => by
    obtain ⟨js, rj, ⟨o, ho, hcl, n, hd⟩, _⟩ := I1.tuple (hrow q hq)
    exact ⟨o, js.toArray, n, ho, hcl, hd, by simpa using items_are rj⟩
  refine call_setM rows (I1.ok.hd hc) ht (by simpa using vals_rows r) here hz (by first | omega | (simp only [Around.in1_units]; omega) | (simp only [units_in1]; omega)) fun h' tk hS hk => ?_
  refine PyProof.Rows.args_nil ?_
  obtain ⟨L, es, ep, t, R, _, pm⟩ := hS
  obtain ⟨o, ho, hex, hd⟩ := R.obj
  have I2 : Inv X pins σ H1 { s1 with heap := h', toks := tk } := I1.kept hk
  have hn : es.size = (onceG (rows.map Prod.snd)).length := by
    have e := pm.length_eq
    rw [List.length_map] at e
    rw [R.tab.size, e]
  have hlt : es.size < 64 := by rw [R.tab.size]; exact R.sm
  have hf := R.fits
  exact call_len_set ho hex hd hf (by omega) ⟨.int (onceG (rows.map Prod.snd)).length, H1, I2.tok _, ⟨_, by rw [hn]⟩, q1⟩
def keyT : Key → Dt
  | .inl i => .int i
  | .inr x => .str x
def rowT (ks : List Key) : Dt := .tup (ks.map keyT)
section
variable {K : PySem.W.Frag} {H : Hp}
theorem dxs_keys : ∀ {ks : List Key} {vs : List V}, DXs K H vs (ks.map keyT) → vs = ks.map kV
  | [], _, .nil => rfl
  | .inl i :: ks, _, .cons a b => by
    cases a
    rw [dxs_keys b]
    rfl
  | .inr x :: ks, _, .cons a b => by
    cases a
    rw [dxs_keys b]
    rfl
theorem dxs_rows : ∀ {kss : List (List Key)} {vs : List V}, DXs K H vs (kss.map rowT) → ∃ rows : List Row, vs = rows.map (fun q => V.ref q.1) ∧ rows.map Prod.snd = kss ∧ ∀ q ∈ rows, SqT K H q.1 (q.2.map kV)
  | [], _, .nil => ⟨[], rfl, rfl, fun _ z => nomatch z⟩
  | ks :: kss, _, .cons a b => by
    obtain ⟨rows, e1, e2, e3⟩ := dxs_rows b
    have a' : DX K H _ (.tup (ks.map keyT)) := a
    cases a' with
    | @tup t vs ds hs ha =>
      rw [dxs_keys ha] at hs
      refine ⟨(t, ks) :: rows, by rw [e1]; rfl, by rw [← e2]; rfl, fun q hq => ?_⟩
      rcases List.mem_cons.mp hq with e | hq
      · rw [e]; exact hs
      · exact e3 q hq
end
section
variable {K : PySem.W.Frag} {pf : Bool} {ρ : List Sl} {te : TE} {Φ : Dt → List Sl → Prop}
theorem w_lenM (h : Wp K pf te ρ fun d ρ1 => ∃ kss : List (List Key), d = .tup (kss.map rowT) ∧ kss.length < 64 ∧ Φ (.int ((onceG kss).length : Nat)) ρ1) : Wp K pf (tLenM K te) ρ Φ := fun M σ H S Q q =>
  h M σ H S _ fun v H1 d ρ1 s1 S1 x1 ⟨kss, e, hz, f⟩ => by
    subst e
    cases x1 with
    | tup hs ha =>
      obtain ⟨rows, e1, e2, e3⟩ := dxs_rows ha
      rw [e1] at hs
      refine ⟨_, rows, rfl, same_T (cut_sub M H1) hs, fun q hq => same_T (cut_sub M H1) (e3 q hq), by rw [← e2, List.length_map] at hz; exact hz, ?_⟩
      rw [e2]
      exact q _ H1 _ ρ1 s1 S1 (.int _) f
end
end DL

set_option maxHeartbeats 2000000
namespace K04
open PySem PySem.Spec PyProof.Rows L2 DL
variable [Tb]
/-! ### == of data -/
section
variable {K : PySem.W.Frag} {Ψ : Dt → Prop} {d1 d2 : Dt} {b : Bool}
theorem od_eqV (s1 : d1.seqs = true) (s2 : d2.seqs = true) (h1 : SeqAt.shaped d1.py = true) (h2 : SeqAt.shaped d2.py = true) (e : PyData.eqv d1.py d2.py = b) (h : Ψ (.bl b)) : OD K (rEqD K) d1 d2 Ψ := fun M H u v m x1 x2 Q q => by
  refine ⟨_, _, (x1.mono (cut_sub M H)).dp s1, (x2.mono (cut_sub M H)).dp s2, h1, h2, ?_⟩
  rw [e]
  exact q _ H _ (Same.refl H) (.bl _) h
end
def wordIs (z : Str) : Dt → Bool
  | .str x => decide (x = z)
  | _ => false
theorem eqv_word (z : Str) : ∀ {d : Dt}, d.seqs = true → PyData.eqv d.py (Dt.str z).py = wordIs z d
  | .str x, _ => by
    simp only [Dt.py, PyData.eqv, wordIs]
    by_cases e : x = z
    · subst e; simp
    · simp [e]
  | .non, _ => rfl
  | .bl _, _ => rfl
  | .int _, _ => rfl
  | .lst _, _ => rfl
  | .tup _, _ => rfl
  | .ty _, h => nomatch h
  | .dct _ _, h => nomatch h
  | .ins _ _ _ _, h => nomatch h
  | .cls _, h => nomatch h
  | .exc _ _ _ _, h => nomatch h
/-! ### turns -/
def intOf : Dt → Int
  | .int i => i
  | _ => 0
def within (lo hi : Int) (d : Dt) : Bool := decide (lo ≤ intOf d) && decide (intOf d < hi)
def turn3 (p q : Int) (r b e : Dt) : Bool := DL.isInt b && (DL.isInt e && (if wordIs "sleep" r = true then within 1 p b && within 0 q e else if wordIs "wake" r = true then within 1 q b && within 0 p e else false))
def turnOk (p q : Int) : Dt → Bool
  | .tup [r, b, e] => turn3 p q r b e
  | _ => false
/-- a part of a turn that can be looked at -/
def partD (d : Dt) : Bool := noTy d && (d.seqs && SeqAt.shaped d.py)
def turnD : Dt → Bool
  | .tup xs => decide (xs.length ≤ 1000) && xs.all partD
  | d => noTy d
theorem turnD_no {d : Dt} (h : turnD d = true) : noTy d = true := by
  cases d with
  | tup _ => rfl
  | _ => exact h
theorem partD_of {d : Dt} (h : partD d = true) : noTy d = true ∧ d.seqs = true ∧ SeqAt.shaped d.py = true := by
  unfold partD at h
  rw [Bool.and_eq_true, Bool.and_eq_true] at h
  exact ⟨h.1, h.2.1, h.2.2⟩
theorem word_ok : SeqAt.shaped (Dt.str "sleep").py = true ∧ SeqAt.shaped (Dt.str "wake").py = true := by decide +kernel
theorem isInt_of {d : Dt} (h : DL.isInt d = true) : ∃ i, d = .int i := by
  cases d with
  | int i => exact ⟨i, rfl⟩
  | _ => cases h
def WTurn : List Dt → (Dt → Prop) → Prop := fun ds Φ => ∃ d s w, ds = [d, .tup s, .tup w] ∧ turnD d = true ∧ s.length ≤ 1000 ∧ w.length ≤ 1000 ∧ Φ (.bl (turnOk s.length w.length d))
abbrev sIsTurn : Stmt := topS 23
theorem scIsTurn : FnScope ["value", "sleep", "wake", "row", "begin", "end"] ["value", "sleep", "wake"] (defScope sIsTurn) := ⟨rfl, rfl, rfl, by decide +kernel, rfl, by decide +kernel, by decide +kernel⟩
section
variable {P : Program} {w : World} {K : PySem.W.Frag} {mg : Str → Option Value} {base : Heap}
theorem ok_isTurn {f : Addr} {fd : FuncData} {k : Nat} (F : Fun K "_is_turn" "_is_turn" sIsTurn f fd) (B : Bt mg) (dInt : DF K mg "is_integer" sInt ["value"]) (gInt : FnOk P w K mg base CX0 k dInt.f dInt.fd ["value"] (spP K WInt)) :
    FnOk P w K mg base CX0 (k + 1) f fd ["value", "sleep", "wake"] (spP K WTurn) := by
  refine defP0 F scIsTurn (fun ds Φ ⟨d, s, w, e, _⟩ => by rw [e]; rfl) (by decide) fun cdv A outer s H E hr => ?_
  refine ⟨_, pss_cons (ps_if (PW.pt (pw_or (pt_not (pt_val (pe_callB (isiK K rfl) (by rfl) B.isi boot_isinstance (pa_cons (pv 0) (pa_cons (pe_bltn (v := .ty "tuple") (by rfl) B.tuple PyProof.Rows.boot_tuple rfl) pa_nil))))) (pw_or1 (pt_cmpR op_ne (pe_callB (lenK K rfl) (by rfl) B.len PySem.boot_len (pa_cons (pv 0) pa_nil)) pe_int (nomark _)))))
    (pss_one (ps_ret pe_bl))
    pss_nil)
    <| pss_cons (ps_asg (pv 0) (pg_tup rfl (pgs_cons (pg_name (i := 3) scIsTurn.nd rfl (Or.inl rfl)) (pgs_cons (pg_name (i := 4) scIsTurn.nd rfl (Or.inl rfl)) (pgs_cons (pg_name (i := 5) scIsTurn.nd rfl (Or.inl rfl)) pgs_nil)))))
    <| pss_cons (ps_if (PW.pt (pw_or (pt_not (pt_val (pe_call gInt hr (by rfl) dInt.g dInt.F.kp dInt.b .nil pass0 (pa_cons (pv 4) pa_nil)))) (pw_or1 (pt_not (pt_val (pe_call gInt hr (by rfl) dInt.g dInt.F.kp dInt.b .nil pass0 (pa_cons (pv 5) pa_nil)))))))
    (pss_one (ps_ret pe_bl))
    pss_nil)
    <| pss_cons (ps_if (pt_cmpR (eqDK K rfl hr.units) (pv 3) pe_str (nomark _))
    (pss_one (ps_ret (pe_and (pe_chain op_le op_lt pe_int (pv 4) (pe_callB (lenK K rfl) (by rfl) B.len PySem.boot_len (pa_cons (pv 1) pa_nil))) (pe_one (pe_chain op_le op_lt pe_int (pv 5) (pe_callB (lenK K rfl) (by rfl) B.len PySem.boot_len (pa_cons (pv 2) pa_nil)))))))
    pss_nil)
    <| pss_cons (ps_if (pt_cmpR (eqDK K rfl hr.units) (pv 3) pe_str (nomark _))
    (pss_one (ps_ret (pe_and (pe_chain op_le op_lt pe_int (pv 4) (pe_callB (lenK K rfl) (by rfl) B.len PySem.boot_len (pa_cons (pv 2) pa_nil))) (pe_one (pe_chain op_le op_lt pe_int (pv 5) (pe_callB (lenK K rfl) (by rfl) B.len PySem.boot_len (pa_cons (pv 1) pa_nil)))))))
    pss_nil)
    <| pss_one (ps_ret pe_bl), ?_⟩
  rintro ds Φ ⟨d, zs, zw, rfl, hd, hs, hw, q⟩
  refine ws_seq <| ws_if (pf := true) <| wt_or <| wt_not <| wt_B <| w_isi rfl (turnD_no hd) (kit_tup (turnD_no hd)) ⟨_, rfl, ?_⟩
  cases c : isTup d with
  | false =>
    refine ifT <| ifT <| ws_ret (pf := true) <| w_c (fun _ => .bl false) ?_
    have e : turnOk zs.length zw.length d = false := by
      cases d with
      | tup _ => cases c
      | _ => rfl
    rw [e] at q
    exact q
  | true =>
    obtain ⟨xs, rfl⟩ := isTup_of c
    have hd2 : (decide (xs.length ≤ 1000) && xs.all partD) = true := hd
    rw [Bool.and_eq_true, decide_eq_true_eq, List.all_eq_true] at hd2
    obtain ⟨hz, hall⟩ := hd2
    refine ifF <| wt_test <| w_op <| w_cb <| wa_cons <| w_var (d := .tup xs) rfl <| wa_nil <| rd_len rfl <| w_c (fun _ => .int 3) <| od_nei ⟨_, rfl, ?_⟩
    by_cases c3 : ((xs.length : Nat) : Int) = 3
    · rw [decide_eq_true c3]
      match xs, c3, hall, q with
      | [r, b, e], _, hall, q =>
        have hr0 := partD_of (hall r (by simp))
        have hb0 := partD_of (hall b (by simp))
        have he0 := partD_of (hall e (by simp))
        have q : Φ (.bl (turn3 zs.length zw.length r b e)) := q
        unfold turn3 at q
        refine ifF <| ws_next <| ws_seq <| ws_asgG (pf := true) <| w_var (d := .tup [r, b, e]) rfl <| wg_tup rfl <| wgs_cons <| wg_name <| wgs_cons <| wg_name <| wgs_cons <| wg_name <| wgs_nil ?_
        show Ws K _ [.dat (.tup [r, b, e]), .dat (.tup zs), .dat (.tup zw), .dat r, .dat b, .dat e] _
        refine ws_seq <| ws_if (pf := true) <| wt_or <| wt_not <| wt_B <| w_call0 <| wa_cons <| w_var (d := b) rfl <| wa_nil ⟨b, rfl, hb0.1, _, rfl, ?_⟩
        cases cb : DL.isInt b with
        | false =>
          rw [cb, Bool.false_and] at q
          exact ifT <| ifT <| ws_ret (pf := true) <| w_c (fun _ => .bl false) q
        | true =>
          rw [cb, Bool.true_and] at q
          refine ifF <| wt_not <| wt_B <| w_call0 <| wa_cons <| w_var (d := e) rfl <| wa_nil ⟨e, rfl, he0.1, _, rfl, ?_⟩
          cases ce : DL.isInt e with
          | false =>
            rw [ce, Bool.false_and] at q
            exact ifT <| ws_ret (pf := true) <| w_c (fun _ => .bl false) q
          | true =>
            rw [ce, Bool.true_and] at q
            obtain ⟨i, rfl⟩ := isInt_of cb
            obtain ⟨j, rfl⟩ := isInt_of ce
            refine ifF <| ws_next <| ws_seq <| ws_if (pf := true) <| wt_test <| w_op <| w_var (d := r) rfl <| w_c (fun _ => .str "sleep") <| od_eqV hr0.2.1 rfl hr0.2.2 word_ok.1 (eqv_word "sleep" hr0.2.1) ⟨_, rfl, ?_⟩
            cases cs : wordIs "sleep" r with
            | true =>
              rw [cs, if_pos rfl] at q
              refine ifT ?_
              refine ws_ret (pf := true) <| w_andV <| w_chain <| w_c (fun _ => .int 1) <| w_var (d := .int i) rfl <| od_I0b ⟨_, rfl, ?_⟩
              have q : Φ (.bl ((decide ((1 : Int) ≤ i) && decide (i < (zs.length : Nat))) && (decide ((0 : Int) ≤ j) && decide (j < (zw.length : Nat))))) := q
              cases a1 : decide ((1 : Int) ≤ i) with
              | false => rw [a1, Bool.false_and, Bool.false_and] at q; exact ifF ⟨_, rfl, ifF q⟩
              | true =>
                rw [a1, Bool.true_and] at q
                refine ifT <| w_cb <| wa_cons <| w_var (d := .tup zs) rfl <| wa_nil <| rd_len rfl <| od_I0b ⟨_, rfl, ?_⟩
                cases a2 : decide (i < (zs.length : Nat)) with
                | false => rw [a2, Bool.false_and] at q; exact ifF q
                | true =>
                  rw [a2, Bool.true_and] at q
                  refine ifT <| w_chain <| w_c (fun _ => .int 0) <| w_var (d := .int j) rfl <| od_I0b ⟨_, rfl, ?_⟩
                  cases a3 : decide ((0 : Int) ≤ j) with
                  | false => rw [a3, Bool.false_and] at q; exact ifF q
                  | true =>
                    rw [a3, Bool.true_and] at q
                    exact ifT <| w_cb <| wa_cons <| w_var (d := .tup zw) rfl <| wa_nil <| rd_len rfl <| od_I0b q
            | false =>
              rw [cs, if_neg Bool.false_ne_true] at q
              refine ifF <| ws_next <| ws_seq <| ws_if (pf := true) <| wt_test <| w_op <| w_var (d := r) rfl <| w_c (fun _ => .str "wake") <| od_eqV hr0.2.1 rfl hr0.2.2 word_ok.2 (eqv_word "wake" hr0.2.1) ⟨_, rfl, ?_⟩
              cases cw : wordIs "wake" r with
              | true =>
                rw [cw, if_pos rfl] at q
                refine ifT ?_
                refine ws_ret (pf := true) <| w_andV <| w_chain <| w_c (fun _ => .int 1) <| w_var (d := .int i) rfl <| od_I0b ⟨_, rfl, ?_⟩
                have q : Φ (.bl ((decide ((1 : Int) ≤ i) && decide (i < (zw.length : Nat))) && (decide ((0 : Int) ≤ j) && decide (j < (zs.length : Nat))))) := q
                cases a1 : decide ((1 : Int) ≤ i) with
                | false => rw [a1, Bool.false_and, Bool.false_and] at q; exact ifF ⟨_, rfl, ifF q⟩
                | true =>
                  rw [a1, Bool.true_and] at q
                  refine ifT <| w_cb <| wa_cons <| w_var (d := .tup zw) rfl <| wa_nil <| rd_len rfl <| od_I0b ⟨_, rfl, ?_⟩
                  cases a2 : decide (i < (zw.length : Nat)) with
                  | false => rw [a2, Bool.false_and] at q; exact ifF q
                  | true =>
                    rw [a2, Bool.true_and] at q
                    refine ifT <| w_chain <| w_c (fun _ => .int 0) <| w_var (d := .int j) rfl <| od_I0b ⟨_, rfl, ?_⟩
                    cases a3 : decide ((0 : Int) ≤ j) with
                    | false => rw [a3, Bool.false_and] at q; exact ifF q
                    | true =>
                      rw [a3, Bool.true_and] at q
                      exact ifT <| w_cb <| wa_cons <| w_var (d := .tup zs) rfl <| wa_nil <| rd_len rfl <| od_I0b q
              | false =>
                rw [cw, if_neg Bool.false_ne_true] at q
                exact ifF <| ws_next <| ws_ret (pf := true) <| w_c (fun _ => .bl false) q
    · rw [decide_eq_false c3]
      refine ifT <| ws_ret (pf := true) <| w_c (fun _ => .bl false) ?_
      have e : turnOk zs.length zw.length (.tup xs) = false := by
        match xs, c3 with
        | [], _ => rfl
        | [_], _ => rfl
        | [_, _], _ => rfl
        | [_, _, _], z => exact absurd rfl z
        | _ :: _ :: _ :: _ :: _, _ => rfl
      rw [e] at q
      exact q
end
end K04

set_option maxHeartbeats 2000000
namespace K04
open PySem PySem.Spec PyProof.Rows L2 DL
variable [Tb]
/-! ### rows of turns -/
def turnsD : Dt → Bool
  | .tup xs => decide (xs.length ≤ 1000) && xs.all turnD
  | d => noTy d
theorem turnsD_no {d : Dt} (h : turnsD d = true) : noTy d = true := by
  cases d with
  | tup _ => rfl
  | _ => exact h
def keyOf : Dt → List Key
  | .tup [.str z, .int i, .int j] => [.inr z, .inl i, .inl j]
  | _ => []
def turnsOk (p q : Int) : Dt → Bool
  | .tup xs => decide (xs.length ≤ 6) && (xs.all (turnOk p q) && decide (xs.map keyOf).Nodup)
  | _ => false
theorem word_of {z : Str} {d : Dt} (h : wordIs z d = true) : d = .str z := by
  cases d with
  | str x => rw [of_decide_eq_true (show decide (x = z) = true from h)]
  | _ => cases h
theorem turnOk_row {p q : Int} {d : Dt} (h : turnOk p q d = true) : d = rowT (keyOf d) := by
  cases d with
  | tup xs =>
    match xs, h with
    | [], h => cases h
    | [_], h => cases h
    | [_, _], h => cases h
    | _ :: _ :: _ :: _ :: _, h => cases h
    | [r, b, e], h =>
      have h : turn3 p q r b e = true := h
      unfold turn3 at h
      rw [Bool.and_eq_true, Bool.and_eq_true] at h
      obtain ⟨i, rfl⟩ := isInt_of h.1
      obtain ⟨j, rfl⟩ := isInt_of h.2.1
      by_cases c : wordIs "sleep" r = true
      · rw [word_of c]; rfl
      · have h3 := h.2.2
        rw [if_neg c] at h3
        by_cases c2 : wordIs "wake" r = true
        · rw [word_of c2]; rfl
        · rw [if_neg c2] at h3
          cases h3
  | _ => cases h
theorem rows_of {p q : Int} : ∀ {xs : List Dt}, xs.all (turnOk p q) = true → xs = (xs.map keyOf).map rowT
  | [], _ => rfl
  | x :: xs, h => by
    rw [List.all_cons, Bool.and_eq_true] at h
    rw [List.map_cons, List.map_cons, ← turnOk_row h.1, ← rows_of h.2]
def WTurns : List Dt → (Dt → Prop) → Prop := fun ds Φ => ∃ d s w, ds = [d, .tup s, .tup w] ∧ turnsD d = true ∧ s.length ≤ 1000 ∧ w.length ≤ 1000 ∧ Φ (.bl (turnsOk s.length w.length d))
abbrev sAreTurns : Stmt := topS 22
theorem scAreTurns : FnScope ["value", "sleep", "wake", "turn"] ["value", "sleep", "wake"] (defScope sAreTurns) := ⟨rfl, rfl, rfl, by decide +kernel, rfl, by decide +kernel, by decide +kernel⟩
section
variable {P : Program} {w : World} {K : PySem.W.Frag} {mg : Str → Option Value} {base : Heap}
theorem ok_areTurns {f : Addr} {fd : FuncData} {k : Nat} {tk : Tok} (F : Fun K "_are_turns" "_are_turns" sAreTurns f fd) (B : Bt mg) (dT : DF K mg "_is_turn" sIsTurn ["value", "sleep", "wake"]) (gT : FnOk P w K mg base CX0 k dT.f dT.fd ["value", "sleep", "wake"] (spP K WTurn)) (hM : mg "MOST_TURNS" = some (.int 6 tk)) :
    FnOk P w K mg base CX0 (k + 1) f fd ["value", "sleep", "wake"] (spP K WTurns) := by
  refine defP0 F scAreTurns (fun ds Φ ⟨d, s, w, e, _⟩ => by rw [e]; rfl) (by decide) fun cdv A outer s H E hr => ?_
  refine ⟨_, pss_cons (ps_if (PW.pt (pw_or (pt_not (pt_val (pe_callB (isiK K rfl) (by rfl) B.isi boot_isinstance (pa_cons (pv 0) (pa_cons (pe_bltn (v := .ty "tuple") (by rfl) B.tuple PyProof.Rows.boot_tuple rfl) pa_nil))))) (pw_or1 (pt_cmpR op_gt (pe_callB (lenK K rfl) (by rfl) B.len PySem.boot_len (pa_cons (pv 0) pa_nil)) (pe_glob (v := .int 6) (by rfl) hM ⟨_, rfl⟩) (nomark _)))))
    (pss_one (ps_ret pe_bl))
    pss_nil)
    <| pss_one (ps_ret (pe_and (pe_callB (cr_all rfl) (by rfl) B.all boot_all (pa_cons (pe_lc (own := [("turn", 3)]) (g := gName 3) (tt := tYes) rfl scAreTurns.nd (pi_tup (pv 0)) (blkOk_by (N := ["value", "sleep", "wake", "turn"]) (sc := defScope sAreTurns) (by decide +kernel)) (fun _ _ _ _ _ => pg_name (i := 3) scAreTurns.nd rfl (Or.inl rfl)) (fun _ _ _ _ _ => pts_nil) (fun _ _ _ _ _ => pe_call gT hr (by rfl) dT.g dT.F.kp dT.b .nil pass0 (pa_cons (pv 3) (pa_cons (pv 1) (pa_cons (pv 2) pa_nil))))) pa_nil))
      (pe_one (pe_cmpR op_eq (pe_lenM rfl hr.units (by rfl) B.len (by rfl) B.set (pv 0)) (pe_callB (lenK K rfl) (by rfl) B.len PySem.boot_len (pa_cons (pv 0) pa_nil)) (nomark _))))), ?_⟩
  rintro ds Φ ⟨d, zs, zw, rfl, hd, hs, hw, q⟩
  refine ws_seq <| ws_if (pf := true) <| wt_or <| wt_not <| wt_B <| w_isi rfl (turnsD_no hd) (kit_tup (turnsD_no hd)) ⟨_, rfl, ?_⟩
  cases c : isTup d with
  | false =>
    refine ifT <| ifT <| ws_ret (pf := true) <| w_c (fun _ => .bl false) ?_
    have e : turnsOk zs.length zw.length d = false := by
      cases d with
      | tup _ => cases c
      | _ => rfl
    rw [e] at q
    exact q
  | true =>
    obtain ⟨xs, rfl⟩ := isTup_of c
    have hd2 : (decide (xs.length ≤ 1000) && xs.all turnD) = true := hd
    rw [Bool.and_eq_true, decide_eq_true_eq, List.all_eq_true] at hd2
    obtain ⟨hz, hall⟩ := hd2
    have q : Φ (.bl (decide (xs.length ≤ 6) && (xs.all (turnOk zs.length zw.length) && decide (xs.map keyOf).Nodup))) := q
    refine ifF <| wt_test <| w_op <| w_cb <| wa_cons <| w_var (d := .tup xs) rfl <| wa_nil <| rd_len rfl <| w_c (fun _ => .int 6) <| od_I0b ⟨_, rfl, ?_⟩
    by_cases c1 : (6 : Int) < (xs.length : Nat)
    · rw [decide_eq_true c1]
      rw [decide_eq_false (show ¬ xs.length ≤ 6 by omega), Bool.false_and] at q
      exact ifT <| ws_ret (pf := true) <| w_c (fun _ => .bl false) q
    · rw [decide_eq_false c1]
      rw [decide_eq_true (show xs.length ≤ 6 by omega), Bool.true_and] at q
      refine ifF <| ws_next <| ws_ret (pf := true) <| w_andV <| w_cb <| wa_cons <| w_lcM (fun d => .bl (turnOk zs.length zw.length d)) rfl <| wi_tup <| w_var (d := .tup xs) rfl ⟨xs, rfl, rfl, by omega, fun d hm => ?_, wa_nil ?_⟩
      · exact w_call0 <| wa_cons <| w_var rfl <| wa_cons <| w_var (d := .tup zs) rfl <| wa_cons <| w_var (d := .tup zw) rfl <| wa_nil ⟨d, zs, zw, rfl, hall d hm, hs, hw, rfl, rfl⟩
      · rw [map_bl]
        refine rd_all ⟨_, rfl, ?_⟩
        rw [all_id]
        cases ca : xs.all (turnOk zs.length zw.length) with
        | false =>
          rw [ca, Bool.false_and] at q
          exact ifF q
        | true =>
          rw [ca, Bool.true_and] at q
          have er := rows_of ca
          have el : ((onceG (xs.map keyOf)).length : Int) = (xs.length : Nat) ↔ (xs.map keyOf).Nodup := by
            have z := onceG_full (xs.map keyOf)
            rw [List.length_map] at z
            rw [← z]
            omega
          refine ifT <| w_op <| w_lenM <| w_var (d := .tup xs) rfl ⟨xs.map keyOf, by rw [← er], by rw [List.length_map]; omega, w_cb <| wa_cons <| w_var (d := .tup xs) rfl <| wa_nil <| rd_len rfl <| od_eqi ?_⟩
          rw [decide_eq_decide.mpr el]
          exact q
end
end K04

/-! Data level: `in` of anything that can be laid in a tuple of such, exactly. -/
namespace DL
open PySem PySem.Spec PyProof.Rows L2
variable [Tb]
/-- what can be laid and compared -/
def layD (d : Dt) : Bool := d.seqs && (d.py.canLay0 && decide (d.py.depth ≤ 30))
theorem layD_of {d : Dt} (h : layD d = true) : d.seqs = true ∧ d.py.canLay0 = true ∧ d.py.depth ≤ 30 := by
  unfold layD at h
  rw [Bool.and_eq_true, Bool.and_eq_true] at h
  exact ⟨h.1, h.2.1, of_decide_eq_true h.2.2⟩
def inD (d : Dt) (ds : List Dt) : Bool := ds.any fun e => PyData.eqv e.py d.py
def rInT (K : PySem.W.Frag) : R2 := fun x y H Q => ∃ d ds, DX K H x d ∧ DX K H y (.tup ds) ∧ layD d = true ∧ (∀ e ∈ ds, layD e = true) ∧ Q (.bl (inD d ds)) H
section
variable {X : Cx} {pins : List (Addr × Obj)} {σ : L2.St} {H : Hp} {s : Shared}
theorem lay_reads (I : Inv X pins σ H s) {d : Dt} {v : Value} {bs : List Addr} (rd : Reads s.heap v d.py bs) (hd : layD d = true) {A : Around} (hu : A.units + 40 < cLine) :
    ∀ {ds : List Dt} {xs : List V} {us : List Value}, DXs X.K H xs ds → Vals xs us → (∀ e ∈ ds, layD e = true) →
      (∀ u ∈ us, SeqAt.EqAt A s u v (PyData.eqv (SeqAt.readOf s.heap u) d.py)) ∧ us.any (fun u => PyData.eqv (SeqAt.readOf s.heap u) d.py) = inD d ds
  | [], _, _, h, r, _ => by
    cases h
    cases r
    exact ⟨(fun u hu => nomatch hu), rfl⟩
  | e :: ds, _, _, h, r, hl => by
    cases h with
    | cons h1 h2 =>
      cases r with
      | cons r1 r2 =>
        obtain ⟨a1, a2⟩ := lay_reads I rd hd hu h2 r2 fun e' he' => hl e' (List.mem_cons_of_mem _ he')
        obtain ⟨e1, e2, e3⟩ := layD_of (hl e List.mem_cons_self)
        obtain ⟨d1, d2, d3⟩ := layD_of hd
        obtain ⟨as, re⟩ := Dp.reads I _ _ _ (h1.dp e1) r1
        have eq := SeqAt.readOf_eq e2 re
        refine ⟨fun u hm => ?_, ?_⟩
        · rcases List.mem_cons.mp hm with z | z
          · rw [z, eq]
            exact SeqAt.eqAt_reads e.py d.py A s _ v _ _ re rd e2 d2 (by have := Nat.min_le_left e.py.depth d.py.depth; omega)
          · exact a1 u z
        · rw [List.any_cons, eq, a2]
          rfl
theorem op_inT (hu : X.A.units + 64 < cLine) : OpR X (compareOp .In) (rInT X.K) := by
  intro pins s σ H x y v u Q I rx ry h
  obtain ⟨d, ds, hx, hy, l1, l2, q⟩ := h
  cases hy with
  | tup hs ha =>
    cases ry
    obtain ⟨its, rv, ht, _⟩ := I.tuple hs
    obtain ⟨bs, rd⟩ := Dp.reads I _ _ _ (hx.dp (layD_of l1).1) rx
    obtain ⟨a1, a2⟩ := lay_reads I rd l1 (A := X.A.in1) (by show X.A.units + 1 + 40 < cLine; omega) ha rv l2
    refine SeqAt.in_tupleAt (fun u => PyData.eqv (SeqAt.readOf s.heap u) d.py) ht (fun z hz => a1 z (by simpa using hz)) ⟨.bl (inD d ds), H, I, ?_, q⟩
    rw [← a2]
    show Value.bool _ = Value.bool _
    simp
end
section
variable {K : PySem.W.Frag} {Ψ : Dt → Prop} {d : Dt} {ds : List Dt}
theorem od_inT (l1 : layD d = true) (l2 : ∀ e ∈ ds, layD e = true) (h : Ψ (.bl (inD d ds))) : OD K (rInT K) d (.tup ds) Ψ := fun M H u v m h1 h2 Q q =>
  ⟨d, ds, h1.mono (cut_sub M H), h2.mono (cut_sub M H), l1, l2, q _ H _ (Same.refl H) (.bl _) h⟩
end
end DL

/-! Data level: != and == of anything that can be laid, exactly; what is equal to a tuple of texts. -/
namespace DL
open PySem PySem.Spec PyProof.Rows L2
variable [Tb]
theorem layD_shaped {d : Dt} (h : layD d = true) : SeqAt.shaped d.py = true := by
  obtain ⟨_, h2, h3⟩ := layD_of h
  unfold SeqAt.shaped
  rw [h2, decide_eq_true (show d.py.depth ≤ 64 by omega)]
  rfl
section
variable {K : PySem.W.Frag} {Ψ : Dt → Prop} {d e : Dt}
theorem od_neD (l1 : layD d = true) (l2 : layD e = true) (h : Ψ (.bl (!PyData.eqv d.py e.py))) : OD K (rNeD K) d e Ψ := fun M H u v m h1 h2 Q q =>
  ⟨d.py, e.py, (h1.mono (cut_sub M H)).dp (layD_of l1).1, (h2.mono (cut_sub M H)).dp (layD_of l2).1, layD_shaped l1, layD_shaped l2, q _ H _ (Same.refl H) (.bl _) h⟩
theorem od_eqD (l1 : layD d = true) (l2 : layD e = true) (h : Ψ (.bl (PyData.eqv d.py e.py))) : OD K (rEqD K) d e Ψ := fun M H u v m h1 h2 Q q =>
  ⟨d.py, e.py, (h1.mono (cut_sub M H)).dp (layD_of l1).1, (h2.mono (cut_sub M H)).dp (layD_of l2).1, layD_shaped l1, layD_shaped l2, q _ H _ (Same.refl H) (.bl _) h⟩
end
theorem eqv_str1 {d : Dt} {s : Str} (h : PyData.eqv d.py (.str s) = true) : d = .str s := by
  cases d with
  | str x =>
    simp only [Dt.py, PyData.eqv] at h
    rw [eq_of_beq h]
  | _ => simp only [Dt.py, PyData.eqv] at h; cases h
theorem eqv_strsAll : ∀ {ds : List Dt} {ss : List Str}, PyData.eqvAll (pys ds) (pys (ss.map Dt.str)) = true → ds = ss.map Dt.str
  | [], [], _ => rfl
  | [], s :: ss, h => by simp only [pys, List.map_cons, PyData.eqvAll] at h; cases h
  | d :: ds, [], h => by simp only [pys, List.map_nil, PyData.eqvAll] at h; cases h
  | d :: ds, s :: ss, h => by
    simp only [pys, List.map_cons, PyData.eqvAll] at h
    rw [Bool.and_eq_true] at h
    rw [List.map_cons, eqv_str1 (s := s) h.1, eqv_strsAll h.2]
theorem eqv_strs {d : Dt} {ss : List Str} (h : PyData.eqv d.py (Dt.tup (ss.map Dt.str)).py = true) : d = .tup (ss.map Dt.str) := by
  cases d with
  | tup xs =>
    simp only [Dt.py, PyData.eqv] at h
    rw [eqv_strsAll h]
  | _ => simp only [Dt.py, PyData.eqv] at h; cases h
end DL

set_option maxHeartbeats 2000000
namespace K04
open PySem PySem.Spec PyProof.Rows L2 DL ClX
variable [Tb]
abbrev sWrong : Stmt := topS 20
abbrev sAmount : Stmt := topS 21
theorem scWrong : FnScope ["parts"] ["parts"] (defScope sWrong) := ⟨rfl, rfl, rfl, by decide +kernel, rfl, by decide +kernel, by decide +kernel⟩
theorem scAmount : FnScope ["value"] ["value"] (defScope sAmount) := ⟨rfl, rfl, rfl, by decide +kernel, rfl, by decide +kernel, by decide +kernel⟩
/-! ### the parts of an isle, any ones -/
structure Pt where
  nm : Str
  k : Dt
  p : Dt
  l : Dt
  n : Dt
  s : Dt
  sl : Dt
  wk : Dt
  t : Dt
def rowSl : List Str := ["still", "shut", "save", "dark"]
def rowWk : List Str := ["lit", "reset", "back", "open", "go"]
def strT (ss : List Str) : Dt := .tup (ss.map Dt.str)
structure Pt.Ok (i : Pt) : Prop where
  k : noTy i.k = true
  p : noTy i.p = true
  l : thingD i.l = true
  n : thingD i.n = true
  s : noTy i.s = true
  sl : thingD i.sl = true
  wk : thingD i.wk = true
  t : turnsD i.t = true
  ll : layD i.l = true
  ln : layD i.n = true
  lsl : layD i.sl = true
  lwk : layD i.wk = true
  lt : layD i.t = true
def amountD (d : Dt) : Bool := DL.isInt d && (decide (0 ≤ intOf d) && decide (intOf d ≤ 3))
def memD (z : Str) : Dt → Bool
  | .tup xs => decide (z ∈ strsOf xs)
  | _ => false
def lenD : Dt → Nat
  | .tup xs => xs.length
  | _ => 0
def isBlD : Dt → Bool
  | .bl _ => true
  | _ => false
def faultI (i : Pt) : Option Str :=
  if amountD i.k = false then some "kept" else if amountD i.p = false then some "plain" else if intOf i.k + intOf i.p = 0 then some "registers" else if (!isRow i.l 4 || memD i.nm i.l) = true then some "leash" else if (!isRow i.n 7 || memD i.nm i.n) = true then some "needs" else
  if isBlD i.s = false then some "sleeps" else if isWords rowSl i.sl = false then some "sleep" else if isWords rowWk i.wk = false then some "wake" else if turnsOk (lenD i.sl) (lenD i.wk) i.t = false then some "turns" else none
def wD : Option Str → Dt
  | some z => .str z
  | none => .non
def partsD (i : Pt) : List (Key × Dt) := [(.inr "name", .str i.nm), (.inr "kept", i.k), (.inr "plain", i.p), (.inr "leash", i.l), (.inr "needs", i.n), (.inr "sleeps", i.s), (.inr "sleep", i.sl), (.inr "wake", i.wk), (.inr "turns", i.t)]
/-- what is asked of the class as the top has made it -/
structure IsleK (K : PySem.W.Frag) (mg : Str → Option Value) (C : Addr) : Prop where
  cl : Cls K C
  nP : NoAttr K C "_parts"
  mgC : mg "Isle" = some (.ref C)
  con : ∃ (mc : Value) (aS aW : Addr), CRead K C mc ∧ CVal K C mc "SLEEP" (.ref aS) (.ref aS) ∧ CVal K C mc "WAKE" (.ref aW) (.ref aW) ∧ (∀ H, SqT K H aS (rowSl.map V.str)) ∧ ∀ H, SqT K H aW (rowWk.map V.str)
section
variable {K : PySem.W.Frag} {pf : Bool} {ρ : List Sl} {Φ : Dt → List Sl → Prop} {C : Addr} {mg : Str → Option Value}
theorem w_cvalT {f : Str} {mc : Value} {a : Addr} {ss : List Str} (r : CRead K C mc) (c : CVal K C mc f (.ref a) (.ref a)) (hs : ∀ H, SqT K H a (ss.map V.str)) (h : Φ (strT ss) ρ) : Wp K pf (tCVal K (tC (.ref C)) f) ρ Φ := fun M σ H S Q q =>
  ⟨C, mc, .ref a, .ref a, rfl, r, c, q (.ref a) H (strT ss) ρ (Tr.refl pf M H) S (.tup (hs _) (dxs_strs ss)) h⟩
end
theorem row_strs {d : Dt} {m : Int} (h : isRow d m = true) : ∃ ss : List Str, d = strT ss := by
  cases d with
  | tup xs =>
    have h : (decide ((xs.length : Int) ≤ m) && rowIs xs) = true := h
    unfold rowIs at h
    rw [Bool.and_eq_true, Bool.and_eq_true] at h
    obtain ⟨ss, rfl⟩ := all_str (fun _ => isOwn_str) h.2.1
    exact ⟨ss, rfl⟩
  | _ => cases h
theorem kit_bl {d : Dt} (h : noTy d = true) : kitB (tyD d) "bool" = some (isBlD d) := by
  cases d with
  | ty n => cases h
  | ins _ _ _ _ => cases h
  | cls _ => cases h
  | exc _ _ _ _ => cases h
  | _ => dsimp only [tyD, isBlD]; decide +kernel
theorem words_tup {d : Dt} {ms : List Str} (h : isWords ms d = true) (hd : thingD d = true) : ∃ xs, d = .tup xs ∧ xs.length ≤ 1000 := by
  cases d with
  | tup xs => exact ⟨xs, rfl, (thingD_tup hd).1⟩
  | _ => cases h
section
variable {P : Program} {w : World} {K : PySem.W.Frag} {mg : Str → Option Value} {base : Heap} {C : Addr}
/-! ### _is_amount -/
def WAmount : List Dt → (Dt → Prop) → Prop := fun ds Φ => ∃ d, ds = [d] ∧ noTy d = true ∧ Φ (.bl (amountD d))
theorem ok_amount {f : Addr} {fd : FuncData} {k : Nat} {tk : Tok} (F : Fun K "_is_amount" "_is_amount" sAmount f fd) (dN : DF K mg "is_integer" sInt ["value"]) (hM : mg "MOST_REGISTERS" = some (.int 3 tk))
    (G : FnOk P w K mg base CX0 k dN.f dN.fd ["value"] (spP K WInt)) : FnOk P w K mg base CX0 (k + 1) f fd ["value"] (spP K WAmount) := by
  refine defP0 F scAmount (fun ds Φ ⟨d, e, _⟩ => by rw [e]; rfl) (by decide) fun cdv A outer s H E hr => ?_
  refine ⟨_, pss_one (ps_ret (pe_and (pe_call G hr (by rfl) dN.g dN.F.kp dN.b .nil pass0 (pa_cons (pv 0) pa_nil)) (pe_one (pe_chain op_le op_le pe_int (pv 0) (pe_glob (v := .int 3) (by rfl) hM ⟨_, rfl⟩))))), ?_⟩
  rintro ds Φ ⟨d, rfl, hd, q⟩
  refine ws_ret (pf := true) <| w_andV <| w_call0 <| wa_cons <| w_var (d := d) rfl <| wa_nil ⟨d, rfl, hd, _, rfl, ?_⟩
  unfold amountD at q
  cases ci : DL.isInt d with
  | false =>
    rw [ci, Bool.false_and] at q
    exact ifF q
  | true =>
    obtain ⟨n, rfl⟩ := isInt_of ci
    have q : Φ (.bl (decide ((0 : Int) ≤ n) && decide (n ≤ 3))) := q
    refine ifT <| w_chain <| w_c (fun _ => .int 0) <| w_var (d := .int n) rfl <| od_I0b ⟨_, rfl, ?_⟩
    cases c : decide ((0 : Int) ≤ n) with
    | true =>
      rw [c, Bool.true_and] at q
      exact ifT <| w_c (fun _ => .int 3) <| od_I0b q
    | false =>
      rw [c, Bool.false_and] at q
      exact ifF q
theorem amount_int {d : Dt} (h : amountD d = true) : ∃ n, d = .int n := by
  unfold amountD at h
  rw [Bool.and_eq_true] at h
  exact isInt_of h.1
/-! ### _wrong_part -/
def WWrong : List Dt → (Dt → Prop) → Prop := fun ds Φ => ∃ a i, ds = [.dct a (partsD i)] ∧ i.Ok ∧ i.nm.length ≤ 1000 ∧ Φ (wD (faultI i))
theorem ok_wrong {f : Addr} {fd : FuncData} {k : Nat} {tk : Tok} (F : Fun K "_wrong_part" "_wrong_part" sWrong f fd) (B : Bt mg) (T : IsleK K mg C)
    (dA : DF K mg "_is_amount" sAmount ["value"]) (GA : FnOk P w K mg base CX0 k dA.f dA.fd ["value"] (spP K WAmount)) (dL : DF K mg "is_lead" sLead ["value"]) (GL : FnOk P w K mg base CX0 k dL.f dL.fd ["value"] (spP K WLead))
    (dR : DF K mg "is_name_row" sRow ["value", "most"]) (GR : FnOk P w K mg base CX0 k dR.f dR.fd ["value", "most"] (spP K WRow)) (dW : DF K mg "is_words" sWords ["value", "words"]) (GW : FnOk P w K mg base CX0 k dW.f dW.fd ["value", "words"] (spP K WWords))
    (dT : DF K mg "_are_turns" sAreTurns ["value", "sleep", "wake"]) (GT : FnOk P w K mg base CX0 k dT.f dT.fd ["value", "sleep", "wake"] (spP K WTurns)) (hM : mg "MOST_NEEDS" = some (.int 7 tk)) : FnOk P w K mg base CX0 (k + 1) f fd ["parts"] (spP K WWrong) := by
  refine defP0 F scWrong (fun ds Φ ⟨a, i, z, _⟩ => by rw [z]; rfl) (by decide) fun cdv A outer s H E hr => ?_
  obtain ⟨mc, aS, aW, cr, c1', c2', hS, hW⟩ := T.con
  have hu := hu_of hr
  refine ⟨_, pss_cons (ps_if (pt_not (pt_val (pe_call GA hr (by rfl) dA.g dA.F.kp dA.b .nil pass0 (pa_cons (pe_dget hu (pv 0) pe_str (fun _ _ => rfl)) pa_nil)))) (pss_one (ps_ret pe_str)) pss_nil)
    <| pss_cons (ps_if (pt_not (pt_val (pe_call GA hr (by rfl) dA.g dA.F.kp dA.b .nil pass0 (pa_cons (pe_dget hu (pv 0) pe_str (fun _ _ => rfl)) pa_nil)))) (pss_one (ps_ret pe_str)) pss_nil)
    <| pss_cons (ps_if (pt_cmpR op_eq (pe_op op_add (pe_dget hu (pv 0) pe_str (fun _ _ => rfl)) (pe_dget hu (pv 0) pe_str (fun _ _ => rfl))) pe_int (nomark _)) (pss_one (ps_ret pe_str)) pss_nil)
    <| pss_cons (ps_if (PW.pt (pw_and (pt_cmpR (neDK K rfl hr.units) (pe_dget hu (pv 0) pe_str (fun _ _ => rfl)) (pe_tup pa_nil) (nomark _)) (pw_and1 (PW.pt (pw_or (pt_not (pt_val (pe_call GL hr (by rfl) dL.g dL.F.kp dL.b .nil pass0 (pa_cons (pe_dget hu (pv 0) pe_str (fun _ _ => rfl)) pa_nil)))) (pw_or1 (pt_cmpR (in_seqK K rfl) (pe_dget hu (pv 0) pe_str (fun _ _ => rfl)) (pe_dget hu (pv 0) pe_str (fun _ _ => rfl)) (by rfl)))))))) (pss_one (ps_ret pe_str)) pss_nil)
    <| pss_cons (ps_if (PW.pt (pw_and (pt_cmpR (neDK K rfl hr.units) (pe_dget hu (pv 0) pe_str (fun _ _ => rfl)) (pe_tup pa_nil) (nomark _)) (pw_and1 (PW.pt (pw_or (pt_not (pt_val (pe_call GR hr (by rfl) dR.g dR.F.kp dR.b .nil pass0 (pa_cons (pe_dget hu (pv 0) pe_str (fun _ _ => rfl)) (pa_cons (pe_glob (v := .int 7) (by rfl) hM ⟨_, rfl⟩) pa_nil))))) (pw_or1 (pt_cmpR (in_seqK K rfl) (pe_dget hu (pv 0) pe_str (fun _ _ => rfl)) (pe_dget hu (pv 0) pe_str (fun _ _ => rfl)) (by rfl)))))))) (pss_one (ps_ret pe_str)) pss_nil)
    <| pss_cons (ps_if (pt_not (pt_val (pe_callB (isiK K rfl) (by rfl) B.isi boot_isinstance (pa_cons (pe_dget hu (pv 0) pe_str (fun _ _ => rfl)) (pa_cons (pe_bltn (v := .ty "bool") (by rfl) B.bool PyProof.Rows.boot_bool rfl) pa_nil))))) (pss_one (ps_ret pe_str)) pss_nil)
    <| pss_cons (ps_if (PW.pt (pw_and (pt_cmpR (neDK K rfl hr.units) (pe_dget hu (pv 0) pe_str (fun _ _ => rfl)) (pe_cval (pe_glob (v := .ref C) (by rfl) T.mgC rfl)) (nomark _)) (pw_and1 (pt_not (pt_val (pe_call GW hr (by rfl) dW.g dW.F.kp dW.b .nil pass0 (pa_cons (pe_dget hu (pv 0) pe_str (fun _ _ => rfl)) (pa_cons (pe_cval (pe_glob (v := .ref C) (by rfl) T.mgC rfl)) pa_nil)))))))) (pss_one (ps_ret pe_str)) pss_nil)
    <| pss_cons (ps_if (PW.pt (pw_and (pt_cmpR (neDK K rfl hr.units) (pe_dget hu (pv 0) pe_str (fun _ _ => rfl)) (pe_cval (pe_glob (v := .ref C) (by rfl) T.mgC rfl)) (nomark _)) (pw_and1 (pt_not (pt_val (pe_call GW hr (by rfl) dW.g dW.F.kp dW.b .nil pass0 (pa_cons (pe_dget hu (pv 0) pe_str (fun _ _ => rfl)) (pa_cons (pe_cval (pe_glob (v := .ref C) (by rfl) T.mgC rfl)) pa_nil)))))))) (pss_one (ps_ret pe_str)) pss_nil)
    <| pss_cons (ps_if (PW.pt (pw_and (pt_cmpR (neDK K rfl hr.units) (pe_dget hu (pv 0) pe_str (fun _ _ => rfl)) (pe_tup pa_nil) (nomark _)) (pw_and1 (pt_not (pt_val (pe_call GT hr (by rfl) dT.g dT.F.kp dT.b .nil pass0 (pa_cons (pe_dget hu (pv 0) pe_str (fun _ _ => rfl)) (pa_cons (pe_dget hu (pv 0) pe_str (fun _ _ => rfl)) (pa_cons (pe_dget hu (pv 0) pe_str (fun _ _ => rfl)) pa_nil))))))))) (pss_one (ps_ret pe_str)) pss_nil)
    <| pss_one (ps_ret pe_non), ?_⟩
  rintro ds Φ ⟨a, i, rfl, ok, hz, q⟩
  have g : ∀ {k : Str} {d : Dt} {pf : Bool} {ρ : List Sl} {Φ : Dt → List Sl → Prop}, ρ[0]? = some (.dat (.dct a (partsD i))) → valD (partsD i) (.inr k) = some d → Φ d ρ → Wp K pf (tDGet (tVar 0) (tC (.str k))) ρ Φ := fun e l z =>
    w_dget <| w_var e <| w_c (fun _ => .str _) ⟨_, _, _, rfl, rfl, l, z⟩
  unfold faultI at q
  refine ws_seq <| ws_if (pf := true) <| wt_not <| wt_B <| w_call0 <| wa_cons <| g rfl rfl <| wa_nil ⟨i.k, rfl, ok.k, _, rfl, ?_⟩
  cases c1 : amountD i.k with
  | false =>
    rw [if_pos c1] at q
    exact ifT <| ws_ret (pf := true) <| w_c (fun _ => .str _) q
  | true =>
  rw [if_neg (by rw [c1]; decide)] at q
  refine ifF <| ws_next <| ws_seq <| ws_if (pf := true) <| wt_not <| wt_B <| w_call0 <| wa_cons <| g rfl rfl <| wa_nil ⟨i.p, rfl, ok.p, _, rfl, ?_⟩
  cases c2 : amountD i.p with
  | false =>
    rw [if_pos c2] at q
    exact ifT <| ws_ret (pf := true) <| w_c (fun _ => .str _) q
  | true =>
  rw [if_neg (by rw [c2]; decide)] at q
  obtain ⟨a1, ea⟩ := amount_int c1
  obtain ⟨a2, eb⟩ := amount_int c2
  rw [show intOf i.k + intOf i.p = a1 + a2 from by rw [ea, eb]; rfl] at q
  refine ifF <| ws_next <| ws_seq <| ws_if (pf := true) <| wt_test <| w_op <| w_op <| g rfl (show valD (partsD i) (.inr "kept") = some (.int a1) from by rw [← ea]; rfl) <| g rfl (show valD (partsD i) (.inr "plain") = some (.int a2) from by rw [← eb]; rfl) <| od_I0i <| w_c (fun _ => .int 0) <| od_eqi ⟨_, rfl, ?_⟩
  by_cases c3 : a1 + a2 = 0
  · rw [decide_eq_true c3]
    rw [if_pos c3] at q
    exact ifT <| ws_ret (pf := true) <| w_c (fun _ => .str _) q
  rw [decide_eq_false c3]
  rw [if_neg c3] at q
  refine ifF <| ws_next <| ws_seq <| ws_if (pf := true) <| Wt.imp (Θ := fun b ρ' => ρ' = [.dat (.dct a (partsD i))] ∧ b = (!isRow i.l 4 || memD i.nm i.l)) ?_ ?_
  · refine wt_and <| wt_test <| w_op <| g rfl rfl <| w_tup <| wa_nil ⟨by decide, od_neD ok.ll (by decide) ⟨_, rfl, ?_⟩⟩
    cases n4 : PyData.eqv i.l.py (Dt.tup []).py with
    | true =>
      rw [eqv_strs (ss := []) n4]
      exact ifF ⟨rfl, rfl⟩
    | false =>
      refine ifT <| wt_or <| wt_not <| wt_B <| w_call0 <| wa_cons <| g rfl rfl <| wa_nil ⟨i.l, rfl, ok.l, _, rfl, ?_⟩
      cases c4 : isRow i.l 4 with
      | false => exact ifT ⟨rfl, rfl⟩
      | true =>
        obtain ⟨s4, e4⟩ := row_strs c4
        rw [show memD i.nm i.l = decide (i.nm ∈ s4) from by rw [e4]; show decide (i.nm ∈ strsOf (s4.map Dt.str)) = _; rw [strsOf_map]]
        exact ifF <| wt_test <| w_op <| g rfl rfl <| g rfl (show valD (partsD i) (.inr "leash") = some (strT s4) from by rw [← e4]; rfl) <| od_inS (neg := false) (xs := s4) rfl ⟨_, rfl, rfl, rfl⟩
  rintro _ _ ⟨rfl, rfl⟩
  cases c4 : (!isRow i.l 4 || memD i.nm i.l) with
  | true =>
    rw [if_pos c4] at q
    exact ifT <| ws_ret (pf := true) <| w_c (fun _ => .str _) q
  | false =>
  rw [if_neg (by rw [c4]; decide)] at q
  refine ifF <| ws_next <| ws_seq <| ws_if (pf := true) <| Wt.imp (Θ := fun b ρ' => ρ' = [.dat (.dct a (partsD i))] ∧ b = (!isRow i.n 7 || memD i.nm i.n)) ?_ ?_
  · refine wt_and <| wt_test <| w_op <| g rfl rfl <| w_tup <| wa_nil ⟨by decide, od_neD ok.ln (by decide) ⟨_, rfl, ?_⟩⟩
    cases n4 : PyData.eqv i.n.py (Dt.tup []).py with
    | true =>
      rw [eqv_strs (ss := []) n4]
      exact ifF ⟨rfl, rfl⟩
    | false =>
      refine ifT <| wt_or <| wt_not <| wt_B <| w_call0 <| wa_cons <| g rfl rfl <| wa_cons <| w_c (fun _ => .int 7) <| wa_nil ⟨i.n, 7, rfl, ok.n, _, rfl, ?_⟩
      cases c4 : isRow i.n 7 with
      | false => exact ifT ⟨rfl, rfl⟩
      | true =>
        obtain ⟨s4, e4⟩ := row_strs c4
        rw [show memD i.nm i.n = decide (i.nm ∈ s4) from by rw [e4]; show decide (i.nm ∈ strsOf (s4.map Dt.str)) = _; rw [strsOf_map]]
        exact ifF <| wt_test <| w_op <| g rfl rfl <| g rfl (show valD (partsD i) (.inr "needs") = some (strT s4) from by rw [← e4]; rfl) <| od_inS (neg := false) (xs := s4) rfl ⟨_, rfl, rfl, rfl⟩
  rintro _ _ ⟨rfl, rfl⟩
  cases c5 : (!isRow i.n 7 || memD i.nm i.n) with
  | true =>
    rw [if_pos c5] at q
    exact ifT <| ws_ret (pf := true) <| w_c (fun _ => .str _) q
  | false =>
  rw [if_neg (by rw [c5]; decide)] at q
  refine ifF <| ws_next <| ws_seq <| ws_if (pf := true) <| wt_not <| wt_B <| w_cb <| wa_cons <| g rfl rfl <| wa_cons <| w_c (fun _ => .ty "bool") <| wa_nil <| rd_isi (d := i.s) (noTy_ne ok.s) (b := isBlD i.s) (kit_bl ok.s) ⟨_, rfl, ?_⟩
  cases c6 : isBlD i.s with
  | false =>
    rw [if_pos c6] at q
    exact ifT <| ws_ret (pf := true) <| w_c (fun _ => .str _) q
  | true =>
  rw [if_neg (by rw [c6]; decide)] at q
  refine ifF <| ws_next <| ws_seq <| ws_if (pf := true) <| Wt.imp (Θ := fun b ρ' => ρ' = [.dat (.dct a (partsD i))] ∧ b = !isWords rowSl i.sl) ?_ ?_
  · refine wt_and <| wt_test <| w_op <| g rfl rfl <| w_cvalT cr c1' hS <| od_neD ok.lsl (by decide +kernel) ⟨_, rfl, ?_⟩
    cases n4 : PyData.eqv i.sl.py (strT rowSl).py with
    | true =>
      rw [eqv_strs (ss := rowSl) n4]
      exact ifF ⟨rfl, by decide +kernel⟩
    | false => exact ifT <| wt_not <| wt_B <| w_call0 <| wa_cons <| g rfl rfl <| wa_cons <| w_cvalT cr c1' hS <| wa_nil ⟨i.sl, rowSl, rfl, ok.sl, _, rfl, rfl, rfl⟩
  rintro _ _ ⟨rfl, rfl⟩
  cases c7 : isWords rowSl i.sl with
  | false =>
    rw [if_pos c7] at q
    exact ifT <| ws_ret (pf := true) <| w_c (fun _ => .str _) q
  | true =>
  rw [if_neg (by rw [c7]; decide)] at q
  refine ifF <| ws_next <| ws_seq <| ws_if (pf := true) <| Wt.imp (Θ := fun b ρ' => ρ' = [.dat (.dct a (partsD i))] ∧ b = !isWords rowWk i.wk) ?_ ?_
  · refine wt_and <| wt_test <| w_op <| g rfl rfl <| w_cvalT cr c2' hW <| od_neD ok.lwk (by decide +kernel) ⟨_, rfl, ?_⟩
    cases n4 : PyData.eqv i.wk.py (strT rowWk).py with
    | true =>
      rw [eqv_strs (ss := rowWk) n4]
      exact ifF ⟨rfl, by decide +kernel⟩
    | false => exact ifT <| wt_not <| wt_B <| w_call0 <| wa_cons <| g rfl rfl <| wa_cons <| w_cvalT cr c2' hW <| wa_nil ⟨i.wk, rowWk, rfl, ok.wk, _, rfl, rfl, rfl⟩
  rintro _ _ ⟨rfl, rfl⟩
  cases c8 : isWords rowWk i.wk with
  | false =>
    rw [if_pos c8] at q
    exact ifT <| ws_ret (pf := true) <| w_c (fun _ => .str _) q
  | true =>
  rw [if_neg (by rw [c8]; decide)] at q
  obtain ⟨zs, es, hs⟩ := words_tup c7 ok.sl
  obtain ⟨zw, ew, hw⟩ := words_tup c8 ok.wk
  rw [show turnsOk (lenD i.sl) (lenD i.wk) i.t = turnsOk zs.length zw.length i.t from by rw [es, ew]; rfl] at q
  refine ifF <| ws_next <| ws_seq <| ws_if (pf := true) <| Wt.imp (Θ := fun b ρ' => ρ' = [.dat (.dct a (partsD i))] ∧ b = !turnsOk zs.length zw.length i.t) ?_ ?_
  · refine wt_and <| wt_test <| w_op <| g rfl rfl <| w_tup <| wa_nil ⟨by decide, od_neD ok.lt (by decide) ⟨_, rfl, ?_⟩⟩
    cases n4 : PyData.eqv i.t.py (Dt.tup []).py with
    | true =>
      rw [eqv_strs (ss := []) n4]
      exact ifF ⟨rfl, rfl⟩
    | false => exact ifT <| wt_not <| wt_B <| w_call0 <| wa_cons <| g rfl rfl <| wa_cons <| g rfl (show valD (partsD i) (.inr "sleep") = some (.tup zs) from by rw [← es]; rfl) <| wa_cons <| g rfl (show valD (partsD i) (.inr "wake") = some (.tup zw) from by rw [← ew]; rfl) <| wa_nil ⟨i.t, zs, zw, rfl, ok.t, hs, hw, _, rfl, rfl, rfl⟩
  rintro _ _ ⟨rfl, rfl⟩
  cases c9 : turnsOk zs.length zw.length i.t with
  | false =>
    rw [if_pos c9] at q
    exact ifT <| ws_ret (pf := true) <| w_c (fun _ => .str _) q
  | true =>
  rw [if_neg (by rw [c9]; decide)] at q
  exact ifF <| ws_next <| ws_ret (pf := true) <| w_c (fun _ => .non) q
end

end K04

set_option maxHeartbeats 2000000
namespace K04
open PySem PySem.Spec PyProof.Rows L2 DL ClX
variable [Tb]
abbrev sIsleI : Stmt := inClass (topS 19) 2
abbrev PIsle : List Str := ["self", "name", "kept", "plain", "leash", "needs", "sleeps", "sleep", "wake", "turns"]
abbrev NIsle : List Str := ["self", "name", "kept", "plain", "leash", "needs", "sleeps", "sleep", "wake", "turns", "parts", "wrong"]
theorem scIsleI : FnScope NIsle PIsle (defScope sIsleI) := ⟨rfl, rfl, rfl, by decide +kernel, rfl, by decide +kernel, by decide +kernel⟩
theorem seq5 {t1 t2 t3 t4 t5 t6 : TS} {E : Ends} {σ : L2.St} {H : Hp} (h : tSeq t1 (tSeq t2 (tSeq t3 (tSeq t4 t5))) { E with nx := t6 E } σ H) : tSeq t1 (tSeq t2 (tSeq t3 (tSeq t4 (tSeq t5 t6)))) E σ H := h
/-! ### Isle.__init__ -/
def argsI (d : Dt) (i : Pt) : List Dt := [d, i.k, i.p, i.l, i.n, i.s, i.sl, i.wk, i.t]
/-- cN: InvalidName, cI: InvalidIsle -/
def WI (cN cI : Addr) : List Dt → (List Str → List Dt → Prop) → (Addr → List Str → List Dt → Prop) → Prop := fun ds Φ Ξ => ∃ d i, ds = argsI d i ∧ shortD d = true ∧ i.Ok ∧ (isOwn d = true → d = .str i.nm) ∧ (isOwn d = false → Ξ cN ["value"] [d]) ∧
  (isOwn d = true → (∀ z, faultI i = some z → Ξ cI ["part", "which"] [.str z, .str i.nm]) ∧ (faultI i = none → ∀ (b : Addr) (ss ss' : List Str), i.n = strT ss → ss'.Perm ss → sortedS ss' = true → Φ ["_parts"] [.dct b (partsD { i with n := strT ss' })]))
theorem fault_needs {i : Pt} (h : faultI i = none) : ∃ ss, i.n = strT ss := by
  unfold faultI at h
  cases c : isRow i.n 7 with
  | true => exact row_strs c
  | false =>
    rw [c] at h
    simp only [Bool.not_false, Bool.true_or, if_true] at h
    repeat' split at h
    all_goals cases h
theorem flat_w (o : Option Str) : flatD (wD o) = true := by cases o <;> rfl
section
variable {P : Program} {w : World} {K : PySem.W.Frag} {mg : Str → Option Value} {base : Heap} {C : Addr} {f : Addr} {fd : FuncData} {k : Nat} {B1 B2 cN cI : Addr} {id1 id2 : String} {tl1 tl2 : List Value} {n1 n2 : Nat}
theorem ok_isleI (F : Fun K "__init__" "Isle.__init__" sIsleI f fd) (B : Bt mg) (T : IsleK K mg C) (dO : DF K mg "is_own_name" sOwn ["value"]) (gO : FnOk P w K mg base CX0 (k + 2) dO.f dO.fd ["value"] (spP K WOwn)) (dW : DF K mg "_wrong_part" sWrong ["parts"]) (gW : FnOk P w K mg base CX0 (k + 2) dW.f dW.fd ["parts"] (spP K WWrong))
    (m1 : Er K mg "InvalidName" ["value"] B1 id1 tl1 cN) (i1 : Ini K cN n1 (W1 "value")) (m2 : Er K mg "InvalidIsle" ["which", "part"] B2 id2 tl2 cI) (i2 : Ini K cI n2 (W2 "which" "part")) :
    FnOk P w K mg base (L2.CX P w) (k + 3) f fd PIsle (spMkX K C (WI cN cI)) := by
  have len : ∀ vs H Q E, spMkX K C (WI cN cI) vs H Q E → vs.length = PIsle.length := fun vs H Q E ⟨M, self, dx, ws, ds, Φ, Ξ, e, _, _, _, _, x, ⟨d, i, e2, _⟩, _⟩ => by rw [e, List.length_cons, x.len, e2]; rfl
  refine F.okX scIsleI len fun cdv A outer s H vs Q E hr h => ?_
  have hu := hu_of hr
  refine ⟨_, pss_cons (ps_if (pt_not (pt_val (pe_call gO hr (by rfl) dO.g dO.F.kp dO.b .nil pass0 (pa_cons (pv 1) pa_nil)))) (pss_one (ps_raise rfl (takes_of rfl rfl rfl rfl) (m1.pmk i1 rfl rfl (hr.mono (by omega)) (by rfl) (pa_cons (pv 1) pa_nil)))) pss_nil)
    <| pss_cons (ps_set (i := 10) scIsleI.nd rfl (.inl rfl) (pe_disp (pps_cons pe_str (pv 1) <| pps_cons pe_str (pv 2) <| pps_cons pe_str (pv 3) <| pps_cons pe_str (pv 4) <| pps_cons pe_str (pv 5) <| pps_cons pe_str (pv 6) <| pps_cons pe_str (pv 7) <| pps_cons pe_str (pv 8) <| pps_cons pe_str (pv 9) pps_nil) rfl rfl (by simp) (by decide)))
    <| pss_cons (ps_set (i := 11) scIsleI.nd rfl (.inl rfl) (pe_call gW hr (by rfl) dW.g dW.F.kp dW.b .nil pass0 (pa_cons (pv 10) pa_nil)))
    <| pss_cons (ps_if (pt_cmpR op_notN (pv 11) pe_non (nomark _)) (pss_one (ps_raise rfl (takes_of rfl rfl rfl rfl) (m2.pmk i2 rfl rfl (hr.mono (by omega)) (by rfl) (pa_cons (pv 1) (pa_cons (pv 11) pa_nil))))) pss_nil)
    <| pss_cons (ps_dput hu (pv 10) pe_str (pe_callTy (tupleK K rfl) (by rfl) B.tuple PyProof.Rows.boot_tuple (pa_cons (pe_callB DL.cr_sortedS (by rfl) B.sorted PyProof.Rows.boot_sorted (pa_cons (pe_callTy (listK K rfl) (by rfl) B.list PyProof.Rows.boot_list (pa_cons (pv 5) pa_nil)) pa_nil)) pa_nil)) rfl)
    <| pss_one (ps_fld (pv 0) (pv 10) rfl), seq5 (read_IX (N := NIsle) h (by rw [len _ _ _ _ h]; decide) fun self ds Φ Ξ _ ⟨d, i, e, hd, ok, nm, qn, qi⟩ => ?_)⟩
  subst e
  show Ws K _ [.dat (.cls self), .dat d, .dat i.k, .dat i.p, .dat i.l, .dat i.n, .dat i.s, .dat i.sl, .dat i.wk, .dat i.t, .any, .any] _
  refine ws_seq <| ws_if (pf := true) <| wt_not <| wt_B <| w_call0 <| wa_cons <| w_var (d := d) rfl <| wa_nil ⟨d, rfl, hd, _, rfl, ?_⟩
  cases c : isOwn d with
  | false => exact ifT <| ws_raise (pf := true) <| wa_cons <| w_var (d := d) rfl <| wa_nil ⟨by show 1 ≤ 900; decide, _, rfl, qn c⟩
  | true =>
  obtain ⟨qf, qo⟩ := qi c
  have hz : i.nm.length ≤ 1000 := by rw [nm c] at hd; exact of_decide_eq_true hd
  rw [nm c]
  refine ifF <| ws_next <| ws_seq <| ws_owndisp (i := 10) (by show 10 < 12; decide) (wd_var (d := .str i.nm) rfl <| wd_var (d := i.k) rfl <| wd_var (d := i.p) rfl <| wd_var (d := i.l) rfl <| wd_var (d := i.n) rfl <| wd_var (d := i.s) rfl <| wd_var (d := i.sl) rfl <| wd_var (d := i.wk) rfl <| wd_var (d := i.t) rfl wd_nil)
    (by show ([.inr "name", .inr "kept", .inr "plain", .inr "leash", .inr "needs", .inr "sleeps", .inr "sleep", .inr "wake", .inr "turns"] : List Key).Nodup; decide +kernel) (by show 9 ≤ 15; decide) ?_
  show Ws K _ [.dat (.cls self), .dat (.str i.nm), .dat i.k, .dat i.p, .dat i.l, .dat i.n, .dat i.s, .dat i.sl, .dat i.wk, .dat i.t, .ownd (partsD i), .any] _
  refine ws_seq <| ws_asg (pf := true) <| wp_thawd (i := 10) rfl fun a => w_call0 <| wa_cons <| w_var (d := .dct a (partsD i)) rfl <| wa_nil ⟨a, i, rfl, ok, hz, flat_w _, ?_⟩
  show Ws K _ [.dat (.cls self), .dat (.str i.nm), .dat i.k, .dat i.p, .dat i.l, .dat i.n, .dat i.s, .dat i.sl, .dat i.wk, .dat i.t, .ownd (partsD i), .dat (wD (faultI i))] _
  cases cf : faultI i with
  | some z => exact ws_seq <| ws_if (pf := true) <| wt_test <| w_op <| w_var (d := .str z) rfl <| w_c (fun _ => .non) <| od_notN ⟨_, rfl, ifT <| ws_raise (pf := true) <| wa_cons <| w_var (d := .str i.nm) rfl <| wa_cons <| w_var (d := .str z) rfl <| wa_nil ⟨by show 2 ≤ 900; decide, _, _, rfl, qf z cf⟩⟩
  | none =>
    obtain ⟨ss, en⟩ := fault_needs cf
    refine ws_seq <| ws_if (pf := true) <| wt_test <| w_op <| w_var (d := .non) rfl <| w_c (fun _ => .non) <| od_notN ⟨_, rfl, ifF <| ws_next ?_⟩
    refine ws_frz (i := 10) <| ws_dput (pf := true) (i := 10) (kvs := partsD i) rfl <| w_cb <| wa_cons <| w_cb <| wa_cons <| w_cb <| wa_cons <| w_var (d := strT ss) (by rw [← en]; rfl) <| wa_nil <| rd_list rfl <| wa_nil <| rd_sortedS fun ss' hp hs => wa_nil <| rd_tuple rfl ⟨partsD i, rfl, by show 9 < 100000; decide, partsD { i with n := strT ss' }, rfl, fun a => ⟨rfl, fs_one T.cl T.nP (fun z => nomatch z) (by decide) <| w_var (d := .dct a (partsD { i with n := strT ss' })) rfl ⟨rfl, qo cf a ss ss' en hp hs⟩⟩⟩
end
end K04


set_option maxHeartbeats 2000000
namespace K04
open PySem PySem.Spec PyProof.Rows L2 DL ClX
variable [Tb]
section
variable {P : Program} {w : World} {K : PySem.W.Frag} {mg : Str → Option Value} {base : Heap} {C : Addr}
/-! ### the isle's properties -/
def isleD (C a b : Addr) (i : Pt) : Dt := .ins C a ["_parts"] [.dct b (partsD i)]
theorem ok_get {f : Addr} {fd : FuncData} {st : Stmt} {qual x key : Str} {p1 p2 p3 p4 p5 : Pos} {j : Nat} (F : Fun K x qual st f fd) (S : FnScope ["self"] ["self"] (defScope st)) (hb : defBody st = [.Return (some (.Subscript (.Attribute (.Name "self" p1) "_parts" p2) (.Constant (.str key) j p3) p4)) p5])
    (hv : (defScope st).names.lookup ("self" : Str) = some NameKind.local) (T : IsleK K mg C) : FnOk P w K mg base CX0 1 f fd ["self"] (spP K fun ds Φ => ∃ a b i d, ds = [isleD C a b i] ∧ valD (partsD i) (.inr key) = some d ∧ Φ d) := by
  refine defP0 F S (fun ds Φ ⟨a, b, i, d, e, _⟩ => by rw [e]; rfl) (by decide) fun cdv A outer s H E hr => ?_
  have hu := hu_of hr
  rw [hb]
  refine ⟨_, pss_one (ps_ret (pe_dget hu (pe_fld (pv 0 (hv := .inl hv)) rfl) pe_str (fun _ _ => rfl))), ?_⟩
  rintro ds Φ ⟨a, b, i, d, rfl, l, q⟩
  exact ws_ret (pf := true) <| w_dget <| w_fld T.cl T.nP <| w_var rfl ⟨a, _, _, .dct b (partsD i), rfl, rfl, w_c (fun _ => .str _) ⟨b, _, d, rfl, rfl, l, q⟩⟩
abbrev sSize : Stmt := inClass (topS 19) 6
theorem scSize : FnScope ["self"] ["self"] (defScope sSize) := ⟨rfl, rfl, rfl, by decide +kernel, rfl, by decide +kernel, by decide +kernel⟩
theorem ok_size {f : Addr} {fd : FuncData} (F : Fun K "size" "Isle.size" sSize f fd) (T : IsleK K mg C) : FnOk P w K mg base CX0 1 f fd ["self"] (spP K fun ds Φ => ∃ a b i m n, ds = [isleD C a b i] ∧ i.k = .int m ∧ i.p = .int n ∧ Φ (.int (m + n))) := by
  refine defP0 F scSize (fun ds Φ ⟨a, b, i, m, n, e, _⟩ => by rw [e]; rfl) (by decide) fun cdv A outer s H E hr => ?_
  have hu := hu_of hr
  refine ⟨_, pss_one (ps_ret (pe_op op_add (pe_dget hu (pe_fld (pv 0) rfl) pe_str (fun _ _ => rfl)) (pe_dget hu (pe_fld (pv 0) rfl) pe_str (fun _ _ => rfl)))), ?_⟩
  rintro ds Φ ⟨a, b, i, m, n, rfl, e1, e2, q⟩
  exact ws_ret (pf := true) <| w_op <| w_dget <| w_fld T.cl T.nP <| w_var rfl ⟨a, _, _, .dct b (partsD i), rfl, rfl, w_c (fun _ => .str _) ⟨b, _, .int m, rfl, rfl, by rw [← e1]; rfl, w_dget <| w_fld T.cl T.nP <| w_var rfl ⟨a, _, _, .dct b (partsD i), rfl, rfl, w_c (fun _ => .str _) ⟨b, _, .int n, rfl, rfl, by rw [← e2]; rfl, od_I0i q⟩⟩⟩⟩
end
end K04


set_option maxHeartbeats 4000000
namespace K04
open PySem PySem.Spec PyProof.Rows L2 DL
variable [Tb]
abbrev sPenOf : Stmt := topS 25
abbrev sDraw : Stmt := topS 26
theorem scPenOf : FnScope ["_law_script"] ["_law_script"] (defScope sPenOf) := ⟨rfl, rfl, rfl, by decide +kernel, rfl, by decide +kernel, by decide +kernel⟩
theorem scDraw : FnScope ["_law_pen", "_law_many", "_law_digit", "_law_at", "_law_cell", "_law_great", "_law_mixed"] ["_law_pen", "_law_many"] (defScope sDraw) := ⟨rfl, rfl, rfl, by decide +kernel, rfl, by decide +kernel, by decide +kernel⟩
section
variable {P : Program} {w : World} {K : PySem.W.Frag} {mg : Str → Option Value} {base : Heap}
theorem cutV_to {xs : List V} (n : Nat) : cutV xs none (some (n : Int)) = xs.take n := by
  unfold cutV
  rw [HT.sIx_none, HT.sIx_nat, List.drop_zero, Nat.sub_zero]
  by_cases c : n ≤ xs.length
  · rw [Nat.min_eq_left c]
  · rw [Nat.min_eq_right (by omega), List.take_of_length_le (Nat.le_refl _), List.take_of_length_le (by omega)]
theorem ok_penOf {f : Addr} {fd : FuncData} (F : Fun K "_law_pen_of" "_law_pen_of" sPenOf f fd) (B : Bt mg) : FnG P w K mg base CX0 1 f fd ["_law_script"] (spPen K) := by
  refine okG F scPenOf (fun vs H Q E ⟨a, ns, e, _⟩ => by rw [e]; rfl) fun cdv A outer s H vs Q E hr hg h => ?_
  refine ⟨_, pss_one (ps_ret (pe_lst (pa_cons (pe_callTy call_list_of (by rfl) B.list PyProof.Rows.boot_list (pa_cons (pe_slice sl_list (pv 0) po_none (po_some pe_int)) pa_nil)) (pa_cons pe_int (pa_cons pe_int pa_nil))))), ?_⟩
  obtain ⟨a, ns, rfl, hS, q⟩ := h
  refine ⟨.ref a, rfl, 63, rfl, a, _, rfl, hS, fun c nc => ⟨c, _, rfl, .inl (.inl (.inl upd_same)), fun l nl => ⟨by show 3 ≤ sizeLine; decide, fun p np => ?_⟩⟩⟩
  have e1 := cutV_to (xs := ns.map V.int) 63
  have s1 : Same H (upd H c (.lst (cutV (ns.map V.int) none (some 63)))) := same_new nc
  have s2 := same_new (o := .lst (cutV (ns.map V.int) none (some 63))) nl
  have hl : H l = none := by
    cases z : H l with
    | none => rfl
    | some o => rw [s1 l o z] at nl; cases nl
  have hp : H p = none := by
    cases z : H p with
    | none => rfl
    | some o => rw [s2 p o (s1 p o z)] at np; cases np
  have npl : p ≠ l := fun z => by rw [z, upd_same] at np; cases np
  refine q _ p l ((s1.trans s2).trans (same_new np)) hp hl npl upd_same ?_
  rw [upd_ne npl.symm, upd_same, List.map_take, ← e1]
  rfl
def WDraw : Nat → List Dt → (Dt → Nat → Prop) → Prop := fun n ds Φ => ∃ many : Int, ds = [.int many] ∧ 0 < many ∧ many < 1073741824 ∧ n < 1000000 ∧ ∀ r : Nat, (r : Int) < many → Φ (.int r) (n + 1)
theorem ok_draw {f : Addr} {fd : FuncData} (F : Fun K "_law_draw" "_law_draw" sDraw f fd) (B : Bt mg) : FnG P w K mg base CX0 1 f fd ["_law_pen", "_law_many"] (spN K WDraw) := by
  refine defN F scDraw (fun n ds Φ ⟨m, e, _⟩ => by rw [e]; rfl) (by decide) fun cdv A outer s H E hr hg => ?_
  refine ⟨_, pss_cons (ps_if (pt_cmpR op_gt (pe_ix ix_list (pv 0) pe_int (fun _ _ => rfl)) pe_int (nomark _))
      (pss_cons (ps_set (i := 2) scDraw.nd rfl (.inl rfl) (pe_op op_mod (pe_callTy call_int1 (by rfl) B.int PyProof.Rows.boot_int (pa_cons (pe_ix ix_list (pv 0) pe_int (fun _ _ => rfl)) pa_nil)) (pv 1)))
      (pss_cons (ps_asg (pe_op op_fdiv (pe_callTy call_int1 (by rfl) B.int PyProof.Rows.boot_int (pa_cons (pe_ix ix_list (pv 0) pe_int (fun _ _ => rfl)) pa_nil)) (pv 1)) (pg_sub (pv 0) pe_int set_list))
      (pss_one (ps_ret (pv 2))))) pss_nil)
    <| pss_cons (ps_set (i := 3) scDraw.nd rfl (.inl rfl) (pe_ix ix_list (pv 0) pe_int (fun _ _ => rfl)))
    <| pss_cons (ps_asg (pe_op op_add (pv 3) pe_int) (pg_sub (pv 0) pe_int set_list))
    <| pss_cons (ps_set (i := 4) scDraw.nd rfl (.inl rfl) (pe_op op_add (pe_op op_mul pe_int (pv 3)) pe_int))
    <| pss_cons (ps_if (pt_cmpR (op_neNil hr.units) (pe_ix ix_list (pv 0) pe_int (fun _ _ => rfl)) (pe_lst pa_nil) (nomark _))
      (pss_one (ps_set (i := 4) scDraw.nd rfl (.inl rfl) (pe_ix ix_list (pe_ix ix_list (pv 0) pe_int (fun _ _ => rfl)) (pe_op op_mod (pe_callTy call_int1 (by rfl) B.int PyProof.Rows.boot_int (pa_cons (pv 3) pa_nil)) (pe_callB call_len (by rfl) B.len PySem.boot_len (pa_cons (pe_ix ix_list (pv 0) pe_int (fun _ _ => rfl)) pa_nil))) (fun _ _ => rfl)))) pss_nil)
    <| pss_cons (ps_if (PW.pt (pw_and (pt_cmpR op_lt (pv 3) (pe_callB call_len (by rfl) B.len PySem.boot_len (pa_cons (pe_ix ix_list (pv 0) pe_int (fun _ _ => rfl)) pa_nil)) (nomark _)) (pw_and1 (pt_cmpR op_ge (pe_callB call_abs (by rfl) B.abs boot_abs (pa_cons (pv 4) pa_nil)) (pe_op op_pow pe_int pe_int) (nomark _)))))
      (pss_cons (ps_set (i := 5) scDraw.nd rfl (.inl rfl) (pe_op op_add (pe_op op_mul pe_int (pe_op op_sub (pe_callB call_abs (by rfl) B.abs boot_abs (pa_cons (pv 4) pa_nil)) (pe_op op_pow pe_int pe_int))) (pe_callTy call_int1 (by rfl) B.int PyProof.Rows.boot_int (pa_cons (pe_cmpR op_lt (pv 4) pe_int (nomark _)) pa_nil))))
      (pss_cons (ps_asg (pe_op op_fdiv (pe_callTy call_int1 (by rfl) B.int PyProof.Rows.boot_int (pa_cons (pv 5) pa_nil)) (pv 1)) (pg_sub (pv 0) pe_int set_list))
      (pss_one (ps_ret (pe_op op_mod (pe_callTy call_int1 (by rfl) B.int PyProof.Rows.boot_int (pa_cons (pv 5) pa_nil)) (pv 1)))))) pss_nil)
    <| pss_cons (ps_set (i := 6) scDraw.nd rfl (.inl rfl) (pe_op op_mod (pe_callTy call_int1 (by rfl) B.int PyProof.Rows.boot_int (pa_cons (pe_op op_pow (pe_op op_add (pe_op op_add (pe_op op_mod (pe_callTy call_int1 (by rfl) B.int PyProof.Rows.boot_int (pa_cons (pv 4) pa_nil)) pe_int) (pe_op op_mul pe_int (pv 3))) pe_int) pe_int) pa_nil)) pe_int))
    <| pss_cons (ps_set (i := 6) scDraw.nd rfl (.inl rfl) (pe_op op_mod (pe_callTy call_int1 (by rfl) B.int PyProof.Rows.boot_int (pa_cons (pe_op op_pow (pe_op op_add (pe_op op_add (pe_op op_mul (pv 6) (pe_op op_add (pe_op op_mul pe_int (pv 3)) pe_int)) (pe_op op_mul (pe_op op_mul pe_int (pv 3)) (pv 3))) pe_int) pe_int) pa_nil)) pe_int))
    <| pss_one (ps_ret (pe_op op_mod (pe_callTy call_int1 (by rfl) B.int PyProof.Rows.boot_int (pa_cons (pe_op op_fdiv (pv 6) pe_int) pa_nil)) (pv 1))), ?_⟩
  rintro n ds Φ ⟨m, rfl, hm, hm2, hn, q⟩
  have qx : ∀ x : Int, Φ (.int (x % m)) (n + 1) := fun x => by
    have h1 := Int.emod_nonneg x (by omega : m ≠ 0)
    have h2 := Int.emod_lt_of_pos x hm
    have := q (x % m).toNat (by rw [Int.toNat_of_nonneg h1]; exact h2)
    rw [Int.toNat_of_nonneg h1] at this
    exact this
  refine ws_open (i := 0) rfl fun ns c g h1 h2 h3 => ?_
  show Ws K _ [.pown [.lst (ns.map Dt.int), .int c, .int g], .dat (.int m), .any, .any, .any, .any, .any] _
  refine ws_seq <| ws_if (pf := true) <| wt_pen (i := 0) rfl <| wt_test <| w_op <| w_op <| w_var rfl <| w_c (fun _ => .int 2) <| od_ixL (atI_nat' (j := 2) rfl) <| w_c (fun _ => .int 0) <| od_I0b ⟨_, rfl, ?_⟩
  by_cases cg : (0 : Int) < g
  · rw [decide_eq_true cg]
    refine ifT <| ws_seq <| ws_asg (pf := true) <| wp_pen (i := 0) rfl <| w_op <| w_cb <| wa_cons <| w_op <| w_var rfl <| w_c (fun _ => .int 2) <| od_ixL (atI_nat' (j := 2) rfl) <| wa_nil <| rd_int <| w_var rfl <| od_I hm ⟨rfl, ?_⟩
    refine ws_seq <| ws_setpen (pf := true) (i := 0) rfl <| wp_pen (i := 0) rfl <| w_op <| w_cb <| wa_cons <| w_op <| w_var rfl <| w_c (fun _ => .int 2) <| od_ixL (atI_nat' (j := 2) rfl) <| wa_nil <| rd_int <| w_var rfl <| od_I ⟨hm, hm2⟩ ⟨rfl, w_c (fun _ => .int 2) ⟨_, 2, rfl, rfl, by show 2 < 3; decide, ?_⟩⟩
    refine ws_ret (pf := true) <| w_var (d := .int (g % m)) rfl ⟨n + 1, _, rfl, ?_, qx g⟩
    exact .pown (ns := ns) (c := c) (g := g / m) (by omega) (Int.ediv_nonneg h2 (by omega)) h3
  · rw [decide_eq_false cg]
    have e1 : ((c : Nat) : Int) + 1 = ((c + 1 : Nat) : Int) := by omega
    refine ifF <| ws_next <| ws_seq <| ws_asg (pf := true) <| wp_pen (i := 0) rfl <| w_op <| w_var rfl <| w_c (fun _ => .int 1) <| od_ixL (atI_nat' (j := 1) rfl) ⟨rfl, ?_⟩
    refine ws_seq <| ws_setpen (pf := true) (i := 0) rfl <| w_op <| w_var (d := .int c) rfl <| w_c (fun _ => .int 1) <| od_I0i <| w_c (fun _ => .int 1) ⟨_, 1, rfl, rfl, by show 1 < 3; decide, ?_⟩
    show Ws K _ [.pown [.lst (ns.map Dt.int), .int ((c : Nat) + 1), .int g], .dat (.int m), .any, .dat (.int c), .any, .any, .any] _
    rw [e1]
    refine ws_seq <| ws_asg (pf := true) <| w_op <| w_op <| w_c (fun _ => .int _) <| w_var (d := .int c) rfl <| od_I (.inl ⟨by decide, by decide⟩) <| w_c (fun _ => .int _) <| od_I0i ?_
    refine ws_seqI (fun ρ' => ∃ x : Int, ρ' = [.pown [.lst (ns.map Dt.int), .int ((c + 1 : Nat)), .int g], .dat (.int m), .any, .dat (.int c), .dat (.int x), .any, .any]) ?_ ?_
    · refine ws_if (pf := true) <| wt_pen (i := 0) rfl <| wt_test <| w_op <| w_op <| w_var rfl <| w_c (fun _ => .int 0) <| od_ixL (d := .lst (ns.map Dt.int)) (atI_nat' (j := 0) rfl) <| w_lst <| wa_nil ⟨Nat.zero_le _, od_neNil ⟨_, rfl, ?_⟩⟩
      rw [map_isEmpty]
      by_cases ce : ns.isEmpty = true
      · rw [ce]
        exact ifF <| ws_next ⟨_, rfl⟩
      · rw [Bool.not_eq_true] at ce
        rw [ce]
        have hl : 0 < ns.length := by
          cases ns with
          | nil => cases ce
          | cons _ _ => exact Nat.succ_pos _
        have hl' : (0 : Int) < ((ns.map Dt.int).length : Nat) := by rw [List.length_map]; omega
        have ei : ((c : Nat) : Int) % (((ns.map Dt.int).length : Nat) : Int) = ((c % ns.length : Nat) : Int) := by rw [List.length_map]; exact (Int.natCast_emod c ns.length).symm
        have eg : atI (ns.map Dt.int) (((c : Nat) : Int) % (((ns.map Dt.int).length : Nat) : Int)) = some (.int (ns[c % ns.length]'(Nat.mod_lt _ hl))) := by
          rw [ei]
          refine atI_nat' ?_
          rw [List.getElem?_map, List.getElem?_eq_getElem (Nat.mod_lt _ hl)]
          rfl
        refine ifT <| ws_asg (pf := true) <| wp_pen (i := 0) rfl <| w_op <| w_op <| w_var rfl <| w_c (fun _ => .int 0) <| od_ixL (d := .lst (ns.map Dt.int)) (atI_nat' (j := 0) rfl) <| w_op <| w_cb <| wa_cons <| w_var (d := .int c) rfl <| wa_nil <| rd_int <| w_cb <| wa_cons <| w_op <| w_var rfl <| w_c (fun _ => .int 0) <| od_ixL (d := .lst (ns.map Dt.int)) (atI_nat' (j := 0) rfl) <| wa_nil <| rd_len rfl <| od_I hl' <| od_ixL eg ⟨rfl, _, rfl⟩
    · rintro ρ' ⟨x, rfl⟩
      refine ws_seqI (fun ρ' => ρ' = [.pown [.lst (ns.map Dt.int), .int ((c + 1 : Nat)), .int g], .dat (.int m), .any, .dat (.int c), .dat (.int x), .any, .any]) ?_ ?_
      · refine ws_if (pf := true) <| wt_pen (i := 0) rfl <| wt_and <| wt_test <| w_op <| w_var (d := .int c) rfl <| w_cb <| wa_cons <| w_op <| w_var rfl <| w_c (fun _ => .int 0) <| od_ixL (d := .lst (ns.map Dt.int)) (atI_nat' (j := 0) rfl) <| wa_nil <| rd_len rfl <| od_I0b ⟨_, rfl, ?_⟩
        cases decide (((c : Nat) : Int) < (((ns.map Dt.int).length : Nat) : Int)) with
        | false => exact ifF <| ifF <| ws_next rfl
        | true =>
          refine ifT <| wt_test <| w_op <| w_cb <| wa_cons <| w_var (d := .int x) rfl <| wa_nil <| rd_abs <| w_op <| w_c (fun _ => .int 10) <| w_c (fun _ => .int 18) <| od_I ⟨by decide, by decide, by decide⟩ <| od_I0b ⟨_, rfl, ?_⟩
          by_cases cx : (10 : Int) ^ Int.toNat 18 ≤ (if x < 0 then -x else x)
          · rw [decide_eq_true cx]
            refine ifT <| ws_seq <| ws_asg (pf := true) <| w_op <| w_op <| w_c (fun _ => .int 2) <| w_op <| w_cb <| wa_cons <| w_var (d := .int x) rfl <| wa_nil <| rd_abs <| w_op <| w_c (fun _ => .int 10) <| w_c (fun _ => .int 18) <| od_I ⟨by decide, by decide, by decide⟩ <| od_I0i <| od_I (.inl ⟨by decide, by decide⟩) <| w_cb <| wa_cons <| w_op <| w_var (d := .int x) rfl <| w_c (fun _ => .int 0) <| od_I0b <| wa_nil <| rd_intb <| od_I0i ?_
            have hy : (0 : Int) ≤ 2 * ((if x < 0 then -x else x) - (10 : Int) ^ Int.toNat 18) + (if decide (x < 0) = true then 1 else 0) := by
              generalize (10 : Int) ^ Int.toNat 18 = t at cx ⊢
              split <;> omega
            generalize 2 * ((if x < 0 then -x else x) - (10 : Int) ^ Int.toNat 18) + (if decide (x < 0) = true then 1 else 0) = y at hy ⊢
            refine ws_seq <| ws_setpen (pf := true) (i := 0) rfl <| w_op <| w_cb <| wa_cons <| w_var (d := .int y) rfl <| wa_nil <| rd_int <| w_var (d := .int m) rfl <| od_I ⟨hm, hm2⟩ <| w_c (fun _ => .int 2) ⟨_, 2, rfl, rfl, by show 2 < 3; decide, ?_⟩
            refine ws_ret (pf := true) <| w_op <| w_cb <| wa_cons <| w_var (d := .int y) rfl <| wa_nil <| rd_int <| w_var (d := .int m) rfl <| od_I hm ⟨n + 1, _, rfl, ?_, qx y⟩
            exact .pown (ns := ns) (c := c + 1) (g := y / m) (by omega) (Int.ediv_nonneg hy (by omega)) h3
          · rw [decide_eq_false cx]
            exact ifF <| ws_next rfl
      · rintro ρ' rfl
        refine ws_seq <| ws_asg (pf := true) <| w_op <| w_cb <| wa_cons <| w_op <| w_op <| w_op <| w_op <| w_cb <| wa_cons <| w_var (d := .int x) rfl <| wa_nil <| rd_int <| w_c (fun _ => .int _) <| od_I (by show (0 : Int) < _; decide) <| w_op <| w_c (fun _ => .int _) <| w_var (d := .int c) rfl <| od_I (.inl ⟨by decide, by decide⟩) <| od_I0i <| w_c (fun _ => .int _) <| od_I0i <| w_c (fun _ => .int _) <| od_I ⟨by decide, by decide, ?_⟩ <| wa_nil <| rd_int <| w_c (fun _ => .int _) <| od_I (by show (0 : Int) < _; decide) ?_
        · omega
        generalize hy0 : (_ : Int) % (2147483647 : Int) = y
        have hy1 : 0 ≤ y := by rw [← hy0]; exact Int.emod_nonneg _ (by decide)
        have hy2 : y < 2147483647 := by rw [← hy0]; exact Int.emod_lt_of_pos _ (by decide)
        refine ws_seq <| ws_asg (pf := true) <| w_op <| w_cb <| wa_cons <| w_op <| w_op <| w_op <| w_op <| w_var (d := .int y) rfl <| w_op <| w_op <| w_c (fun _ => .int _) <| w_var (d := .int c) rfl <| od_I (.inl ⟨by decide, by decide⟩) <| w_c (fun _ => .int _) <| od_I0i <| od_I (.inl ⟨by omega, by omega⟩) <| w_op <| w_op <| w_c (fun _ => .int _) <| w_var (d := .int c) rfl <| od_I (.inl ⟨by decide, by decide⟩) <| w_var (d := .int c) rfl <| od_I (.inr ⟨by omega, by omega⟩) <| od_I0i <| w_c (fun _ => .int _) <| od_I0i <| w_c (fun _ => .int _) <| od_I ⟨by decide, by decide, ?_⟩ <| wa_nil <| rd_int <| w_c (fun _ => .int _) <| od_I (by show (0 : Int) < _; decide) ?_
        · have a1 : y * (2 * ((c : Nat) : Int) + 31) ≤ 2147483647 * 2000031 := Int.mul_le_mul (by omega) (by omega) (by omega) (by decide)
          have a2 : 0 ≤ y * (2 * ((c : Nat) : Int) + 31) := Int.mul_nonneg hy1 (by omega)
          have a3 : 60169 * ((c : Nat) : Int) * ((c : Nat) : Int) ≤ (60169 * 1000000) * 1000000 := Int.mul_le_mul (by omega) (by omega) (by omega) (by decide)
          have a4 : 0 ≤ 60169 * ((c : Nat) : Int) * ((c : Nat) : Int) := Int.mul_nonneg (by omega) (by omega)
          generalize y * (2 * ((c : Nat) : Int) + 31) = u1 at a1 a2 ⊢
          generalize 60169 * ((c : Nat) : Int) * ((c : Nat) : Int) = u2 at a3 a4 ⊢
          omega
        generalize (_ : Int) % (2147483563 : Int) = z
        refine ws_ret (pf := true) <| w_op <| w_cb <| wa_cons <| w_op <| w_var (d := .int z) rfl <| w_c (fun _ => .int _) <| od_I ⟨by decide, by decide⟩ <| wa_nil <| rd_int <| w_var (d := .int m) rfl <| od_I hm ⟨n + 1, _, rfl, ?_, qx _⟩
        exact .pown (ns := ns) (c := c + 1) (g := g) (by omega) h2 h3
end

abbrev sPick : Stmt := topS 27
theorem scPick : FnScope ["_law_pen", "_law_some"] ["_law_pen", "_law_some"] (defScope sPick) := ⟨rfl, rfl, rfl, by decide +kernel, rfl, by decide +kernel, by decide +kernel⟩
section
variable {P : Program} {w : World} {K : PySem.W.Frag} {mg : Str → Option Value} {base : Heap}
def WPick : Nat → List Dt → (Dt → Nat → Prop) → Prop := fun n ds Φ => ∃ d xs, ds = [d] ∧ seqD d = some xs ∧ 0 < xs.length ∧ xs.length ≤ 1000 ∧ n < 1000000 ∧ ∀ x ∈ xs, Φ x (n + 1)
theorem ok_pick {f fD : Addr} {fd fdD : FuncData} {k : Nat} (F : Fun K "_law_pick" "_law_pick" sPick f fd) (FD : Fun K "_law_draw" "_law_draw" sDraw fD fdD) (bD : Binds K fdD ["_law_pen", "_law_many"] []) (gD : mg "_law_draw" = some (.ref fD)) (B : Bt mg)
    (G : FnG P w K mg base CX0 k fD fdD ["_law_pen", "_law_many"] (spN K WDraw)) : FnG P w K mg base CX0 (k + 1) f fd ["_law_pen", "_law_some"] (spN K WPick) := by
  refine defN F scPick (fun n ds Φ ⟨m, _, e, _⟩ => by rw [e]; rfl) (by decide) fun cdv A outer s H E hr hg => ?_
  refine ⟨_, pss_one (ps_ret (pe_ix ix_seq (pv 1) (pe_callG G hr hg (by rfl) gD FD.kp bD .nil pass0 (pa_cons (pv 0) (pa_cons (pe_callB call_len (by rfl) B.len PySem.boot_len (pa_cons (pv 1) pa_nil)) pa_nil))) (fun _ _ => rfl))), ?_⟩
  rintro n ds Φ ⟨d, xs, rfl, hs, h1, h2, hn, q⟩
  refine ws_ret (pf := false) <| w_op <| w_var rfl <| w_callN (i := 0) rfl <| wa_cons <| w_cb <| wa_cons <| w_var rfl <| wa_nil <| rd_len (lenD_seq hs) <| wa_nil ⟨n, rfl, xs.length, rfl, by omega, by omega, hn, fun r hr => ?_⟩
  have hr : r < xs.length := by omega
  exact od_ix hs (atI_nat' (List.getElem?_eq_getElem hr)) ⟨n + 1, _, rfl, .pen (Nat.le_refl _), q _ (List.getElem_mem hr)⟩
end
end K04

set_option maxHeartbeats 2000000
/-! A dict with the entries of another one put into it: {**d, ..}, f(**d). -/
namespace DL
open PySem PySem.Spec
section
variable {M : Model} {Γ : PySem.Ctx} {p : Pos} {E : Value → Pos → Shared → Prop} {s : Shared}
/-- which part of an object is touched is no matter of what a program does -/
theorem wp_updKeys {a : Addr} {f : Array DictEntry → Array DictEntry} {x y : Option Value} {Q : Unit → Pos → Shared → Prop} (h : Sem.wp M Γ (updateDictKeys a f x) Q E p s) : Sem.wp M Γ (updateDictKeys a f y) Q E p s := by
  obtain ⟨⟨c, dd, dt, sl⟩, ho, z⟩ := h
  refine ⟨_, ho, ?_⟩
  cases dt <;> exact z
theorem wp_upd {a : Addr} {f : Array DictEntry → Array DictEntry} {x y : Option Value} {Q : Unit → Pos → Shared → Prop} (h : Sem.wp M Γ (updateDict a f x) Q E p s) : Sem.wp M Γ (updateDict a f y) Q E p s := by
  obtain ⟨⟨c, dd, dt, sl⟩, ho, z⟩ := h
  refine ⟨_, ho, ?_⟩
  cases dt <;> exact z
end
section
variable {prog : Program} {w : World} {K : Type} [DecidableEq K] {knd : KeyKind prog w K} {A : Around} {E : Value → Shared → Prop} {s : Shared}
/-- putting as a merge does it: whatever is known of d[k] = v is known of it -/
theorem put_of_set {M : Model} {d : Addr} {key v : Value} {z : Int} {Q : Unit → Shared → Prop} (h : wpAny M A (dictSetHashed d key z v) Q E s) : wpAny M A (dictPut d z key v) Q E s := by
  intro Γ p hΓ
  have h := h Γ p hΓ
  unfold dictSetHashed at h
  rw [Sem.wp_holding, Sem.wp_bind'] at h
  unfold dictPut
  rw [Sem.wp_bind']
  refine Sem.wp_mono _ _ _ (fun r p' s' q => ?_) (fun _ _ _ q => q) p s h
  cases r with
  | none => exact wp_updKeys q
  | some i =>
    have q : Sem.wp M Γ (updateDict d (fun es => es.modify i fun e => { e with val := v }) (keyPart key) >>= fun _ => point) (fun a _ s' => Q a s') (fun e _ s' => E e s') p' s' := q
    rw [Sem.wp_bind'] at q
    exact wp_upd q
theorem wpAny_dictPut_pairs {d : Addr} {kvs : List (K × Value)} {k : K} {key v : Value} {Q : Unit → Shared → Prop} (hkey : knd.is k key = true) (hm : s.heap.DictOf knd d kvs)
    (hQ : ∀ h', h'.DictOf knd d (stored kvs k v) → Heap.SameBut d s.heap h' → Q () { s with heap := h' })
    (hsz : kvs.length ≤ sizeLine := by size_fits) :
    wpAny (model prog w) A (dictPut d (knd.hash k) key v) Q E s := put_of_set (wpAny_dictSetHashed_pairs hkey hm hQ hsz)
theorem dictFind_no {d : Addr} {kvs : List (K × Value)} {k : K} {key : Value} {Q : Option Nat → Shared → Prop} (hkey : knd.is k key = true) (hm : s.heap.DictOf knd d kvs) (hn : k ∉ kvs.map (·.1)) (hQ : Q none s) :
    wpAny (model prog w) A (dictFind d key (knd.hash k)) Q E s := by
  obtain ⟨o, ⟨l⟩, ep, ho, hc, hd, hk, hp, _⟩ := hm
  have none_ : (l.toArray.findIdx? fun e => knd.is k e.key) = none := by
    rw [List.findIdx?_toArray, Pairs.findIdx hp k, List.findIdx?_eq_none_iff]
    exact fun x hx => decide_eq_false fun e => hn (e ▸ List.mem_map_of_mem hx)
  exact wpAny_dictFind_of hkey ho hd hk (none_ ▸ hQ)
theorem key_noref {k : K} {key : Value} (hkey : knd.is k key = true) (a : Addr) : key ≠ .ref a := by
  rintro rfl
  have := knd.byValue k _ hkey
  cases this
/-- a look on one side that changes nothing -/
theorem ite_look {M : Model} {α β : Type} {c : Prop} [Decidable c] {X : Sem α} {F : α → Sem PUnit} {L : Sem β} {a : α} {Q : β → Shared → Prop} (hX : ∀ Q' : α → Shared → Prop, Q' a s → wpAny M A X Q' E s) (hF : F a = pure ⟨⟩) (h : wpAny M A L Q E s) :
    wpAny M A (if c then X >>= fun x => F x >>= fun _ => L else L) Q E s := by
  split
  · exact wpAny_bind (hX _ (wpAny_bind (hF ▸ wpAny_pure h)))
  · exact h
/-- a loop that does nothing -/
theorem still_loop {α : Type} {f : α → PUnit → Sem (ForInStep PUnit)} : ∀ l : List α, (∀ a ∈ l, f a ⟨⟩ = pure (.yield ⟨⟩)) → (forIn l PUnit.unit f : Sem PUnit) = pure ⟨⟩
  | [], _ => rfl
  | a :: l, h => by
    rw [List.forIn_cons, h a (.head _)]
    exact still_loop l fun b hb => h b (.tail _ hb)
/-- a loop over the numbers below n, from i on, k of them to come -/
theorem count_loop {M : Model} {n : Nat} {f : Nat → PUnit → Sem (ForInStep PUnit)} {T : Nat → Shared → Prop} {Q : PUnit → Shared → Prop} (step : ∀ i s, i < n → T i s → wpAny M A (f i ⟨⟩) (fun r s' => r = .yield ⟨⟩ ∧ T (i + 1) s') E s) (last : ∀ s, T n s → Q ⟨⟩ s) :
    ∀ (k i : Nat) (s : Shared), i + k = n → T i s → wpAny M A (forIn (List.range' i k) PUnit.unit f) Q E s
  | 0, i, s, e, t => wpAny_pure (last s (e ▸ t))
  | k + 1, i, s, e, t => by
    rw [List.range'_succ, List.forIn_cons]
    refine wpAny_bind (wpAny_mono (step i s (by omega) t) (fun r s' z => ?_) fun _ _ z => z)
    obtain ⟨rfl, z⟩ := z
    exact count_loop step last k (i + 1) s' (by omega) z
theorem stored_new {kvs : List (K × Value)} {k : K} {v : Value} (h : k ∉ kvs.map (·.1)) : stored kvs k v = kvs ++ [(k, v)] := by
  unfold stored
  rw [if_neg]
  intro z
  obtain ⟨x, hx, e⟩ := List.any_eq_true.mp z
  exact h (List.mem_map.mpr ⟨x, hx, of_decide_eq_true e⟩)
/-- the entries of another dict put in: what is in already, and what is to come -/
theorem wpAny_mergeMapping {u : Bool} {d o : Addr} {kvs more : List (K × Value)} {Q : Unit → Shared → Prop} (hdo : d ≠ o) (hoS : (o == sysModules) = false)
    (hd : s.heap.DictOf knd d kvs) (ho : s.heap.DictOf knd o more) (hu : u = true → ∀ kv ∈ more, kv.1 ∉ kvs.map (·.1))
    (hQ : ∀ h', h'.DictOf knd d (merged kvs more) → h'.DictOf knd o more → Heap.SameBut d s.heap h' → Q () { s with heap := h' })
    (hsz : kvs.length + more.length ≤ sizeLine := by size_fits) :
    wpAny (model prog w) A (mergeMapping d (.ref o) u) Q E s := by
  obtain ⟨od, esd, epd, hod, _, hdd, _, _, _⟩ := id hd
  obtain ⟨oo, eso, epo, hoo, hco, hdo', hko, hpo, hno⟩ := id ho
  have len : eso.size = more.length := by rw [← Pairs.length hpo, Array.length_toList]
  have pick : ∀ i (hi : i < eso.size), ∃ k v, more.drop i = (k, v) :: more.drop (i + 1) ∧ knd.is k eso[i].key = true ∧ eso[i].hash = knd.hash k ∧ eso[i].val = v := fun i hi => by
    have hm : i < more.length := len ▸ hi
    obtain ⟨a, b⟩ := hpo.get? (e := eso[i]) (by simp [hi]) (List.getElem?_eq_getElem hm)
    obtain ⟨k2, a2, b2⟩ := hko eso[i] (Array.getElem_mem hi)
    exact ⟨_, _, List.drop_eq_getElem_cons hm, a, by rw [b2, knd.inj _ _ _ a2 a], b⟩
  unfold mergeMapping
  refine wpAny_bind (wpAny_isInstance (T := "dict") ho.typeIs PySem.F.sub_dict_dict (wpAny_bind (wpAny_specialOf (T := "dict") ho.typeIs PySem.F.slot_dict_iter.lookup (wpAny_bind (wpAny_pure ?_)))))
  rw [show (some (Value.builtin "dict.__iter__") == some (Value.builtin "dict.__iter__")) = true from beq_self_eq_true _]
  dsimp only
  rw [if_neg (by rw [hoS]; exact Bool.false_ne_true)]
  refine wpAny_bind (wpAny_dictEntries hod hdd ?_)
  refine ite_look (fun _ q => wpAny_dictEntries hoo hdo' q) ?_ (wpAny_bind (wpAny_dictEntries hoo hdo' (wpAny_bind (wpAny_dictEpoch hoo hdo' (wpAny_bind ?_)))))
  · rw [← Array.forIn_toList]
    refine still_loop _ fun e he => ?_
    obtain ⟨k, hk, _⟩ := hko e (Array.mem_toList_iff.mp he)
    cases q : e.key with
    | ref a => exact absurd q (key_noref hk a)
    | _ => rfl
  rw [List.range_eq_range']
  refine count_loop (n := eso.size) (T := fun i s' => ∃ h' now, s' = { s with heap := h' } ∧ h'.DictOf knd d now ∧ h'.get? o = some oo ∧ Heap.SameBut d s.heap h' ∧ now.length ≤ kvs.length + i ∧
    merged now (more.drop i) = merged kvs more ∧ (u = true → ((now ++ more.drop i).map (·.1)).Nodup)) ?_ ?_ eso.size 0 s (Nat.zero_add _) ⟨s.heap, kvs, rfl, hd, hoo, Heap.SameBut.refl _ _, Nat.le_refl _, rfl, fun e => ?_⟩
  · rintro i s' hi ⟨h', now, rfl, hd', hoo', sb, hl, hm, hn⟩
    obtain ⟨k, v, dr, e1, e2, e3⟩ := pick i hi
    rw [dr] at hm hn
    have new : u = true → k ∉ now.map (·.1) := fun e z => by
      have q := hn e
      rw [List.map_append, List.nodup_append] at q
      exact q.2.2 k z k (by simp) rfl
    have put : wpAny (model prog w) A (dictPut d (knd.hash k) eso[i].key v) (fun _ s2 => ∃ h2, s2 = { s with heap := h2 } ∧ h2.DictOf knd d (stored now k v) ∧ Heap.SameBut d h' h2) E { s with heap := h' } :=
      wpAny_dictPut_pairs e1 hd' (fun h2 a b => ⟨h2, rfl, a, b⟩) (by omega)
    refine wpAny_bind (wpAny_dictEntries hoo' hdo' ?_)
    rw [Array.getElem?_eq_getElem hi]
    dsimp only
    rw [e2, e3]
    refine wpAny_bind (wpAny_holding (wpAny_mono (?_ : wpAny _ _ _ (fun _ s2 => ∃ h2, s2 = { s with heap := h2 } ∧ h2.DictOf knd d (stored now k v) ∧ Heap.SameBut d h' h2) _ _) (fun _ s2 z => ?_) fun _ _ z => z))
    · cases u with
      | false => rw [if_neg (by decide)]; exact put
      | true => rw [if_pos rfl]; exact wpAny_bind (dictFind_no e1 hd' (new rfl) (by rw [if_neg (by decide)]; exact put))
    · obtain ⟨h2, rfl, hd2, sb2⟩ := z
      have hoo2 : h2.get? o = some oo := (sb2.2 o (Ne.symm hdo)).trans hoo'
      have := stored_length_le now k v
      exact wpAny_bind (wpAny_dictEpoch hoo2 hdo' (by rw [if_neg (by simp)]; exact wpAny_pure ⟨rfl, h2, _, rfl, hd2, hoo2, sb.trans sb2, by omega, hm, fun e => by rw [stored_new (new e), List.append_assoc]; exact hn e⟩))
  · rintro s' ⟨h', now, rfl, hd', hoo', sb, _, hm, _⟩
    rw [len, List.drop_length] at hm
    exact wpAny_pure (hQ h' (hm ▸ hd') ⟨oo, eso, epo, hoo', hco, hdo', hko, hpo, hno⟩ sb)
  · obtain ⟨_, _, _, _, _, _, _, _, hn⟩ := hd
    rw [List.drop_zero, List.map_append, List.nodup_append]
    refine ⟨hn, hno, fun a ha b hb z => ?_⟩
    obtain ⟨kv, h1, rfl⟩ := List.mem_map.mp hb
    exact hu e kv h1 (z ▸ ha)
end
end DL

set_option maxHeartbeats 2000000
/-! Defs with **kw, called by keywords; C(**d); {**d, **e}. -/
namespace DL
open PySem PySem.Spec PyProof.Rows L2 StX PySem.W
variable [Tb]
section
variable {P : Program} {w : World} {A : Around} {E : Value → Shared → Prop} {s : Shared}
theorem nsSet_dk {d : Addr} {kvs : List (Key × Value)} {k : Str} {v : Value} {Q : Unit → Shared → Prop} (hm : s.heap.DictOf (mixKind P w) d kvs) (hf : (.inr k : Key) ∉ kvs.map (·.1))
    (hQ : ∀ h', h'.DictOf (mixKind P w) d (kvs ++ [(.inr k, v)]) → Heap.SameBut d s.heap h' → Q () { s with heap := h', toks := s.toks + 1 }) : wpAny (model P w) A (nsSet d k v) Q E s := by
  obtain ⟨o, es, ep, ho, hc, hd, hk, hp, hn⟩ := hm
  obtain ⟨c1, c2, c3⟩ := hc
  obtain ⟨oc, od, dat, sl⟩ := o
  subst c1 c2 c3 hd
  have noref : ∀ e ∈ es.toList, e.refKey = false := fun e he => by
    obtain ⟨k', hk', _⟩ := hk e (by simpa using he)
    rcases keyIs_shape hk' with ⟨i, t, _, e1⟩ | ⟨x, t, _, e1⟩
    · unfold DictEntry.refKey; rw [e1] <;> rfl
    · unfold DictEntry.refKey; rw [e1] <;> rfl
  have nokey : ∀ e ∈ es.toList, e.key.isStr k = false := fun e he => by
    cases c : e.key.isStr k with
    | false => rfl
    | true =>
      exfalso
      obtain ⟨i, hi, ei⟩ := List.mem_iff_getElem.mp he
      have hl := hp.length
      have hi2 : i < kvs.length := by rw [← hl]; exact hi
      obtain ⟨a1, a2⟩ := hp.get? (e := e) (i := i) (k := kvs[i].1) (v := kvs[i].2) (by rw [List.getElem?_eq_getElem hi, ei]) (by rw [List.getElem?_eq_getElem hi2])
      have a3 : keyIs (.inr k) e.key = true := by
        show Value.isStrOf k e.key = true
        rcases keyIs_shape a1 with ⟨j, t, _, e1⟩ | ⟨x, t, _, e1⟩
        · rw [e1] at c; cases c
        · rw [e1] at c ⊢; exact c
      have : kvs[i].1 = .inr k := (mixKind P w).inj _ _ _ a1 a3
      exact hf (List.mem_map.mpr ⟨kvs[i], List.getElem_mem hi2, this⟩)
  have hkey : (mixKind P w).is (.inr k) (.str k s.toks) = true := by show Value.isStrOf k (.str k s.toks) = true; exact beq_self_eq_true _
  unfold nsSet
  refine wpAny_bind (wpAny_bind (wpAny_askSetting (wpAny_pure (wpAny_bind (wpAny_mkText (wpAny_bind (wpAny_loadPart ho ?_)))))))
  have hes : es.toList.toArray = es := by simp
  have hdo : (⟨.type "dict", none, .dict es ep, #[]⟩ : Obj) = dictOf es.toList ep := by show _ = ({ cls := .type "dict", data := .dict es.toList.toArray ep } : Obj); rw [hes]
  have e1 : es.toList.any (·.key.isStr k) = false := by
    cases q : es.toList.any (·.key.isStr k) with
    | false => rfl
    | true => obtain ⟨e, he, z⟩ := List.any_eq_true.mp q; rw [nokey e he] at z; cases z
  have e2 : es.toList.any (·.refKey) = false := by
    cases q : es.toList.any (·.refKey) with
    | false => rfl
    | true => obtain ⟨e, he, z⟩ := List.any_eq_true.mp q; rw [noref e he] at z; cases z
  have c : aRefKeyMayBeTheName k es = false := by
    rw [aRefKeyMayBeTheName_at, ← Array.any_toList, ← Array.any_toList]
    show (!es.toList.any (·.key.isStr k) && es.toList.any (·.refKey)) = false
    rw [e2, Bool.and_false]
  have e : Obj.putName k (hashStr w k) (.str k s.toks) v ⟨.type "dict", none, .dict es ep, #[]⟩ = dictOf (es.toList ++ [⟨hashStr w k, .str k s.toks, v⟩]) (ep + 1) := by
    rw [hdo, putName_dict, putL_new nokey]
    show dictOf _ (if es.toList.any (·.key.isStr k) then ep else ep + 1) = _
    rw [e1, if_neg Bool.false_ne_true]
  dsimp only
  rw [c]
  show wpAny (model P w) A (updatePart d (some (.str k 0)) (Obj.putName k (hashStr w k) (.str k s.toks) v)) Q E { s with toks := s.toks + 1 }
  refine wpAny_updatePart ho (hQ _ ⟨_, (es.toList ++ [(⟨hashStr w k, .str k s.toks, v⟩ : DictEntry)]).toArray, ep + 1, Heap.get?_update_self _ ho (by rw [e]; rfl), by rw [e]; exact ⟨rfl, rfl, rfl⟩, by rw [e], fun x hx => ?_, ?_, ?_⟩ (Heap.SameBut.update ..))
  · have hx : x ∈ es.toList ++ [⟨hashStr w k, .str k s.toks, v⟩] := by simpa using hx
    rcases List.mem_append.mp hx with hx | hx
    · exact hk x (by simpa using hx)
    · obtain rfl := List.mem_singleton.mp hx
      exact ⟨.inr k, hkey, rfl⟩
  · exact hp.append hkey (hashStr w k) v
  · rw [List.map_append, List.nodup_append]
    refine ⟨hn, by simp, ?_⟩
    intro a ha b hb
    simp only [List.map_cons, List.map_nil, List.mem_singleton] at hb
    subst hb
    exact fun e => hf (e ▸ ha)
theorem fill_dk {d : Addr} : ∀ (ex : List (Str × Value)) (s : Shared) (kvs : List (Key × Value)) (Q : PUnit → Shared → Prop), s.heap.DictOf (mixKind P w) d kvs → (kvs.map (·.1) ++ ex.map fun x => (.inr x.1 : Key)).Nodup →
    (∀ h', h'.DictOf (mixKind P w) d (kvs ++ ex.map fun x => ((.inr x.1 : Key), x.2)) → Heap.SameBut d s.heap h' → Q ⟨⟩ { s with heap := h', toks := s.toks + ex.length }) →
    wpAny (model P w) A (forIn ex PUnit.unit fun x _ => (nsSet d x.1 x.2 >>= fun _ => pure (ForInStep.yield PUnit.unit))) Q E s
  | [], s, kvs, Q, hm, hn, hQ => by
    rw [List.forIn_nil]
    exact wpAny_pure (hQ s.heap (by rw [List.map_nil, List.append_nil]; exact hm) (Heap.SameBut.refl _ _))
  | x :: r, s, kvs, Q, hm, hn, hQ => by
    rw [List.forIn_cons]
    have hf : (.inr x.1 : Key) ∉ kvs.map (·.1) := fun z => by
      rw [List.nodup_append] at hn
      exact hn.2.2 _ z (.inr x.1) (by simp) rfl
    refine wpAny_bind (wpAny_bind (nsSet_dk hm hf fun h' hm' hs' => wpAny_pure ?_))
    show wpAny (model P w) A (forIn r PUnit.unit fun x _ => (nsSet d x.1 x.2 >>= fun _ => pure (ForInStep.yield PUnit.unit))) Q E { s with heap := h', toks := s.toks + 1 }
    refine fill_dk r { s with heap := h', toks := s.toks + 1 } _ Q hm' (by simpa using hn) fun h'' hm'' hs'' => ?_
    have t1 : s.toks + 1 + r.length = s.toks + (r.length + 1) := by omega
    show Q ⟨⟩ { s with heap := h'', toks := s.toks + 1 + r.length }
    rw [t1]
    exact hQ h'' (by simpa using hm'') (hs'.trans hs'')
end
/-! ### a def with **kw, called by keywords -/
def FnKw (P : Program) (w : World) (K : PySem.W.Frag) (mg : Str → Option Value) (base : Heap) (CX : CXT) (k : Nat) (f : Addr) (n : Nat) (ks : List Str) (sp : Sp) : Prop :=
  ∀ (A : Around) (outer : List Env) (s : Shared) (H : Hp) (us ws : List Value) (vs zs : List V) (Q : VK) (E : XK), Room k A → Env0 P w K mg base A outer s H → Vals vs us → Vals zs ws → vs.length = n → zs.length = ks.length →
    (∀ p, H p = none → sp (vs ++ [V.ref p]) (upd H p (.dK ((ks.map Sum.inr).zip zs))) Q E) → codeAny (model P w) A (.call (.ref f) ⟨us, ks.zip ws⟩) (CR CX outer P w H s Q E) s
theorem FnKw.mono {P : Program} {w : World} {K : PySem.W.Frag} {mg : Str → Option Value} {base : Heap} {CX : CXT} {j k : Nat} {f : Addr} {n : Nat} {ks : List Str} {sp : Sp} (F : FnKw P w K mg base CX j f n ks sp) (h : j ≤ k) : FnKw P w K mg base CX k f n ks sp :=
  fun A outer s H us ws vs zs Q E hr => F A outer s H us ws vs zs Q E (hr.mono h)
theorem nodup_inr : ∀ {ks : List Str}, ks.Nodup → (ks.map Sum.inr : List Key).Nodup
  | [], _ => List.nodup_nil
  | k :: ks, h => by
    obtain ⟨h1, h2⟩ := List.nodup_cons.mp h
    refine List.nodup_cons.mpr ⟨fun z => ?_, nodup_inr h2⟩
    obtain ⟨x, hx, e⟩ := List.mem_map.mp z
    exact h1 (Sum.inr.inj e ▸ hx)
theorem kv_zip : ∀ {ks : List Str} {zs : List V} {ws : List Value}, Vals zs ws → zs.length = ks.length → KV ((ks.map Sum.inr).zip zs : List (Key × V)) ((ks.zip ws).map fun x => ((.inr x.1 : Key), x.2))
  | [], [], _, .nil, _ => .nil
  | k :: ks, z :: zs, _, .cons a r, h => .cons ⟨rfl, a⟩ (kv_zip r (by simpa using h))
section
variable {CX : CXT} {P : Program} {w : World} {K : PySem.W.Frag} {mg : Str → Option Value} {base : Heap} {k : Nat} {f : Addr} {name qual : Str} {params : Arguments} {body : List Stmt} {scope : Scope} {dV kV doc pm cdv ct oc : Value} {an od : Option Addr}
  {osl : Array (Option Value)} {N ps ks : List Str} {sp : Sp}
theorem env0_laid' {A : Around} {outer : List Env} {s : Shared} {H : Hp} {h' : Heap} {t : Nat} {u : HO} (e0 : Env0 P w K mg base A outer s H) (kp : ∀ b x, s.heap.get? b = some x → h'.get? b = some x) (hsz : s.heap.objs.size ≤ h'.objs.size) (new : ObjOk P w (upd H s.heap.objs.size u) h' s.heap.objs.size u) :
    Env0 P w K mg base A outer { s with heap := h', toks := t } (upd H s.heap.objs.size u) := by
  refine ⟨e0.frames, e0.mod, fun b x e => ⟨kp b x (e0.bs b x e).1, ?_⟩, Nat.le_trans e0.bsz hsz, Heap.FunFrames.of_keeps (fun b x e _ => ⟨x, kp b x e, rfl⟩) e0.funs, fun b hb => ?_, e0.hok.laid kp (Nat.le_refl _) new, e0.bare⟩
  · rw [upd_ne (Nat.ne_of_lt (Heap.lt_size (e0.bs b x e).1))]
    exact (e0.bs b x e).2
  · obtain ⟨_, x, hx, _⟩ := e0.funs.mem hb
    rw [upd_ne (Nat.ne_of_lt (Heap.lt_size hx))]
    exact e0.frf b hb
theorem fn_kw {pd : Str} (lk : K.lookup f = some ⟨oc, od, .func (PySem.W.fnOf name qual params body scope dV kV doc pm an cdv ct), osl⟩) (hcd : PySem.W.codeIn K cdv qual = true) (S : FnScope N (ps ++ [pd]) scope) (hCX : CXUp CX) (hks : ks.Nodup) (hk15 : ks.length ≤ 15)
    (hb : ∀ us ws : List Value, us.length = ps.length → ws.length = ks.length → bindArgs (PySem.W.fnOf name qual params body scope dV kV doc pm an cdv ct) ⟨us, ks.zip ws⟩ =
      ((alloc ({ cls := .type "dict", data := .dict #[] } : Obj) : Sem Addr) >>= fun d => (forIn (ks.zip ws) PUnit.unit fun x _ => (nsSet d x.1 x.2 >>= fun _ => pure (ForInStep.yield PUnit.unit))) >>= fun _ => pure (ps.zip us ++ [(pd, Value.ref d)])))
    (hbody : ∀ (A : Around) (outer : List Env) (s : Shared) (H : Hp) (vs : List V) (Q : VK) (E : XK), Room k (A.deeper (envOfC qual scope s.heap.objs.size f cdv)) → sp vs H Q E →
      ∃ t, PSs (cxOf CX P w K mg base N qual scope f cdv A outer s H E) body t ∧ t { nx := fun _ H' => Q .non H', rt := Q } (L2.start N vs) H) : FnKw P w K mg base CX (k + 1) f ps.length ks sp := by
  intro A outer s H us ws vs zs Q E hr e0 r rz hl hlz hsp
  have hn : H s.heap.objs.size = none := e0.hok.fresh (Nat.le_refl _)
  have hl1 : us.length = ps.length := by rw [← r.length]; exact hl
  have hl2 : ws.length = ks.length := by rw [← rz.length]; exact hlz
  refine run_bnd lk hcd S hr e0 (G := fun xs H2 => ∃ p, H p = none ∧ xs = vs ++ [V.ref p] ∧ H2 = upd H p (.dK ((ks.map Sum.inr).zip zs))) (fun A' Ex Q' h => ?_) fun s2 H2 xs ⟨p, hp, ex, eH⟩ hr' => ?_
  · rw [hb us ws hl1 hl2]
    refine wpAny_bind (wpAny_alloc ?_)
    have d0 : ({ s with heap := s.heap.push ({ cls := .type "dict", data := .dict #[] } : Obj) } : Shared).heap.DictOf (mixKind P w) s.heap.objs.size [] := Heap.DictOf.new s.heap
    have nd : (([] : List (Key × Value)).map (·.1) ++ (ks.zip ws).map fun x => (.inr x.1 : Key)).Nodup := by
      rw [List.map_nil, List.nil_append]
      have : ((ks.zip ws).map fun x => (.inr x.1 : Key)) = (ks.map Sum.inr : List Key) := by
        rw [show (fun x : Str × Value => (.inr x.1 : Key)) = (Sum.inr ∘ Prod.fst) from rfl, ← List.map_map, List.map_fst_zip (by omega)]
      rw [this]
      exact nodup_inr hks
    refine wpAny_bind (fill_dk (ks.zip ws) { s with heap := s.heap.push ({ cls := .type "dict", data := .dict #[] } : Obj) } [] _ d0 nd fun h' hm' hs' => wpAny_pure ?_)
    rw [List.nil_append] at hm'
    have kp : ∀ b x, s.heap.get? b = some x → h'.get? b = some x := fun b x q => by
      have hb : b ≠ s.heap.objs.size := Nat.ne_of_lt (Heap.lt_size q)
      rw [hs'.2 b hb]
      exact Heap.get?_push_of_some _ q
    have sz : s.heap.objs.size ≤ h'.objs.size := by rw [hs'.1]; show _ ≤ (s.heap.push _).objs.size; rw [Heap.size_push]; exact Nat.le_succ _
    have new : ObjOk P w (upd H s.heap.objs.size (.dK ((ks.map Sum.inr).zip zs))) h' s.heap.objs.size (.dK ((ks.map Sum.inr).zip zs)) := by
      refine ⟨?_, beq_eq_false_iff_ne.mpr (Ne.symm (Nat.ne_of_lt (env0_big e0))), _, kv_zip rz hlz, hm'⟩
      rw [List.length_zip, List.length_map]
      exact Nat.le_trans (Nat.min_le_left _ _) (Nat.le_trans hk15 (by decide))
    have un : Un (frs outer) [] H (upd H s.heap.objs.size (.dK ((ks.map Sum.inr).zip zs))) s.heap h' := Un.laid kp (Nat.le_refl _) hn
    have z := h { s with heap := h', toks := s.toks + (ks.zip ws).length } _ (vs ++ [V.ref s.heap.objs.size]) (us ++ [Value.ref s.heap.objs.size]) (env0_laid' e0 kp sz new) un rfl (fun e s' => hCX outer s H _ _ E e s' un kp rfl) (r.append (.cons rfl .nil))
      (by rw [List.length_append, List.length_append, hl] <;> rfl) ⟨_, hn, rfl, rfl⟩
    rw [List.zip_append hl1.symm] at z
    exact z
  · subst ex eH
    exact hbody A outer s2 _ _ Q E hr' (hsp p hp)
end
end DL

set_option maxHeartbeats 2000000
/-! C(**d); {**d, **e}: the readings. -/
namespace DL
open PySem PySem.Spec PyProof.Rows L2 StX PySem.W
variable [Tb]
section
variable {X : Cx} {pins : List (Addr × Obj)} {σ : L2.St} {H : Hp} {s : Shared}
theorem run_merge {u : Bool} {d a : Addr} {kv0 kvs : List (Key × V)} {E : Value → Shared → Prop} {Q : Unit → Shared → Prop} (I : Inv X pins σ H s) (hd : H d = some (.dK kv0)) (ha : Rd H a (.dK kvs)) (hne : d ≠ a) (hu : u = true → kv0 = []) (hz : kv0.length + kvs.length ≤ sizeLine)
    (hQ : ∀ s', Inv X pins σ (upd H d (.dK (mergeK kv0 kvs))) s' → Q () s') : wpAny (model X.prog X.w) X.A (mergeMapping d (.ref a) u) Q E s := by
  obtain ⟨z1, y1, vs1, r1, o1⟩ := Rd.ok (.inl hd) I.hok
  obtain ⟨z2, y2, vs2, r2, o2⟩ := Rd.ok ha I.hok
  refine wpAny_mergeMapping hne y2 o1 o2 (fun e kv _ z => ?_) (fun h' a1 a2 a3 => hQ _ ?_) (by rw [← r1.length, ← r2.length]; exact hz)
  · have := hu e
    subst this
    cases r1
    cases z
  · refine d_write (t' := s.toks) I (by rw [hd]; trivial) a3 ?_ ⟨?_, y1, _, KV.merge r2 r1, a1⟩
    · obtain ⟨o, es, ep, ho, _⟩ := a1
      exact ⟨o, ho⟩
    · rw [(KV.merge r2 r1).length]
      exact Nat.le_trans (merged_length_le _ _) (by rw [← r1.length, ← r2.length]; exact hz)
theorem kv_unzip : ∀ {ks : List Str} {zs : List V} {vs : List (Key × Value)}, KV ((ks.map Sum.inr).zip zs : List (Key × V)) vs → zs.length = ks.length → ∃ ws, Vals zs ws ∧ vs = (ks.zip ws).map fun x => ((.inr x.1 : Key), x.2)
  | [], [], vs, r, _ => by cases r; exact ⟨[], .nil, rfl⟩
  | k :: ks, z :: zs, vs, r, h => by
    cases r with
    | @cons _ q _ qs a r =>
      obtain ⟨ws, r2, e2⟩ := kv_unzip (ks := ks) (zs := zs) r (by simpa using h)
      obtain ⟨q1, q2⟩ := q
      refine ⟨q2 :: ws, .cons a.2 r2, ?_⟩
      have a1 : (.inr k : Key) = q1 := a.1
      subst a1
      rw [e2]
      rfl
theorem kwIn_loop {P : Program} {w : World} {M : Model} {A : Around} {E : Value → Shared → Prop} {s : Shared} {body : DictEntry → List (Str × Value) → Sem (ForInStep (List (Str × Value)))} (hb : ∀ e x t kw, e.key = .str x t → body e kw = pure (.yield (kw ++ [(x, e.val)]))) :
    ∀ (es : List DictEntry) (ex : List (Str × Value)) (kw : List (Str × Value)) (Q : List (Str × Value) → Shared → Prop), Pairs (mixKind P w) es (ex.map fun x => ((.inr x.1 : Key), x.2)) → Q (kw ++ ex) s → wpAny M A (forIn es kw body) Q E s
  | [], [], kw, Q, _, h => by rw [List.forIn_nil]; exact wpAny_pure (by rw [List.append_nil] at h; exact h)
  | [], x :: ex, kw, Q, hp, h => by have := hp.length; simp at this
  | e :: es, [], kw, Q, hp, h => by have := hp.length; simp at this
  | e :: es, x :: ex, kw, Q, hp, h => by
    rw [List.map_cons] at hp
    cases hp with
    | cons h1 h2 h3 =>
      have h1 : keyIs (.inr x.1) e.key = true := h1
      rcases keyIs_shape h1 with ⟨i, t, e1, _⟩ | ⟨y, t, e1, e2⟩
      · cases e1
      · cases e1
        rw [List.forIn_cons, hb e x.1 t kw e2]
        refine wpAny_bind (wpAny_pure ?_)
        refine kwIn_loop hb es ex _ Q h3 ?_
        have h2 : e.val = x.2 := h2
        rw [h2, List.append_assoc]
        exact h
theorem run_kwIn {f : Value} {d : Addr} {ks : List Str} {zs : List V} {E : Value → Shared → Prop} {Q : List (Str × Value) → Shared → Prop} (I : Inv X pins σ H s) (hd : H d = some (.dK ((ks.map Sum.inr).zip zs))) (hl : zs.length = ks.length)
    (hQ : ∀ ws, Vals zs ws → Q (ks.zip ws) s) : wpAny (model X.prog X.w) X.A (keywordsIn f d) Q E s := by
  obtain ⟨z1, y1, vs1, r1, o, es, ep, ho, hc, hdat, hk, hp, hn⟩ := Rd.ok (.inl hd) I.hok
  obtain ⟨ws, rw1, e1⟩ := kv_unzip r1 hl
  unfold keywordsIn
  refine wpAny_bind (wpAny_dictEntries ho hdat ?_)
  refine wpAny_bind ?_
  rw [← Array.forIn_toList]
  refine kwIn_loop (P := X.prog) (w := X.w) (fun e x t kw ek => by simp only [ek]) es.toList (ks.zip ws) [] _ (by rw [← e1]; exact hp) (wpAny_pure (hQ ws rw1))
theorem mergeK_app : ∀ {ks : List Str} {zs : List V} {acc : List (Key × V)}, (acc.map (·.1) ++ (ks.map Sum.inr : List Key)).Nodup → zs.length = ks.length → mergeK acc ((ks.map Sum.inr).zip zs) = acc ++ (ks.map Sum.inr).zip zs
  | [], [], acc, _, _ => (List.append_nil acc).symm
  | k :: ks, z :: zs, acc, hn, hl => by
    have hf : (acc.any fun kv => decide (kv.1 = (.inr k : Key))) = false := by
      cases c : acc.any fun kv => decide (kv.1 = (.inr k : Key)) with
      | false => rfl
      | true =>
        obtain ⟨x, hx, e⟩ := List.any_eq_true.mp c
        rw [List.nodup_append] at hn
        exact absurd (of_decide_eq_true e) (hn.2.2 x.1 (List.mem_map.mpr ⟨x, hx, rfl⟩) (.inr k) (by simp))
    have e1 : putK acc (.inr k) z = acc ++ [(.inr k, z)] := by
      unfold putK
      rw [hf]
      rfl
    show mergeK (putK acc (.inr k) z) ((ks.map Sum.inr).zip zs) = acc ++ ((.inr k, z) :: (ks.map Sum.inr).zip zs)
    rw [e1, mergeK_app (by simpa using hn) (by simpa using hl), List.append_assoc]
    rfl
theorem mergeK_nil2 {ks : List Str} {zs : List V} (hn : ks.Nodup) (hl : zs.length = ks.length) : mergeK [] ((ks.map Sum.inr).zip zs) = (ks.map Sum.inr).zip zs := by
  rw [mergeK_app (by rw [List.map_nil, List.nil_append]; exact nodup_inr hn) hl, List.nil_append]
theorem run_evalKw {f : Value} {x : Sem Value} {ks : List Str} {E : Value → Shared → Prop} {Q : Args → Shared → Prop} (I : Inv X pins σ H s)
    (h : ∀ d s0, H d = none → Inv X pins σ (upd H d (.dK [])) s0 → wpAny (model X.prog X.w) X.A x (fun v s1 => ∃ (a : Addr) (zs : List V) (H1 : Hp), v = .ref a ∧ Inv X pins σ H1 s1 ∧ H1 d = some (.dK []) ∧ d ≠ a ∧ zs.length = ks.length ∧ ks.length ≤ 15 ∧ ks.Nodup ∧ Rd H1 a (.dK ((ks.map Sum.inr).zip zs)) ∧
      ∀ ws s2, Vals zs ws → Inv X pins σ (upd H1 d (.dK ((ks.map Sum.inr).zip zs))) s2 → Q ⟨[], ks.zip ws⟩ s2) E s0) :
    wpAny (model X.prog X.w) X.A (evalArgs f true [] [(none, x)]) Q E s := by
  unfold evalArgs
  refine wpAny_bind (wpAny_pure ?_)
  refine wpAny_bind (wpAny_pure ?_)
  dsimp only
  refine wpAny_holding ?_
  rw [if_neg (by simp)]
  refine wpAny_bind ?_
  unfold mergedKeywords
  refine wpAny_bind (wpAny_alloc ?_)
  have hn : H s.heap.objs.size = none := I.hok.fresh (Nat.le_refl _)
  have I0 : Inv X pins σ (upd H s.heap.objs.size (.dK [])) { s with heap := s.heap.push ({ cls := .type "dict", data := .dict #[] } : Obj) } := I.laid (t' := s.toks) (fun _ _ e => Heap.get?_push_of_some _ e) (Nat.le_refl _) (dk_empty _ (env0_big I.env0))
  refine wpAny_bind (wpAny_holding ?_)
  refine wpAny_bind ?_
  rw [List.forIn_cons]
  refine wpAny_bind ?_
  dsimp only [List.isEmpty_nil, if_true]
  refine wpAny_bind (wpAny_pure ?_)
  refine wpAny_bind (wpAny_mono (h _ _ hn I0) (fun v s1 hv => ?_) fun _ _ z => z)
  obtain ⟨a, zs, H1, ev, I1, hd, hne, hl, h15, hnd, hr, q⟩ := hv
  subst ev
  refine wpAny_bind (wpAny_onRaise (wpAny_holding (wpAny_tryCatch (wpAny_onRaise (run_merge I1 hd hr hne (fun _ => rfl) ?_ fun s2 I2 => ?_)))))
  · rw [List.length_zip, List.length_map, List.length_nil]
    have : min ks.length zs.length ≤ 15 := Nat.le_trans (Nat.min_le_left _ _) h15
    exact Nat.le_trans (by omega : 0 + min ks.length zs.length ≤ 15) (by decide)
  rw [mergeK_nil2 hnd hl] at I2
  refine wpAny_pure ?_
  dsimp only
  rw [List.forIn_nil]
  refine wpAny_pure ?_
  refine wpAny_pure ?_
  refine wpAny_pure ?_
  refine wpAny_bind (wpAny_pure ?_)
  refine wpAny_bind (wpAny_holding (run_kwIn I2 (upd_same ..) hl fun ws rws => ?_))
  exact wpAny_pure (q ws s2 rws I2)
end
end DL

set_option maxHeartbeats 2000000
/-! Data level: try: return C(e, .., k = v, ..) except X as e: suite (the exception kept). -/
namespace DL
open PySem PySem.Spec PyProof.Rows L2
variable [Tb]
/-- a class called by keywords, where what is raised is told by the slots -/
def tMakeKS (C : Addr) (n m : Nat) (sp : Sp) (gV : List V → List V → List V) (E : L2.St → XK) (t tk : TA) : TE := fun σ H Q => tMakeK C n m sp gV (E σ) t tk σ H Q
section
variable {X : Cx} {CX : CXT} {k n : Nat} {f C : Addr} {fd : FuncData} {ps ks : List Str} {sp : Sp} {E : L2.St → XK} {x : Str} {p pos : Pos} {e : Expr} {es : List Expr} {kws : List Keyword} {t tk : TA} {g : List Value → List Value → List Value} {gV : List V → List V → List V}
theorem run_makeKS {pins : List (Addr × Obj)} {σ : L2.St} {H : Hp} {s : Shared} {Q : VK} {us ws : List Value} {vs zs : List V} (mk : Mk X.K C f) (fn : FnOk X.prog X.w X.K X.mg X.base CX k f fd ps sp) (room : Room (k + 1) X.A) (bd : KBn X.K fd ps (n + 1) ks g gV) (pa : PassesAt CX X σ (E σ))
    (inv : Inv X pins σ H s) (ru : Vals vs us) (rw' : Vals zs ws) (hl1 : vs.length = n) (hl2 : zs.length = ks.length)
    (told : ∀ x dx, H x = none → H dx = none → dx ≠ x → sp (gV (.ref x :: vs) zs) (upd (upd H dx (.own x)) x (.ins C dx [])) (fun v H2 => v = .non ∧ Q (.ref x) H2) (E σ)) :
    wpAny (model X.prog X.w) X.A (call (.ref C) us (ks.zip ws)) (EP X pins σ Q) X.xe s := by
  have J := Inv.made (C := C) inv
  have now := told _ _ (inv.hok.fresh (Nat.le_succ s.heap.objs.size)) (inv.hok.fresh (Nat.le_refl _)) (Nat.ne_of_lt (Nat.lt_succ_self _))
  have self := Paired.cons (F := RelV) (show RelV (V.ref (s.heap.objs.size + 1)) (.ref (s.heap.objs.size + 1)) from rfl) ru
  refine wpAny_call (make_map inv.kIn mk.makes mk.init (beq_iff_eq.mp mk.fn) (codeAny_mono (fn.run _ _ _ _ ⟨_, _⟩ _ _ _ _ (room.make C us (ks.zip ws)) (J.env0.make C us (ks.zip ws)) (bd.to _ _ ws J.kIn ((Paired.length self).symm.trans (congrArg (· + 1) hl1)) (rw'.length.symm.trans hl2)) (bd.rel self rw') now) fun r s' z => ?_))
  have z := back_of (fun e s' => pa pins _ _ e s' J) J r s' z
  rcases r with e | f
  · exact z
  cases f with
  | ret u =>
    obtain ⟨v, H', J', rv, rfl, q⟩ := z
    exact ⟨rv, V.ref _, H', J', rfl, q⟩
  | _ => exact z
theorem pe_makeKS (mk : Mk X.K C f) (fn : FnOk X.prog X.w X.K X.mg X.base CX k f fd ps sp) (room : Room (k + 1) X.A) (gl : Gl X x) (at_ : X.mg x = some (.ref C)) (bd : KBn X.K fd ps (n + 1) ks g gV) (pa : ∀ σ, PassesAt CX X σ (E σ)) (ha : PA X (e :: es) t) (hkw : PK X kws tk)
    (all : (backToKw pos (keywordEach kws X.env)).all (·.1.isSome) = true := by rfl) (names : (backToKw pos (keywordEach kws X.env)).filterMap (·.1) = ks := by rfl) (nd : (x == ("__debug__" : Str)) = false := by decide)
    (st : starEach (e :: es) X.env = (false, eval e X.env) :: starEach es X.env := by rfl) (plain : ((backTo pos (starEach (e :: es) X.env)).any (·.1) || (backToKw pos (keywordEach kws X.env)).any (·.1.isNone)) = false := by rfl) :
    PE X (.Call (.Name x p) (e :: es) kws pos) (tMakeKS C n ks.length sp gV E t tk) :=
  ⟨fun pins s σ H Q inv h => wpAny_Call_Name_kw (ld_glob inv gl at_ (PySem.W.callWith_KW (h₀ := X.base) inv.ok.mod.kin mk.kp all (thn (ha.run pos pins s σ H _ inv h) fun us s1 ⟨vs, H1, inv1, ru, q⟩ =>
    thn (hkw.run pos pins s1 σ H1 _ inv1 q) fun ws s2 ⟨zs, H2, inv2, rz, l1, l2, q2⟩ => ⟨inv2.kIn, by rw [names]; exact run_makeKS mk fn room bd (pa σ) inv2 ru rz l1 l2 q2⟩) plain st) nd)⟩
end
section
variable {K : PySem.W.Frag} {ρ : List Sl} {tr tk : TA} {D : DE} {i : Nat} {ts : Addr → Value → Option Addr → TS} {c : Value} {Wout : WX} {C : Addr}
theorem ws_tryMakeK {pf : Bool} {W : List Dt → (List Str → List Dt → Prop) → (Addr → List Str → List Dt → Prop) → Prop} {n m : Nat} {gV : List V → List V → List V} {gD : List Dt → List Dt → List Dt}
    (hg : ∀ (x : Addr) (vs zs : List V) (ds es : List Dt) (H : Hp), vs.length = n → zs.length = m → DXs K H vs ds → DXs K H zs es → ∃ ws, gV (.ref x :: vs) zs = .ref x :: ws ∧ DXs K H ws (gD ds es))
    (h : Wa K pf tr ρ fun ds ρ1 => Wa K pf tk ρ1 fun es ρ2 => ds.length = n ∧ es.length = m ∧ W (gD ds es) (fun ns fs => ∀ a, D.rt (.ins C a ns fs) ρ2) fun C' ns fs => PySem.W.exmOne K (.ref C') c = some true ∧
      ∀ a dd, Ws K (ts a (.ref C') (some dd)) (ρ2.set i (.dat (.cls a))) { nx := fun ρ3 => D.nx (kept a C' ns fs (ρ3.set i .any)), rt := fun _ _ => False }) :
    Ws K (fun E σ H => tRet (tMakeKS C n m (spMkX K C W) gV (WE (wKeep K c i ts Wout E)) tr tk) E σ H) ρ D := fun M σ H S E k =>
  h M σ H S _ fun vs H1 ds ρ1 s1 S1 x1 kk => kk M σ H1 S1 _ fun zs H2 es ρ2 s2 S2 x2 ⟨l1, l2, w⟩ => by
    have h1 : vs.length = n := x1.len.trans l1
    have h2 : zs.length = m := x2.len.trans l2
    refine ⟨h1, h2, fun x dx hx hdx ne => ?_⟩
    obtain ⟨ws, e, xw⟩ := hg x vs zs ds es _ h1 h2 (x1.mono s2.dx) x2
    rw [e]
    have st0 : Stp M H M H2 := (s1.trans s2).st
    refine make_okX (Φ := fun d ρ' => D.rt d ρ') (xk := WE (wKeep K c i ts Wout E) σ) S2 hx hdx ne xw (fun _ _ _ z => z) w (fun v H3 d ρ' sm S3 xd f => k.rt M v H3 d ρ' σ (st0.trans (Stp.same M sm)) S3 xd f) fun H3 C' dd ns us fs sm e1 e2 nd xs ⟨hm, hsu⟩ => ?_
    have st2 : Stp M H M H3 := st0.trans (Stp.same M sm)
    refine ⟨true, hm, fun _ a na => ?_, fun z => nomatch z⟩
    have S4 : Sd K M H3 (σ.set i (some (.ref a))) (ρ2.set i (.dat (.cls a))) := (S2.same sm).put (.cls a) i
    refine hsu a dd M _ H3 S4 (keepE a (.ref C') (some dd) i E) ⟨fun M' σ' H' ρ' s S' z na' => ?_, fun _ _ _ _ _ _ _ _ _ z => z.elim, fun _ _ _ _ _ _ z => z.elim, fun _ _ _ _ _ _ z => z.elim, fun _ _ _ _ _ _ _ _ _ _ _ _ z => z.elim⟩
    have hc2 : cut M H3 dd = some (.xd (ns.zip us)) := cut_at nd e1
    obtain ⟨nd3, hd3⟩ := cut_of (s.dx dd _ hc2)
    have S5 : Sd K M' H' (σ'.set i none) (ρ'.set i .any) := by
      refine ⟨by rw [List.length_set, List.length_set]; exact S'.len, by rw [List.length_set]; exact S'.olen, S'.mok, fun j s0 e0 => ?_⟩
      by_cases cj : i = j
      · subst cj
        by_cases hi : i < ρ'.length
        · rw [List.getElem?_set_self hi] at e0
          have e0 := Option.some.inj e0
          subst e0
          exact ⟨none, by rw [List.getElem?_set_self (by rw [S'.len]; exact hi)], trivial⟩
        · rw [List.getElem?_eq_none (by rw [List.length_set]; omega)] at e0; cases e0
      · rw [List.getElem?_set_ne cj] at e0 ⊢
        exact S'.ok j s0 e0
    have S6 := S5.kept (a := a) (C := C') na' hd3 e2 nd3 (xs.mono s.dx)
    exact k.nx M' _ _ _ ((st2.trans s).trans (Stp.same M' (same_new na'))) S6 z
end
end DL

set_option maxHeartbeats 2000000
/-! C(**d); {**d, **e}; o.m(k = v, ..) of a def with **kw: the rules. -/
namespace DL
open PySem PySem.Spec PyProof.Rows L2 StX PySem.W
variable [Tb]
theorem ks_callKw {M : Model} {A : Around} {E : Value → Shared → Prop} {s : Shared} {f : Value} {first : List Value} {pos : Pos} {Q : Value → Shared → Prop} {P : Heap → Prop} {args : List (Bool × Sem Value)} {kws : List (Option Str × Sem Value)} (hst : (args.any (·.1) || kws.any (·.1.isNone)) = true)
    (hk : ∀ h, P h → ∃ k, (k = Keeper.frame ∨ k = Keeper.machine ∨ k = Keeper.boundFrame) ∧ Looks M h (keeperOf f) k)
    (h : wpAny M A (evalArgs f true args kws) (fun a s₁ => P s₁.heap ∧ wpAny M A (call f (first ++ a.pos) a.kw) Q E s₁) E s) : wpAny M A (callWith pos f first args kws) Q E s := by
  refine wpAny_bind (wpAny_holding (wpAny_mono h (fun a s₁ z => wpAny_bind (wpAny_standAt ?_)) fun _ _ z => z))
  obtain ⟨p, z⟩ := z
  obtain ⟨k, _, L⟩ := hk _ p
  rw [hst]
  refine wpAny_bind (L.here ?_)
  cases k <;> exact wpAny_bind (wpAny_mono (by first | exact Calls.wpAny_keep z | exact wpAny_operating z : wpAny M A _ Q E s₁) (fun r s₂ q => wpAny_bind (wpAny_holding (wpAny_point (wpAny_pure q)))) fun _ _ z => z)
/-- C(**e): e a dict with the keys ks -/
def tMakeDD (K : PySem.W.Frag) (C : Addr) (ks : List Str) (sp : Sp) (gV : List V → List V → List V) (E : XK) (te : TE) : TE := fun σ H Q => ∀ d, H d = none → te σ (upd H d (.dK [])) fun x H1 => ∃ (a : Addr) (zs : List V), x = .ref a ∧ H1 d = some (.dK []) ∧ d ≠ a ∧ zs.length = ks.length ∧
  Rd H1 a (.dK ((ks.map Sum.inr).zip zs)) ∧ ∀ x dx, upd H1 d (.dK ((ks.map Sum.inr).zip zs)) x = none → upd H1 d (.dK ((ks.map Sum.inr).zip zs)) dx = none → dx ≠ x →
    sp (gV [.ref x] zs) (upd (upd (upd H1 d (.dK ((ks.map Sum.inr).zip zs))) dx (.own x)) x (.ins C dx [])) (fun v H2 => v = .non ∧ Q (.ref x) H2) E
section
variable {X : Cx} {CX : CXT} {k : Nat} {f C : Addr} {fd : FuncData} {ps ks : List Str} {sp : Sp} {E : XK} {x : Str} {p pos kp : Pos} {e : Expr} {te : TE} {g : List Value → List Value → List Value} {gV : List V → List V → List V}
theorem pe_makeDD (mk : Mk X.K C f) (fn : FnOk X.prog X.w X.K X.mg X.base CX k f fd ps sp) (room : Room (k + 1) X.A) (gl : Gl X x) (at_ : X.mg x = some (.ref C)) (bd : KBn X.K fd ps 1 ks g gV) (pa : Passes CX X E) (he : PE X e te) (h15 : ks.length ≤ 15) (hnd : ks.Nodup) (nd : (x == ("__debug__" : Str)) = false := by decide) :
    PE X (.Call (.Name x p) [] [⟨none, e, kp⟩] pos) (tMakeDD X.K C ks sp gV E te) := by
  refine ⟨fun pins s σ H Q inv h => wpAny_Call_Name_kw (ld_glob inv gl at_ ?_ nd)⟩
  refine ks_callKw (P := X.K.In) rfl (keeps_K mk.kp) ?_
  refine run_evalKw (ks := ks) inv fun d s0 hn I0 => ?_
  refine wpAny_bind (thn (he.run pins s0 σ _ _ I0 (h d hn)) fun v s1 ⟨y, H1, I1, ry, a, zs, ey, hd, hne, hl, hr, q⟩ => ?_)
  subst ey
  obtain rfl : v = Value.ref a := ry
  refine wpAny_bind (wpAny_standAt (wpAny_pure ⟨a, zs, H1, rfl, I1, hd, hne, hl, h15, hnd, hr, fun ws s2 rw2 I2 => ⟨I2.kIn, ?_⟩⟩))
  exact run_makeKS (E := fun _ => E) (us := []) (vs := []) (n := 0) mk fn room bd (fun pins H s e s' i c => pa pins σ H s e s' i c) I2 .nil rw2 rfl hl q
end
/-- {**e1, **e2} -/
def tDisp2 (t1 t2 : TE) : TE := fun σ H Q => ∀ d, H d = none → t1 σ (upd H d (.dK [])) fun x H1 => ∃ (a : Addr) (kvs : List (Key × V)), x = .ref a ∧ H1 d = some (.dK []) ∧ d ≠ a ∧ Rd H1 a (.dK kvs) ∧ kvs.length ≤ 1000 ∧
  t2 σ (upd H1 d (.dK (mergeK [] kvs))) fun y H2 => ∃ (b : Addr) (kws : List (Key × V)), y = .ref b ∧ H2 d = some (.dK (mergeK [] kvs)) ∧ d ≠ b ∧ Rd H2 b (.dK kws) ∧ kws.length ≤ 1000 ∧ Q (.ref d) (upd H2 d (.dK (mergeK (mergeK [] kvs) kws)))
section
variable {X : Cx} {e1 e2 : Expr} {t1 t2 : TE} {pos : Pos}
theorem pe_disp2 (h1 : PE X e1 t1) (h2 : PE X e2 t2) : PE X (.Dict [none, none] [e1, e2] pos) (tDisp2 t1 t2) := by
  refine ⟨fun pins s σ H Q I h => ?_⟩
  rw [arm_eval_Dict]
  refine wpAny_bind (wpAny_standAt ?_)
  show wpAny _ _ (dictDisplay [(none, do let x ← eval e1 X.env; standAt pos; pure x), (none, do let x ← eval e2 X.env; standAt pos; pure x)]) _ _ _
  unfold dictDisplay
  dsimp only
  rw [List.forIn_cons]
  refine wpAny_bind (wpAny_bind ?_)
  dsimp only [List.isEmpty_nil]
  rw [if_pos rfl]
  refine wpAny_bind (wpAny_pure ?_)
  refine wpAny_bind (wpAny_alloc ?_)
  have hn : H s.heap.objs.size = none := I.hok.fresh (Nat.le_refl _)
  have I0 : Inv X pins σ (upd H s.heap.objs.size (.dK [])) { s with heap := s.heap.push ({ cls := .type "dict", data := .dict #[] } : Obj) } := I.laid (t' := s.toks) (fun _ _ e => Heap.get?_push_of_some _ e) (Nat.le_refl _) (dk_empty _ (env0_big I.env0))
  refine wpAny_bind (wpAny_holding (wpAny_bind (thn (h1.run pins _ σ _ _ I0 (h _ hn)) fun v s1 ⟨x, H1, I1, rx, a, kvs, ex, hd, hne, hr, hz, q⟩ => wpAny_bind (wpAny_standAt (wpAny_pure ?_)))))
  subst ex
  obtain rfl : v = Value.ref a := rx
  refine wpAny_bind (wpAny_onRaise (wpAny_tryCatch (wpAny_onRaise (wpAny_holding (run_merge I1 hd hr hne (fun z => nomatch z) (by rw [List.length_nil]; exact Nat.le_trans (by omega : 0 + kvs.length ≤ 1000) (by decide)) fun s2 I2 => ?_)))))
  refine wpAny_pure ?_
  dsimp only
  rw [List.forIn_cons]
  refine wpAny_bind ?_
  dsimp only [List.isEmpty_nil]
  rw [if_pos rfl]
  refine wpAny_bind (wpAny_pure ?_)
  refine wpAny_bind (wpAny_pure ?_)
  refine wpAny_bind (wpAny_holding (wpAny_bind (thn (h2.run pins _ σ _ _ I2 q) fun v2 s3 ⟨y, H2, I3, ry, b, kws, ey, hd2, hne2, hr2, hz2, q2⟩ => wpAny_bind (wpAny_standAt (wpAny_pure ?_)))))
  subst ey
  obtain rfl : v2 = Value.ref b := ry
  have hz3 : (mergeK [] kvs).length ≤ 1000 := Nat.le_trans (length_mergeK kvs []) (by rw [List.length_nil]; omega)
  refine wpAny_bind (wpAny_onRaise (wpAny_tryCatch (wpAny_onRaise (wpAny_holding (run_merge I3 hd2 hr2 hne2 (fun z => nomatch z) (Nat.le_trans (by omega : (mergeK [] kvs).length + kws.length ≤ 2000) (by decide)) fun s4 I4 => ?_)))))
  refine wpAny_pure ?_
  dsimp only
  rw [List.forIn_nil]
  refine wpAny_pure ?_
  dsimp only [List.isEmpty_nil]
  rw [if_pos rfl]
  refine wpAny_bind (wpAny_pure ?_)
  exact wpAny_pure ⟨V.ref s.heap.objs.size, _, I4, rfl, q2⟩
end
end DL

set_option maxHeartbeats 2000000
/-! Data level: o.m(k = v, ..) of a def with **kw; {**d, **e}; C(**d). -/
namespace DL
open PySem PySem.Spec PyProof.Rows L2 StX PySem.W
variable [Tb]
/-- o.m(k = v, ..), m a def with **kw -/
def tMethKw (C : Addr) (m : Str) (ks : List Str) (sp : Sp) (E : XK) (ta : TE) (tk : TA) : TE := fun σ H Q => ta σ H fun x H1 => ∃ a dx fs, x = .ref a ∧ H1 a = some (.ins C dx fs) ∧ fs.lookup m = none ∧
  tk σ H1 fun zs H3 => zs.length = ks.length ∧ ∀ p, H3 p = none → sp [x, .ref p] (upd H3 p (.dK ((ks.map Sum.inr).zip zs))) Q E
section
variable {X : Cx} {CX : CXT} {k n : Nat} {C f : Addr} {ks : List Str} {sp : Sp} {E : XK} {m : Str} {apos pos : Pos} {o e : Expr} {es : List Expr} {kws : List Keyword} {ta : TE} {t tk : TA}
theorem run_fnKw {pins : List (Addr × Obj)} {σ : L2.St} {H : Hp} {s : Shared} {Q : VK} {us ws : List Value} {vs zs : List V} (F : FnKw X.prog X.w X.K X.mg X.base CX k f n ks sp) (hr : Room k X.A) (hx : Passes CX X E)
    (I : Inv X pins σ H s) (r : Vals vs us) (rz : Vals zs ws) (l1 : vs.length = n) (l2 : zs.length = ks.length) (h : ∀ p, H p = none → sp (vs ++ [V.ref p]) (upd H p (.dK ((ks.map Sum.inr).zip zs))) Q E) : wpAny (model X.prog X.w) X.A (call (.ref f) us (ks.zip ws)) (EP X pins σ Q) X.xe s := by
  refine wpAny_call (codeAny_mono (F X.A X.stack s H us ws vs zs Q E hr I.env0 r rz l1 l2 h) fun r s' hq => ?_)
  cases r with
  | error e => exact hx pins σ H s e s' I hq
  | ok fl =>
    cases fl with
    | ret u => exact I.after hq
    | next => exact False.elim hq
    | brk => exact False.elim hq
    | cont => exact False.elim hq
theorem pe_methKw {pl : Sem Bool} (he : PE X o ta) (c : Cls X.K C) (hm : Meth X.K C m f) (F : FnKw X.prog X.w X.K X.mg X.base CX k f 1 ks sp) (hr : Room k X.A) (hx : Passes CX X E) (hkw : PK X kws tk)
    (hall : (backToKw pos (keywordEach kws X.env)).all (·.1.isSome) = true := by rfl) (hks : (backToKw pos (keywordEach kws X.env)).filterMap (·.1) = ks := by rfl)
    (hpl : ((backTo pos (starEach [] X.env)).any (·.1) || (backToKw pos (keywordEach kws X.env)).any (·.1.isNone)) = false := by rfl)
    (ht : eval (.Call (.Attribute o m apos) [] kws pos) X.env = (do
      let ov ← eval o X.env
      standAt apos.atName
      let (f, first) ← holding [ov] (getMethod ov m pl)
      callWith pos f first (backTo pos (starEach [] X.env)) (backToKw pos (keywordEach kws X.env))) := by rfl) :
    PE X (.Call (.Attribute o m apos) [] kws pos) (tMethKw C m ks sp E ta tk) := by
  constructor
  intro pins s σ H Q I h
  refine PySem.W.methodCall_KW (pl := pl) (thn (he.run pins s σ H _ I h) fun u s1 ⟨x, H1, I1, rx, a, dx, fs, ex, ea, l, q⟩ => ?_) ht
  subst ex
  have rx : u = Value.ref a := rx
  subst rx
  refine getmeth_ok I1 ea c hm l ?_
  refine PySem.W.callWith_KW0 (first := [.ref a]) (h₀ := X.base) I.ok.mod.kin hm.kp hall ?_ hpl
  refine thn (hkw.run pos pins s1 σ H1 _ I1 q) fun ws s3 ⟨zs, H3, I3, rz, l2, q3⟩ => ⟨I3.kIn, ?_⟩
  rw [hks]
  exact run_fnKw (us := [.ref a]) (vs := [.ref a]) F hr hx I3 (.cons rfl .nil) rz rfl l2 q3
end
theorem dxk_zip {K : PySem.W.Frag} {H : Hp} : ∀ {ks : List Key} {zs : List V} {fs : List Dt}, DXs K H zs fs → zs.length = ks.length → DXk K H (ks.zip zs) (ks.zip fs)
  | [], [], _, h, _ => .nil
  | k :: ks, z :: zs, fs, h, hl => by
    cases h with
    | cons h1 h2 => exact .cons h1 (dxk_zip h2 (by simpa using hl))
theorem dxk_unzip {K : PySem.W.Frag} {H : Hp} : ∀ {ks : List Key} {us : List (Key × V)} {fs : List Dt}, DXk K H us (ks.zip fs) → fs.length = ks.length → ∃ zs, us = ks.zip zs ∧ DXs K H zs fs ∧ zs.length = ks.length
  | [], us, [], h, _ => by cases h; exact ⟨[], rfl, .nil, rfl⟩
  | k :: ks, us, f :: fs, h, hl => by
    rw [List.zip_cons_cons] at h
    cases h with
    | @cons _ v _ _ _ h1 h2 =>
      obtain ⟨zs, e, x, l⟩ := dxk_unzip h2 (by simpa using hl)
      exact ⟨v :: zs, by rw [e]; rfl, .cons h1 x, by rw [List.length_cons, l]; rfl⟩
def mergeD (kvs more : List (Key × Dt)) : List (Key × Dt) := more.foldl (fun acc kv => putD acc kv.1 kv.2) kvs
theorem DXk.merge {K : PySem.W.Frag} {H : Hp} : ∀ {more : List (Key × V)} {ms : List (Key × Dt)} {kvs : List (Key × V)} {ds : List (Key × Dt)}, DXk K H more ms → DXk K H kvs ds → DXk K H (mergeK kvs more) (mergeD ds ms)
  | [], ms, kvs, ds, h, k => by cases h; exact k
  | p :: r, ms, kvs, ds, h, k => by
    cases h with
    | @cons a v _ d ms h1 h2 =>
      have z := DXk.merge (more := r) (ms := ms) (kvs := putK kvs a v) (ds := putD ds a d) h2 (k.put h1)
      exact z
/-- a reading that leaves the heap as it is -/
def Wst (K : PySem.W.Frag) (te : TE) (ρ : List Sl) (Φ : Dt → Prop) : Prop :=
  ∀ (M : Md) (σ : L2.St) (H : Hp), Sd K M H σ ρ → ∃ v d, DX K (cut M H) v d ∧ Φ d ∧ ∀ H', Same H H' → ∀ Q : VK, Q v H' → te σ H' Q
section
variable {K : PySem.W.Frag} {pf : Bool} {ρ : List Sl} {ta te t1 t2 : TE} {tk : TA} {Φ : Dt → List Sl → Prop} {Ψ : Dt → Prop} {C : Addr} {m : Str} {E : XK} {ks : List Str}
theorem wst_var {i : Nat} {d : Dt} (e : ρ[i]? = some (.dat d)) (f : Ψ d) : Wst K (tVar i) ρ Ψ := fun M σ H S => by
  obtain ⟨o, h1, v, h2, h3⟩ := S.ok i _ e
  subst h2
  exact ⟨v, d, h3, f, fun H' _ Q q => ⟨v, h1, q⟩⟩
theorem wst_fld {f : Str} (c : Cls K C) (nF : NoAttr K C f) (h : Wst K ta ρ fun d => ∃ a ns ds e, d = .ins C a ns ds ∧ look ns ds f = some e ∧ Ψ e) : Wst K (tFld K ta f) ρ Ψ := fun M σ H S => by
  obtain ⟨v, d, x, ⟨a, ns, ds, e, rfl, l, z⟩, k⟩ := h M σ H S
  cases x with
  | @ins _ _ dx _ vs _ hs hl ha =>
    obtain ⟨u, h1, h2⟩ := ha.look l
    exact ⟨u, e, h2, z, fun H' sm Q q => k H' sm _ ⟨a, C, dx, _, u, rfl, sm _ _ (cut_of hs).2, c, nF, h1, q⟩⟩
theorem w_methKw {W : List Dt → (Dt → Prop) → Prop} (h : Wp K pf ta ρ fun d ρ1 => ∃ a ns es, d = .ins C a ns es ∧ m ∉ ns ∧ Wa K pf tk ρ1 fun fs ρ2 => fs.length = ks.length ∧ ∀ p, W [.ins C a ns es, .dct p ((ks.map Sum.inr).zip fs)] fun e => Φ e ρ2) : Wp K pf (tMethKw C m ks (spP K W) E ta tk) ρ Φ := fun M σ H S Q q =>
  h M σ H S _ fun v H1 d ρ1 s1 S1 x1 ⟨a, ns, es, ed, hm, k⟩ => by
    subst ed
    obtain ⟨rfl, dx, us, hi, hl⟩ := ins_keep (H2 := H1) x1
    refine ⟨a, dx, _, rfl, hi, zip_look_none hm, k M σ H1 S1 _ fun zs H3 fs ρ2 s3 S3 x3 ⟨l2, w⟩ => ?_⟩
    have h2 : zs.length = ks.length := x3.len.trans l2
    refine ⟨h2, fun p hp => ?_⟩
    have ec : ∀ H', cut M.callP H' = cut M H' := cut_congr M.callP_has
    have sm : Same H3 (upd H3 p (.dK ((ks.map Sum.inr).zip zs))) := same_new hp
    have S4 := S3.same sm
    refine ⟨M.callP, _, _, rfl, rfl, S4.mok.callP, ?_, w p, fun v H4 e s x f => q v H4 e ρ2 ((s1.trans s3).trans (Tr.same pf M (sm.trans s))) (S4.same s) (by rw [ec] at x; exact x) f⟩
    rw [ec]
    refine .cons (((x1.mono s3.dx)).mono (cut_same M sm)) (.cons (.dct (.inl (cut_at (S3.mok.new hp) upd_same)) ?_) .nil)
    exact dxk_zip (x3.mono (cut_same M sm)) (by rw [List.length_map]; exact h2)
theorem w_disp2 (h : Wst K t1 ρ fun d1 => ∃ a kvs, d1 = .dct a kvs ∧ kvs.length ≤ 1000 ∧ Wst K t2 ρ fun d2 => ∃ b kws, d2 = .dct b kws ∧ kws.length ≤ 1000 ∧ ∀ p, Φ (.dct p (mergeD (mergeD [] kvs) kws)) ρ) : Wp K pf (tDisp2 t1 t2) ρ Φ := fun M σ H S Q q d hd => by
  obtain ⟨v1, d1, x1, ⟨a, kvs, rfl, l1, h2⟩, k1⟩ := h M σ H S
  obtain ⟨v2, d2, x2, ⟨b, kws, rfl, l2, z⟩, k2⟩ := h2 M σ H S
  cases x1 with
  | @dct _ us _ r1 y1 =>
    cases x2 with
    | @dct _ ws _ r2 y2 =>
      obtain ⟨na, r1'⟩ := cut_Rd r1
      obtain ⟨nb, r2'⟩ := cut_Rd r2
      have ne1 : d ≠ a := fun e => by
        subst e
        rcases r1' with z | ⟨o, z⟩ <;> rw [hd] at z <;> cases z
      have ne2 : d ≠ b := fun e => by
        subst e
        rcases r2' with z | ⟨o, z⟩ <;> rw [hd] at z <;> cases z
      have sm : ∀ o, Same H (upd H d o) := fun o => same_new hd
      have up : ∀ o o', upd (upd H d o) d o' = upd H d o' := fun o o' => by
        funext y
        by_cases e : y = d
        · rw [e, upd_same, upd_same]
        · rw [upd_ne e, upd_ne e, upd_ne e]
      refine k1 _ (sm _) _ ⟨a, us, rfl, upd_same, ne1, same_Rd (sm _) r1', by rw [y1.len]; exact l1, ?_⟩
      rw [up]
      refine k2 _ (sm _) _ ⟨b, ws, rfl, upd_same, ne2, same_Rd (sm _) r2', by rw [y2.len]; exact l2, ?_⟩
      rw [up]
      refine q _ _ (.dct d (mergeD (mergeD [] kvs) kws)) ρ (Tr.same pf M (sm _)) (S.same (sm _)) (.dct (.inl (cut_at (S.mok.new hd) upd_same)) ?_) (z d)
      exact DXk.merge (y2.mono (cut_same M (sm _))) (DXk.merge (y1.mono (cut_same M (sm _))) .nil)
theorem w_makeDD {W : List Dt → (List Str → List Dt → Prop) → (Addr → List Str → List Dt → Prop) → Prop} {gV : List V → List V → List V} (hg : ∀ (x : Addr) (zs : List V), zs.length = ks.length → gV [.ref x] zs = .ref x :: zs)
    (h : Wst K te ρ fun d => ∃ a fs, d = .dct a ((ks.map Sum.inr).zip fs) ∧ fs.length = ks.length ∧ W fs (fun ns gs => ∀ b, Φ (.ins C b ns gs) ρ) fun _ _ _ => False) : Wp K false (tMakeDD K C ks (spMkX K C W) gV E te) ρ Φ := fun M σ H S Q q d hd => by
  obtain ⟨v, d0, x0, ⟨a, fs, rfl, hl, w⟩, k⟩ := h M σ H S
  cases x0 with
  | @dct _ us _ r1 y1 =>
    obtain ⟨na, r1'⟩ := cut_Rd r1
    have ne1 : d ≠ a := fun e => by
      subst e
      rcases r1' with z | ⟨o, z⟩ <;> rw [hd] at z <;> cases z
    have sm : ∀ o, Same H (upd H d o) := fun o => same_new hd
    have up : ∀ o o', upd (upd H d o) d o' = upd H d o' := fun o o' => by
      funext y
      by_cases e : y = d
      · rw [e, upd_same, upd_same]
      · rw [upd_ne e, upd_ne e, upd_ne e]
    obtain ⟨zs, eu, xz, lz⟩ := dxk_unzip y1 (by rw [List.length_map]; exact hl)
    subst eu
    have lz : zs.length = ks.length := by rw [lz, List.length_map]
    refine k _ (sm _) _ ⟨a, zs, rfl, upd_same, ne1, lz, same_Rd (sm _) r1', fun x dx hx hdx ne => ?_⟩
    rw [up] at hx hdx ⊢
    rw [hg x zs lz]
    exact make_okX (xk := fun _ _ _ => False) (S.same (sm _)) hx hdx ne (xz.mono (cut_same M (sm _))) (fun _ _ _ z => z.elim) w (fun v H3 d ρ' s S3 xd f => q v H3 d ρ' (Tr.same false M ((sm _).trans s)) S3 xd f) fun _ _ _ _ _ _ _ _ _ _ _ z => z
end
end DL

set_option maxHeartbeats 2000000
/-! Data level: own instances, whose fields change. -/
namespace DL
open PySem PySem.Spec PyProof.Rows L2
variable [Tb]
section
variable {K : PySem.W.Frag} {pf : Bool} {ρ : List Sl} {te ti : TE} {tt : TT} {tr : TA} {t u : TS} {D : DE} {i : Nat} {C1 dx1 a1 : Addr} {ns : List Str}
theorem Sd.ownO {M : Md} {H : Hp} {σ : L2.St} {q : Addr} {vs : List V} {ds : List Dt} (S : Sd K M H σ ρ) (hi : i < ρ.length) (hq : ¬ M.has q) (hH : H q = some (.ins C1 dx1 (ns.zip vs))) (hL : ns.length = vs.length)
    (x : DXs K (cut { M with F := q :: M.F } H) vs ds) (hS : Sd K { M with F := q :: M.F } H σ ρ) : Sd K { M with O := M.O.set i (some q) } H (σ.set i (some (.ref q))) (ρ.set i (.obj C1 q ns ds)) := by
  have hO : ∀ a, some a ∈ M.O.set i (some q) → a = q ∨ some a ∈ M.O := fun a h => by
    rcases List.mem_or_eq_of_mem_set h with z | z
    · exact .inr z
    · exact .inl (Option.some.inj z)
  have has : ∀ a, ({ M with O := M.O.set i (some q) } : Md).has a → ({ M with F := q :: M.F } : Md).has a := fun a h => by
    rcases h with h | h | h
    · exact .inl h
    · exact .inr (.inl (List.mem_cons_of_mem _ h))
    · rcases hO a h with z | z
      · exact .inr (.inl (by rw [z]; exact List.mem_cons_self))
      · exact .inr (.inr z)
  have sc : Same (cut { M with F := q :: M.F } H) (cut { M with O := M.O.set i (some q) } H) := cut_le has
  have hset : ∀ (j : Nat) (a : Addr), (M.O.set i (some q))[j]? = some (some a) → (i = j ∧ a = q) ∨ (i ≠ j ∧ M.O[j]? = some (some a)) := fun j a h => by
    by_cases e : i = j
    · subst e
      rw [List.getElem?_set_self (by rw [S.olen]; exact hi)] at h
      exact .inl ⟨rfl, (Option.some.inj (Option.some.inj h)).symm⟩
    · rw [List.getElem?_set_ne e] at h
      exact .inr ⟨e, h⟩
  refine ⟨by rw [List.length_set, List.length_set]; exact S.len, by show (M.O.set i (some q)).length = _; rw [List.length_set, List.length_set]; exact S.olen, ⟨fun a h => hS.mok.live a (has a h), fun a h => ⟨(S.mok.pF a h).1, fun z => ?_⟩, fun a h z => ?_, fun j k a h1 h2 => ?_, hS.mok.tbU rfl (fun _ _ _ z => z) sc⟩, fun j s h => ?_⟩
  · rcases hO a z with z | z
    · exact hq (.inl (by rw [← z]; exact h))
    · exact (S.mok.pF a h).2 z
  · rcases hO a z with z | z
    · exact hq (.inr (.inl (by rw [← z]; exact h)))
    · exact S.mok.FO a h z
  · rcases hset j a h1 with ⟨e1, z1⟩ | ⟨e1, z1⟩
    · rcases hset k a h2 with ⟨e2, z2⟩ | ⟨e2, z2⟩
      · rw [← e1, ← e2]
      · exact (hq (.inr (.inr (by rw [← z1]; exact List.mem_of_getElem? z2)))).elim
    · rcases hset k a h2 with ⟨e2, z2⟩ | ⟨e2, z2⟩
      · exact (hq (.inr (.inr (by rw [← z2]; exact List.mem_of_getElem? z1)))).elim
      · exact S.mok.nd j k a z1 z2
  · by_cases e : i = j
    · subst e
      rw [List.getElem?_set_self hi] at h
      have h := Option.some.inj h
      subst h
      exact ⟨_, List.getElem?_set_self (by rw [S.len]; exact hi), q, dx1, vs, rfl, List.getElem?_set_self (by rw [S.olen]; exact hi), hH, ⟨hL, rfl⟩, x.mono sc⟩
    · rw [List.getElem?_set_ne e] at h
      obtain ⟨o, h1, h2⟩ := hS.ok j s h
      refine ⟨o, by rw [List.getElem?_set_ne e]; exact h1, ?_⟩
      cases s with
      | any => trivial
      | dat d => obtain ⟨v, a1, a2⟩ := h2; exact ⟨v, a1, a2.mono sc⟩
      | val u d => obtain ⟨a1, a2⟩ := h2; exact ⟨a1, a2.mono sc⟩
      | own es =>
        obtain ⟨l, ws, a1, a2, a3, a4⟩ := h2
        exact ⟨l, ws, a1, by show (M.O.set i (some q))[j]? = _; rw [List.getElem?_set_ne e]; exact a2, a3, a4.mono sc⟩
      | obj C0 b0 ns0 es =>
        obtain ⟨l, dx0, ws, a1, a2, a3, a5, a4⟩ := h2
        exact ⟨l, dx0, ws, a1, by show (M.O.set i (some q))[j]? = _; rw [List.getElem?_set_ne e]; exact a2, a3, a5, a4.mono sc⟩
      | ownd es =>
        obtain ⟨l, ws, a1, a2, a3, a4⟩ := h2
        exact ⟨l, ws, a1, by show (M.O.set i (some q))[j]? = _; rw [List.getElem?_set_ne e]; exact a2, a3, a4.mono sc⟩
      | pen m =>
        obtain ⟨p', a1, a2, l, ns, c, g, b1, b2, b3⟩ := h2
        exact ⟨p', a1, a2, l, ns, c, g, b1, sc.seq b2, b3⟩
      | pown es => obtain ⟨p', ws, a1, a2, a3, a4⟩ := h2; exact ⟨p', ws, a1, a2, a3, a4.mono sc⟩
theorem Sd.writeO {M : Md} {H : Hp} {σ : L2.St} {l : Addr} {vs ws : List V} {ds es : List Dt} (S : Sd K M H σ ρ) (hs : ρ[i]? = some (.obj C1 a1 ns ds)) (hl : M.O[i]? = some (some l)) (hL : ns.length = ws.length) (x : DXs K (cut M H) ws es) :
    Sd K M (upd H l (.ins C1 dx1 (ns.zip ws))) σ (ρ.set i (.obj C1 a1 ns es)) ∧ Stp M H M (upd H l (.ins C1 dx1 (ns.zip ws))) := by
  have hm : some l ∈ M.O := List.mem_of_getElem? hl
  have sc : Same (cut M H) (cut M (upd H l (.ins C1 dx1 (ns.zip ws)))) := fun a u z => by
    obtain ⟨c, y⟩ := cut_of z
    exact cut_at c (by rw [upd_ne fun n => c (.inr (.inr (by rw [n]; exact hm)))]; exact y)
  obtain ⟨o0, h0, l0, dx0, vs0, e0, e1, e2, e5, e3⟩ := S.ok i _ hs
  have el : l0 = l := Option.some.inj (Option.some.inj (e1.symm.trans hl))
  subst el
  refine ⟨⟨by rw [List.length_set]; exact S.len, by rw [List.length_set]; exact S.olen, ⟨fun a h => ?_, S.mok.pF, S.mok.FO, S.mok.nd, S.mok.tbU rfl (fun a ha _ z => by rw [upd_ne fun n => (S.mok.pF a ha).2 (by rw [n]; exact hm)]; exact z) sc⟩, fun j s h => ?_⟩, ⟨rfl, rfl, fun a o z c d => ⟨?_, d⟩⟩⟩
  · by_cases n : a = l0
    · exact ⟨_, by rw [n]; exact upd_same⟩
    · obtain ⟨u, z⟩ := S.mok.live a h
      exact ⟨u, by rw [upd_ne n]; exact z⟩
  · by_cases e : i = j
    · subst e
      rw [List.getElem?_set_self (by rw [← S.len]; exact S.slot hs)] at h
      have h := Option.some.inj h
      subst h
      exact ⟨o0, h0, l0, dx1, ws, e0, e1, upd_same, ⟨hL, e5.2⟩, x.mono sc⟩
    · rw [List.getElem?_set_ne e] at h
      obtain ⟨o, h1, h2⟩ := S.ok j s h
      refine ⟨o, h1, ?_⟩
      cases s with
      | any => trivial
      | dat d => obtain ⟨v, a1, a2⟩ := h2; exact ⟨v, a1, a2.mono sc⟩
      | val u d => obtain ⟨a1, a2⟩ := h2; exact ⟨a1, a2.mono sc⟩
      | own es =>
        obtain ⟨l', ws', a1, a2, a3, a4⟩ := h2
        exact ⟨l', ws', a1, a2, by rw [upd_ne fun n => e (S.mok.nd i j l0 e1 (by rw [← n]; exact a2))]; exact a3, a4.mono sc⟩
      | obj C0 b0 ns0 es =>
        obtain ⟨l', dx0, ws', a1, a2, a3, a5, a4⟩ := h2
        exact ⟨l', dx0, ws', a1, a2, by rw [upd_ne fun n => e (S.mok.nd i j l0 e1 (by rw [← n]; exact a2))]; exact a3, a5, a4.mono sc⟩
      | ownd es =>
        obtain ⟨l', ws', a1, a2, a3, a4⟩ := h2
        exact ⟨l', ws', a1, a2, by rw [upd_ne fun n => e (S.mok.nd i j l0 e1 (by rw [← n]; exact a2))]; exact a3, a4.mono sc⟩
      | pen m =>
        obtain ⟨p', a1, a2, l', ns, c, g, b1, b2, b3⟩ := h2
        exact ⟨p', a1, a2, l', ns, c, g, by rw [upd_ne fun n => (S.mok.pp a2).2 (by rw [n]; exact hm)]; exact b1, sc.seq b2, b3⟩
      | pown es => obtain ⟨p', ws', a1, a2, a3, a4⟩ := h2; exact ⟨p', ws', a1, a2, by rw [upd_ne fun n => (S.mok.pp a2).2 (by rw [n]; exact hm)]; exact a3, a4.mono sc⟩
  · rw [upd_ne fun n => d (by rw [n]; exact hm)]; exact z
theorem Sd.freezeO {ds : List Dt} {M : Md} {H : Hp} {σ : L2.St} (S : Sd K M H σ ρ) (hs : ρ[i]? = some (.obj C1 a1 ns ds)) :
    ∃ a, a = a1 ∧ Sd K { M with O := M.O.set i none } H σ (ρ.set i (.dat (.ins C1 a ns ds))) ∧ Stp M H { M with O := M.O.set i none } H := by
  have hO : ∀ a, some a ∈ M.O.set i none → some a ∈ M.O := fun a h => by
    rcases List.mem_or_eq_of_mem_set h with z | z
    · exact z
    · first | exact (Md.inP0 rfl _ z).elim | cases z
  have has : ∀ a, ({ M with O := M.O.set i none } : Md).has a → M.has a := fun a h => by
    rcases h with h | h | h
    · exact .inl h
    · exact .inr (.inl h)
    · exact .inr (.inr (hO a h))
  have sc : Same (cut M H) (cut { M with O := M.O.set i none } H) := cut_le has
  obtain ⟨o0, h0, l, dx0, vs, e0, e1, e2, e5, e3⟩ := S.ok i _ hs
  have hset : ∀ (j : Nat) (a : Addr), (M.O.set i none)[j]? = some (some a) → i ≠ j ∧ M.O[j]? = some (some a) := fun j a h => by
    by_cases e : i = j
    · subst e
      rw [List.getElem?_set_self (List.getElem?_eq_some_iff.mp e1).1] at h
      cases Option.some.inj h
    · rw [List.getElem?_set_ne e] at h
      exact ⟨e, h⟩
  have nl : ¬ ({ M with O := M.O.set i none } : Md).has l := fun z => by
    have hm := List.mem_of_getElem? e1
    rcases z with z | z | z
    · exact (S.mok.pF l z).2 hm
    · exact S.mok.FO l z hm
    · obtain ⟨j, hj⟩ := List.getElem?_of_mem z
      obtain ⟨n, h2⟩ := hset j l hj
      exact n (S.mok.nd i j l e1 h2)
  refine ⟨l, e5.2, ⟨by rw [List.length_set]; exact S.len, by show (M.O.set i none).length = _; rw [List.length_set, List.length_set]; exact S.olen, ⟨fun a h => S.mok.live a (has a h), fun a h => ⟨(S.mok.pF a h).1, fun z => (S.mok.pF a h).2 (hO a z)⟩, fun a h z => S.mok.FO a h (hO a z), fun j k a h1 h2 => S.mok.nd j k a (hset j a h1).2 (hset k a h2).2, S.mok.tbU rfl (fun _ _ _ z => z) sc⟩, fun j s h => ?_⟩, ⟨rfl, rfl, fun a o z c d => ⟨z, fun y => d (hO a y)⟩⟩⟩
  by_cases e : i = j
  · subst e
    rw [List.getElem?_set_self (by rw [← S.len]; exact S.slot hs)] at h
    have h := Option.some.inj h
    subst h
    exact ⟨o0, h0, .ref l, e0, .ins (cut_at nl e2) e5.1 (e3.mono sc)⟩
  · rw [List.getElem?_set_ne e] at h
    obtain ⟨o, h1, h2⟩ := S.ok j s h
    refine ⟨o, h1, ?_⟩
    cases s with
    | any => trivial
    | dat d => obtain ⟨v, a1, a2⟩ := h2; exact ⟨v, a1, a2.mono sc⟩
    | val u d => obtain ⟨a1, a2⟩ := h2; exact ⟨a1, a2.mono sc⟩
    | own es =>
      obtain ⟨l', ws', a1, a2, a3, a4⟩ := h2
      exact ⟨l', ws', a1, by show (M.O.set i none)[j]? = _; rw [List.getElem?_set_ne e]; exact a2, a3, a4.mono sc⟩
    | obj C0 b0 ns0 es =>
      obtain ⟨l', dx0, ws', a1, a2, a3, a5, a4⟩ := h2
      exact ⟨l', dx0, ws', a1, by show (M.O.set i none)[j]? = _; rw [List.getElem?_set_ne e]; exact a2, a3, a5, a4.mono sc⟩
    | ownd es =>
      obtain ⟨l', ws', a1, a2, a3, a4⟩ := h2
      exact ⟨l', ws', a1, by show (M.O.set i none)[j]? = _; rw [List.getElem?_set_ne e]; exact a2, a3, a4.mono sc⟩
    | pen m =>
      obtain ⟨p', a1, a2, l', ns, c, g, b1, b2, b3⟩ := h2
      exact ⟨p', a1, a2, l', ns, c, g, b1, sc.seq b2, b3⟩
    | pown es => obtain ⟨p', ws', a1, a2, a3, a4⟩ := h2; exact ⟨p', ws', a1, a2, a3, a4.mono sc⟩
/-- .. seen as data where nothing is changed and nothing of it is kept -/
theorem wp_thawO {Φ : Dt → List Sl → Prop} {ds : List Dt} (hs : ρ[i]? = some (.obj C1 a1 ns ds)) (h : Wp K true te (ρ.set i (.dat (.ins C1 a1 ns ds))) fun d _ => flatD d = true ∧ Φ d ρ) : Wp K pf te ρ Φ := fun M σ H S Q q =>
  let ⟨a, ea, S2, _⟩ := S.freezeO hs
  h _ σ H (ea ▸ S2) Q fun v H2 d ρ' s S3 x ⟨f, z⟩ => q v H2 d ρ (Tr.same pf M (s.sm rfl)) (S.same (s.sm rfl)) (flat_any f x) z
theorem wt_thawO {Φ : Bool → List Sl → Prop} {ds : List Dt} (hs : ρ[i]? = some (.obj C1 a1 ns ds)) (h : Wt K true tt (ρ.set i (.dat (.ins C1 a1 ns ds))) fun b _ => Φ b ρ) : Wt K pf tt ρ Φ := fun M σ H S Q q =>
  let ⟨a, ea, S2, _⟩ := S.freezeO hs
  h _ σ H (ea ▸ S2) Q fun b H2 ρ' s S3 z => q b H2 ρ (Tr.same pf M (s.sm rfl)) (S.same (s.sm rfl)) z
/-- x.f of an own instance -/
theorem w_fldO {f : Str} {Φ : Dt → List Sl → Prop} {ds : List Dt} {d : Dt} (c : Cls K C1) (nF : NoAttr K C1 f) (hs : ρ[i]? = some (.obj C1 a1 ns ds)) (l : look ns ds f = some d) (z : Φ d ρ) : Wp K pf (tFld K (tVar i) f) ρ Φ := fun M σ H S Q q => by
  obtain ⟨o, h1, a, dx, vs, rfl, h2, h3, ⟨h4, _⟩, h5⟩ := S.ok i _ hs
  obtain ⟨u, g1, g2⟩ := h5.look l
  exact ⟨.ref a, h1, a, C1, dx, _, u, rfl, h3, c, nF, g1, q u H d ρ (Tr.refl pf M H) S g2 z⟩
end
/-! ### a new instance, owned -/
def WpO (K : PySem.W.Frag) (f : Bool) (te : TE) (ρ : List Sl) (C : Addr) (Ψ : Addr → List Str → List Dt → List Sl → Prop) : Prop :=
  ∀ (M : Md) (σ : L2.St) (H : Hp), Sd K M H σ ρ → ∀ Q : VK, (∀ q dx us ns es H2 H3 ρ', Tr f M H H2 → Sd K M H2 σ ρ' → H2 q = none → Same H2 H3 → H3 q = some (.ins C dx (ns.zip us)) → ns.length = us.length → DXs K (cut { M with F := q :: M.F } H3) us es → Ψ q ns es ρ' → Q (.ref q) H3) → te σ H Q
section
variable {K : PySem.W.Frag} {pf : Bool} {ρ : List Sl} {te : TE} {D : DE} {i : Nat} {C : Addr} {tr tk : TA} {W : List Dt → (List Str → List Dt → Prop) → (Addr → List Str → List Dt → Prop) → Prop} {E : XK} {Ψ : Addr → List Str → List Dt → List Sl → Prop}
theorem ws_ownO (h : WpO K pf te ρ C fun q ns es ρ' => i < ρ'.length ∧ D.nx (ρ'.set i (.obj C q ns es))) : Ws K (tAsg te (gName i)) ρ D := fun M σ H S E k =>
  h M σ H S _ fun q dx us ns es H2 H3 ρ' s S2 hq sm hq3 hl x ⟨hi, z⟩ => by
    exact k.nx _ _ _ _ (s.st.trans (Stp.own hq sm)) ((S2.same sm).ownO hi (S2.mok.new hq) hq3 hl x (S2.aside hq sm hq3)) z
/-- the heart of a new instance, where nothing is raised -/
theorem make_okO {M : Md} {σ : L2.St} {H2 : Hp} {Q : VK} {ws : List V} {ds : List Dt} {x dx : Addr} (S : Sd K M H2 σ ρ) (hx : H2 x = none) (hdx : H2 dx = none) (ne : dx ≠ x) (xs : DXs K (cut M H2) ws ds)
    (w : W ds (fun ns es => ∀ q, Ψ q ns es ρ) fun _ _ _ => False) (q : ∀ H3 us ns es, Same H2 H3 → H3 x = some (.ins C dx (ns.zip us)) → ns.length = us.length → DXs K (cut { M with F := x :: M.F } H3) us es → Ψ x ns es ρ → Q (.ref x) H3) :
    spMkX K C W (.ref x :: ws) (upd (upd H2 dx (.own x)) x (.ins C dx [])) (fun v H3 => v = .non ∧ Q (.ref x) H3) E := by
  have s1 : Same H2 (upd (upd H2 dx (.own x)) x (.ins C dx [])) := fun a u z => by
    rw [upd_ne (ne_of_none z hx), upd_ne (ne_of_none z hdx)]; exact z
  have nx := S.mok.new hx
  have hasq : ∀ a, (M.callP.slf x).has a ↔ (M.slf x).has a := fun a => by
    constructor
    · rintro (z | z | z)
      · first | exact (Md.inP0 rfl _ z).elim | cases z
      · rcases List.mem_cons.mp z with z | z
        · rw [z]; exact .inr (.inl List.mem_cons_self)
        · rcases (M.callP_has a).mp (.inr (.inl z)) with y | y | y
          · exact .inl y
          · exact .inr (.inl (List.mem_cons_of_mem _ y))
          · exact .inr (.inr y)
      · first | exact (Md.inP0 rfl _ z).elim | cases z
    · rintro (z | z | z)
      · rcases (M.callP_has a).mpr (.inl z) with y | y | y
        · first | exact (Md.inP0 rfl _ y).elim | cases y
        · exact .inr (.inl (List.mem_cons_of_mem _ y))
        · first | exact (Md.inP0 rfl _ y).elim | cases y
      · rcases List.mem_cons.mp z with z | z
        · rw [z]; exact .inr (.inl List.mem_cons_self)
        · rcases (M.callP_has a).mpr (.inr (.inl z)) with y | y | y
          · first | exact (Md.inP0 rfl _ y).elim | cases y
          · exact .inr (.inl (List.mem_cons_of_mem _ y))
          · first | exact (Md.inP0 rfl _ y).elim | cases y
      · rcases (M.callP_has a).mpr (.inr (.inr z)) with y | y | y
        · first | exact (Md.inP0 rfl _ y).elim | cases y
        · exact .inr (.inl (List.mem_cons_of_mem _ y))
        · first | exact (Md.inP0 rfl _ y).elim | cases y
  have ec : ∀ H', cut (M.callP.slf x) H' = cut (M.slf x) H' := fun H' => cut_congr hasq H'
  have same_cut : Same (cut M H2) (cut (M.slf x) (upd (upd H2 dx (.own x)) x (.ins C dx []))) := fun a u z => by
    obtain ⟨c, y⟩ := cut_of z
    refine cut_at (fun t => ?_) (s1 a u y)
    rcases t with t | t | t
    · exact c (.inl t)
    · rcases List.mem_cons.mp t with t | t
      · rw [t, hx] at y; cases y
      · exact c (.inr (.inl t))
    · exact c (.inr (.inr t))
  refine ⟨M.callP, x, dx, ws, ds, _, _, rfl, rfl, rfl, upd_same, ?_, by rw [ec]; exact xs.mono same_cut, w, fun H3 ns us es kp e1 e2 e3 e4 => ⟨rfl, ?_⟩, fun H3 Cx dd ns us es kp e1 e2 nd e3 z => z.elim⟩
  · refine ⟨fun a z => ?_, fun a z => (Md.inP0 rfl a z).elim, fun a _ z => (nomatch z), fun i j a z => ?_, fun t ht => (nomatch ht)⟩
    · rcases z with z | z | z
      · first | exact (Md.inP0 rfl _ z).elim | cases z
      · rcases List.mem_cons.mp z with z | z
        · rw [z]; exact ⟨_, upd_same⟩
        · obtain ⟨o, e⟩ := S.mok.live a ((M.callP_has a).mp (.inr (.inl z)))
          exact ⟨o, s1 a o e⟩
      · first | exact (Md.inP0 rfl _ z).elim | cases z
    · have z : ([] : List (Option Addr))[i]? = some (some a) := z
      simp at z
  · have s3 : Same H2 H3 := fun a u z => kp a u (s1 a u z) (ne_of_none z hx)
    rw [ec] at e3
    exact q H3 us ns es s3 e1 e2 e3 (e4 x)
theorem wo_make (h : Wa K pf tr ρ fun ds ρ1 => W ds (fun ns es => ∀ q, Ψ q ns es ρ1) fun _ _ _ => False) : WpO K pf (tMake C (spMkX K C W) [] E tr) ρ C Ψ := fun M σ H S Q q =>
  h M σ H S _ fun vs H1 ds ρ1 s1 S1 x1 w => fun x dx hx hdx ne => by
    rw [List.append_nil]
    exact make_okO S1 hx hdx ne x1 w fun H3 us ns es sm e1 e2 e3 f => q x dx us ns es H1 H3 ρ1 s1 S1 hx sm e1 e2 e3 f
theorem wo_makeK {n m : Nat} {gV : List V → List V → List V} {gD : List Dt → List Dt → List Dt} (hg : ∀ (x : Addr) (vs zs : List V) (ds es : List Dt) (H : Hp), vs.length = n → zs.length = m → DXs K H vs ds → DXs K H zs es → ∃ ws, gV (.ref x :: vs) zs = .ref x :: ws ∧ DXs K H ws (gD ds es))
    (h : Wa K pf tr ρ fun ds ρ1 => Wa K pf tk ρ1 fun es ρ2 => ds.length = n ∧ es.length = m ∧ W (gD ds es) (fun ns fs => ∀ q, Ψ q ns fs ρ2) fun _ _ _ => False) : WpO K pf (tMakeK C n m (spMkX K C W) gV E tr tk) ρ C Ψ := fun M σ H S Q q =>
  h M σ H S _ fun vs H1 ds ρ1 s1 S1 x1 k => k M σ H1 S1 _ fun zs H2 es ρ2 s2 S2 x2 ⟨l1, l2, w⟩ => by
    have h1 : vs.length = n := x1.len.trans l1
    have h2 : zs.length = m := x2.len.trans l2
    refine ⟨h1, h2, fun x dx hx hdx ne => ?_⟩
    obtain ⟨ws, e, xw⟩ := hg x vs zs ds es _ h1 h2 (x1.mono s2.dx) x2
    rw [e]
    exact make_okO S2 hx hdx ne xw w fun H3 us ns fs sm e1 e2 e3 f => q x dx us ns fs H2 H3 ρ2 (s1.trans s2) S2 hx sm e1 e2 e3 f
end
end DL

set_option maxHeartbeats 2000000
/-! Data level: defs that change an instance which is handed to them first. -/
namespace DL
open PySem PySem.Spec PyProof.Rows L2
variable [Tb]
/-! ### a field stored -/
def stD : List Str → List Dt → Str → Dt → List Dt
  | n :: ns, x :: xs, f, d => if n = f then d :: xs else x :: stD ns xs f d
  | _, xs, _, _ => xs
def stV : List Str → List V → Str → V → List V
  | n :: ns, x :: xs, f, v => if n = f then v :: xs else x :: stV ns xs f v
  | _, xs, _, _ => xs
theorem putF_zip : ∀ {ns : List Str} {vs : List V} {f : Str} {v : V}, f ∈ ns → ns.length = vs.length → putF f v (ns.zip vs) = ns.zip (stV ns vs f v)
  | [], _, _, _, h, _ => by cases h
  | n :: ns, [], _, _, _, h => by cases h
  | n :: ns, x :: xs, f, v, h, hl => by
    show (if n = f then (n, v) :: ns.zip xs else (n, x) :: putF f v (ns.zip xs)) = (n :: ns).zip (if n = f then v :: xs else x :: stV ns xs f v)
    by_cases e : n = f
    · rw [if_pos e, if_pos e]; rfl
    · rw [if_neg e, if_neg e, putF_zip ((List.mem_cons.mp h).resolve_left fun y => e y.symm) (by simpa using hl)]; rfl
theorem stV_len : ∀ {ns : List Str} {vs : List V} {f : Str} {v : V}, (stV ns vs f v).length = vs.length
  | [], _, _, _ => rfl
  | _ :: _, [], _, _ => rfl
  | n :: ns, x :: xs, f, v => by
    show (if n = f then v :: xs else x :: stV ns xs f v).length = _
    by_cases e : n = f
    · rw [if_pos e]; rfl
    · rw [if_neg e, List.length_cons, stV_len]; rfl
theorem DXs.st {K : PySem.W.Frag} {H : Hp} {f : Str} {v : V} {d : Dt} (y : DX K H v d) : ∀ {ns : List Str} {vs : List V} {ds : List Dt}, DXs K H vs ds → DXs K H (stV ns vs f v) (stD ns ds f d)
  | [], _, _, h => by cases h <;> first | exact .nil | exact .cons ‹_› ‹_›
  | n :: ns, _, _, .nil => .nil
  | n :: ns, _, _, .cons (v := x) (vs := xs) (d := e) (ds := es) h1 h2 => by
    show DXs K H (if n = f then v :: xs else x :: stV ns xs f v) (if n = f then d :: es else e :: stD ns es f d)
    by_cases c : n = f
    · rw [if_pos c, if_pos c]; exact .cons y h2
    · rw [if_neg c, if_neg c]; exact .cons h1 (DXs.st y h2)
section
variable {K : PySem.W.Frag} {pf : Bool} {ρ : List Sl} {te : TE} {D : DE} {i : Nat} {C a : Addr} {ns : List Str}
theorem ws_setO {f : Str} {ds0 : List Dt} (c : Cls K C) (nF : NoAttr K C f) (e0 : ρ[i]? = some (.obj C a ns ds0)) (h : Wp K pf te ρ fun d ρ1 => ∃ ds, ρ1[i]? = some (.obj C a ns ds) ∧ f ∈ ns ∧ ns.length ≤ 100 ∧ D.nx (ρ1.set i (.obj C a ns (stD ns ds f d)))) :
    Ws K (sFld K (tVar i) te f) ρ D := fun M σ H S E k =>
  h M σ H S _ fun v H1 d ρ1 s1 S1 x1 ⟨ds, e1, hf, hn, z⟩ => by
    obtain ⟨o, h1, l, dx, vs, rfl, h2, h3, ⟨h4, rfl⟩, h5⟩ := S1.ok i _ e1
    refine ⟨.ref l, h1, l, C, dx, _, rfl, h3, c, nF, ?_, ?_⟩
    · rw [List.length_zip]; exact Nat.lt_of_le_of_lt (Nat.min_le_left _ _) (by omega)
    · rw [putF_zip hf h4]
      obtain ⟨S3, s3⟩ := S1.writeO (dx1 := dx) (ws := stV ns vs f v) (vs := vs) (es := stD ns ds f d) e1 h2 (by rw [stV_len]; exact h4) (h5.st x1)
      exact k.nx M σ _ _ (s1.st.trans s3) S3 z
end
/-! ### the promise -/
def spO (K : PySem.W.Frag) (C : Addr) (ns : List Str) (W : List Dt → List Dt → (Dt → List Dt → Prop) → Prop) : Sp := fun vs H Q _ => ∃ (M : Md) (l dx : Addr) (ws fs : List V) (ds es : List Dt) (Φ : Dt → List Dt → Prop),
  vs = .ref l :: ws ∧ M.p = none ∧ M.O = [] ∧ MOk M H ∧ ¬ M.has l ∧ H l = some (.ins C dx (ns.zip fs)) ∧ ns.length = fs.length ∧ DXs K (cut (M.slf l) H) fs ds ∧ DXs K (cut (M.slf l) H) ws es ∧ W ds es Φ ∧
    ∀ v H2 d dx2 fs2 ds2, (∀ a o, H a = some o → a ≠ l → H2 a = some o) → H2 l = some (.ins C dx2 (ns.zip fs2)) → ns.length = fs2.length → DXs K (cut (M.slf l) H2) fs2 ds2 → DX K (cut (M.slf l) H2) v d → Φ d ds2 → Q v H2
/-- the callee's mutable things: the instance in its first slot -/
def Md.one (M : Md) (l : Addr) (n : Nat) : Md := ⟨none, M.F, some l :: List.replicate n none⟩
theorem Md.one_has {M : Md} (hp : M.p = none) (hO : M.O = []) (l : Addr) (n : Nat) (a : Addr) : (M.one l n).has a ↔ (M.slf l).has a := by
  constructor
  · rintro (z | z | z)
    · exact (Md.inP0 rfl a z).elim
    · exact .inr (.inl (List.mem_cons_of_mem _ z))
    · rcases List.mem_cons.mp z with z | z
      · exact .inr (.inl (by rw [Option.some.inj z]; exact List.mem_cons_self))
      · exact (no_rep z).elim
  · rintro (z | z | z)
    · exact (Md.inP0 (M := M) hp a z).elim
    · rcases List.mem_cons.mp z with z | z
      · exact .inr (.inr (by rw [z]; exact List.mem_cons_self))
      · exact .inr (.inl z)
    · rw [show (M.slf l).O = M.O from rfl, hO] at z; cases z
theorem slots_ok {K : PySem.W.Frag} {N : List Str} {M : Md} {H : Hp} {vs : List V} {ds : List Dt} (x : DXs K (cut M H) vs ds) (hl : vs.length ≤ N.length) (j : Nat) (s : Sl) (h : (slots ds (N.length - ds.length))[j]? = some s) : ∃ o, (L2.start N vs)[j]? = some o ∧ SlOk K M H j o s := by
  have e := x.len
  unfold slots at h
  by_cases hj : j < ds.length
  · rw [List.getElem?_append_left (by rw [List.length_map]; exact hj), List.getElem?_map] at h
    cases ed : ds[j]? with
    | none => rw [ed] at h; cases h
    | some d =>
      rw [ed] at h
      have h := Option.some.inj h
      subst h
      obtain ⟨v, h1, h2⟩ := x.getd ed
      refine ⟨some v, ?_, v, rfl, h2⟩
      rw [start_at (by rw [e]; exact hj), h1]
      rfl
  · rw [List.getElem?_append_right (by rw [List.length_map]; omega), List.getElem?_replicate] at h
    split at h
    · have h := Option.some.inj h
      subst h
      refine ⟨none, ?_, trivial⟩
      unfold L2.start
      rw [List.getElem?_append_right (by rw [List.length_map]; omega), List.getElem?_replicate, List.length_map]
      rw [if_pos (by rename_i hm; rw [List.length_map] at hm; omega)]
    · cases h
section
variable {K : PySem.W.Frag} {C : Addr} {ns : List Str} {N : List Str} {W : List Dt → List Dt → (Dt → List Dt → Prop) → Prop} {vs : List V} {H : Hp} {Q : VK} {E : XK} {t : TS}
theorem read_O (h : spO K C ns W vs H Q E) (hl : vs.length ≤ N.length)
    (b : ∀ a ds es Φ, es.length + 1 = vs.length → W ds es Φ → Ws K t (.obj C a ns ds :: slots es (N.length - (es.length + 1))) { nx := fun ρ => ∃ ds2, ρ[0]? = some (.obj C a ns ds2) ∧ Φ .non ds2, rt := fun d ρ => ∃ ds2, ρ[0]? = some (.obj C a ns ds2) ∧ Φ d ds2 }) :
    t { nx := fun _ H' => Q .non H', rt := Q } (L2.start N vs) H := by
  obtain ⟨M, l, dx, ws, fs, ds, es, Φ, rfl, hp, hO, m, nl, hH, hn, xf, xw, w, q⟩ := h
  have hlen : ws.length = es.length := xw.len
  have hN : N.length = (es.length + 1) + (N.length - (es.length + 1)) := by rw [List.length_cons, hlen] at hl; omega
  have ec : ∀ H', cut (M.one l (N.length - 1)) H' = cut (M.slf l) H' := fun H' => cut_congr (Md.one_has hp hO l _) H'
  have mo : MOk (M.one l (N.length - 1)) H := by
    refine ⟨fun a z => ?_, fun a z => (Md.inP0 rfl a z).elim, fun a z y => ?_, fun j k a h1 h2 => ?_, fun t ht => (nomatch ht)⟩
    · rcases (Md.one_has hp hO l _ a).mp z with z | z | z
      · exact m.live a (.inl z)
      · rcases List.mem_cons.mp z with z | z
        · rw [z]; exact ⟨_, hH⟩
        · exact m.live a (.inr (.inl z))
      · exact m.live a (.inr (.inr z))
    · rcases List.mem_cons.mp y with y | y
      · rw [Option.some.inj y] at z; exact nl (.inr (.inl z))
      · exact no_rep y
    · cases j with
      | zero =>
        cases k with
        | zero => rfl
        | succ k => exact (no_rep (List.mem_of_getElem? (show (List.replicate (N.length - 1) (none : Option Addr))[k]? = some (some a) from h2))).elim
      | succ j => exact (no_rep (List.mem_of_getElem? (show (List.replicate (N.length - 1) (none : Option Addr))[j]? = some (some a) from h1))).elim
  have S0 : Sd K (M.one l (N.length - 1)) H (L2.start N (.ref l :: ws)) (.obj C l ns ds :: slots es (N.length - (es.length + 1))) := by
    refine ⟨?_, ?_, mo, fun j s h => ?_⟩
    · unfold slots L2.start
      simp only [List.length_append, List.length_map, List.length_replicate, List.length_cons]
      omega
    · unfold slots Md.one
      simp only [List.length_append, List.length_map, List.length_replicate, List.length_cons]
      omega
    · cases j with
      | zero =>
        have h := Option.some.inj (show some (Sl.obj C l ns ds) = some s from h)
        subst h
        exact ⟨some (.ref l), rfl, l, dx, fs, rfl, rfl, hH, ⟨hn, rfl⟩, by rw [ec]; exact xf⟩
      | succ j =>
        have hx : DXs K (cut (M.one l (N.length - 1)) H) (V.int 0 :: ws) (Dt.int 0 :: es) := .cons (.int 0) (by rw [ec]; exact xw)
        have hs : (slots (Dt.int 0 :: es) (N.length - (Dt.int 0 :: es).length))[j + 1]? = some s := by
          show (slots es (N.length - (es.length + 1)))[j]? = some s
          exact h
        obtain ⟨o, h1, h2⟩ := slots_ok (N := N) (M := M.one l (N.length - 1)) hx (by simpa using hl) (j + 1) s hs
        exact ⟨o, h1, h2⟩
  have keep : ∀ {M' : Md} {H' : Hp}, Stp (M.one l (N.length - 1)) H M' H' → ∀ a o, H a = some o → a ≠ l → H' a = some o := fun s a o z c => (s.keep a o z (Md.inP0 rfl a) fun y => by
    rcases List.mem_cons.mp y with y | y
    · exact c (Option.some.inj y)
    · exact no_rep y).1
  have fin : ∀ {M' : Md} {H' : Hp} {σ' : L2.St} {ρ' : List Sl} {ds2 : List Dt} {v : V} {d : Dt}, Stp (M.one l (N.length - 1)) H M' H' → Sd K M' H' σ' ρ' → ρ'[0]? = some (.obj C l ns ds2) → DX K (cut M' H') v d → Φ d ds2 → Q v H' := fun {M' H' σ' ρ' ds2 v d} s S e x z => by
    obtain ⟨o, _, l', dx2, fs2, _, g2, g3, ⟨g4, rfl⟩, g5⟩ := S.ok 0 _ e
    have sub : Same (cut M' H') (cut (M.slf l') H') := cut_le fun a z => by
      rcases z with z | z | z
      · exact (Md.inP0 (M := M) hp a z).elim
      · rcases List.mem_cons.mp z with z | z
        · exact .inr (.inr (by rw [z]; exact List.mem_of_getElem? g2))
        · exact .inr (.inl (by rw [s.F]; exact z))
      · rw [show (M.slf l').O = M.O from rfl, hO] at z; cases z
    exact q v H' d dx2 fs2 ds2 (keep s) g3 g4 (g5.mono sub) (x.mono sub) z
  exact b l ds es Φ (by rw [List.length_cons, hlen]) w (M.one l (N.length - 1)) _ H S0 _ ⟨fun M' σ' H' ρ' s S ⟨ds2, e, z⟩ => fin s S e .non z, fun M' v H' d ρ' σ' s S x ⟨ds2, e, z⟩ => fin s S e x z, fun _ _ _ _ _ _ z => z, fun _ _ _ _ _ _ z => z, fun _ _ _ _ _ _ _ _ _ _ _ _ z => z⟩
end
/-! ### calls -/
/-- the caller's mutable things but the one that is handed -/
def Md.but (M : Md) (l : Addr) : Md := ⟨none, M.callP.F.filter (fun a => decide (a ≠ l)), []⟩
theorem Md.but_has {M : Md} {l : Addr} (hl : M.has l) (a : Addr) : ((M.but l).slf l).has a ↔ M.has a := by
  constructor
  · rintro (z | z | z)
    · exact (Md.inP0 rfl a z).elim
    · rcases List.mem_cons.mp z with z | z
      · rw [z]; exact hl
      · exact (M.callP_has a).mp (.inr (.inl (List.mem_filter.mp z).1))
    · cases z
  · intro z
    by_cases e : a = l
    · exact .inr (.inl (by rw [e]; exact List.mem_cons_self))
    · rcases (M.callP_has a).mpr z with y | y | y
      · exact (Md.inP0 rfl a y).elim
      · exact .inr (.inl (List.mem_cons_of_mem _ (List.mem_filter.mpr ⟨y, decide_eq_true e⟩)))
      · cases y
theorem Md.but_sub {M : Md} {l a : Addr} (h : (M.but l).has a) : M.has a ∧ a ≠ l := by
  rcases h with z | z | z
  · exact (Md.inP0 rfl a z).elim
  · obtain ⟨z1, z2⟩ := List.mem_filter.mp z
    exact ⟨(M.callP_has a).mp (.inr (.inl z1)), of_decide_eq_true z2⟩
  · cases z
theorem MOk.but {M : Md} {H : Hp} {l : Addr} (m : MOk M H) : MOk (M.but l) H :=
  ⟨fun a z => m.live a (Md.but_sub z).1, fun a z => (Md.inP0 rfl a z).elim, fun a z y => (nomatch y), fun i j a z => by
    have z : ([] : List (Option Addr))[i]? = some (some a) := z
    simp at z, fun t ht => (nomatch ht)⟩
section
variable {K : PySem.W.Frag} {pf : Bool} {ρ : List Sl} {i : Nat} {C a : Addr} {ns : List Str} {tr : TA} {E : XK} {Φ : Dt → List Sl → Prop} {W : List Dt → List Dt → (Dt → List Dt → Prop) → Prop}
theorem Sd.pokeO {M : Md} {H H3 : Hp} {σ : L2.St} {l dx2 : Addr} {fs2 : List V} {ds ds2 : List Dt} (S : Sd K M H σ ρ) (hs : ρ[i]? = some (.obj C a ns ds)) (hl : M.O[i]? = some (some l)) (kp : ∀ b o, H b = some o → b ≠ l → H3 b = some o) (h3 : H3 l = some (.ins C dx2 (ns.zip fs2))) (hn : ns.length = fs2.length)
    (x : DXs K (cut M H3) fs2 ds2) : Sd K M H3 σ (ρ.set i (.obj C a ns ds2)) ∧ Stp M H M H3 := by
  obtain ⟨o0, h0, l0, dx0, vs0, e0, e1, e2, e5, e3⟩ := S.ok i _ hs
  have el : l0 = l := Option.some.inj (Option.some.inj (e1.symm.trans hl))
  subst el
  have hm : M.has l0 := .inr (.inr (List.mem_of_getElem? hl))
  have sm : Same H (upd H3 l0 (.ins C dx0 (ns.zip vs0))) := fun b o z => by
    by_cases e : b = l0
    · subst e
      rw [upd_same, ← e2, z]
    · rw [upd_ne e]; exact kp b o z e
  have S2 := S.same sm
  have cs : Same (cut M H3) (cut M (upd H3 l0 (.ins C dx0 (ns.zip vs0)))) := fun b o z => by
    obtain ⟨c, y⟩ := cut_of z
    exact cut_at c (by rw [upd_ne fun e => c (by rw [e]; exact hm)]; exact y)
  have e : upd (upd H3 l0 (.ins C dx0 (ns.zip vs0))) l0 (.ins C dx2 (ns.zip fs2)) = H3 := by
    funext b
    by_cases c : b = l0
    · rw [c, upd_same, h3]
    · rw [upd_ne c, upd_ne c]
  obtain ⟨S3, s3⟩ := S2.writeO (dx1 := dx2) (ws := fs2) (vs := vs0) (es := ds2) hs hl hn (x.mono cs)
  rw [e] at S3 s3
  exact ⟨S3, (Stp.same M sm).trans s3⟩
theorem w_callO {ds0 : List Dt} (e : ρ[i]? = some (.obj C a ns ds0)) (h : Wa K false tr ρ fun es ρ1 => ∃ ds, ρ1[i]? = some (.obj C a ns ds) ∧ W ds es fun d ds2 => Φ d (ρ1.set i (.obj C a ns ds2))) : Wp K false (tCall (spO K C ns W) [] E (tCons (tVar i) tr)) ρ Φ := fun M σ H S Q q => by
  obtain ⟨o, h1, l, dx, fs, rfl, h2, h3, ⟨h4, rfl⟩, h5⟩ := S.ok i _ e
  refine ⟨.ref l, h1, h M σ H S _ fun vs H1 es ρ1 s1 S1 x1 ⟨ds, e1, k⟩ => ?_⟩
  obtain ⟨o', g1, l', dx', fs', g0, g2, g3, ⟨g4, g6⟩, g5⟩ := S1.ok i _ e1
  subst g6
  have hm : M.has l' := .inr (.inr (List.mem_of_getElem? g2))
  have ec : ∀ H', cut ((M.but l').slf l') H' = cut M H' := cut_congr (Md.but_has hm)
  rw [List.append_nil]
  refine ⟨M.but l', l', dx', vs, fs', ds, es, _, rfl, rfl, rfl, S1.mok.but, fun z => (Md.but_sub z).2 rfl, g3, g4, by rw [ec]; exact g5, by rw [ec]; exact x1, k, fun v H2 d dx2 fs2 ds2 kp y1 y2 y3 y4 z => ?_⟩
  rw [ec] at y3 y4
  obtain ⟨S3, s3⟩ := S1.pokeO e1 g2 kp y1 y2 y3
  exact q v H2 d _ ⟨s1.st.trans s3, fun z => nomatch z⟩ S3 y4 z
/-- what is handed behind the first is told as a tuple -/
def spStarO (K : PySem.W.Frag) (C : Addr) (ns : List Str) (W : List Dt → List Dt → (Dt → List Dt → Prop) → Prop) : Sp := fun vs H Q E => ∃ ws rest, vs = ws ++ rest ∧ ws.length = 1 ∧ rest.length ≤ sizeLine ∧ ∀ p, H p = none → spO K C ns W (ws ++ [V.ref p]) (upd H p (.tup rest)) Q E
theorem star_okO {M : Md} {σ : L2.St} {H1 : Hp} {ρ1 : List Sl} {vs : List V} {es : List Dt} {ds0 : List Dt} {l : Addr} {Q : VK} (S1 : Sd K M H1 σ ρ1) (e1 : ρ1[i]? = some (.obj C l ns ds0)) (x1 : DXs K (cut M H1) vs es) (hz : es.length ≤ 1000) (k : W ds0 [.tup es] fun d ds2 => Φ d (ρ1.set i (.obj C l ns ds2)))
    (q : ∀ v H2 d ρ', Tr false M H1 H2 → Sd K M H2 σ ρ' → DX K (cut M H2) v d → Φ d ρ' → Q v H2) : spStarO K C ns W (.ref l :: vs) H1 Q E := by
  obtain ⟨o', g1, l', dx', fs', g0, g2, g3, ⟨g4, g6⟩, g5⟩ := S1.ok i _ e1
  subst g6
  have hm : M.has l' := .inr (.inr (List.mem_of_getElem? g2))
  have ec : ∀ H', cut ((M.but l').slf l') H' = cut M H' := cut_congr (Md.but_has hm)
  refine ⟨[.ref l'], vs, rfl, rfl, by rw [x1.len]; exact Nat.le_trans hz (by decide), fun p hp => ?_⟩
  have sm : Same H1 (upd H1 p (.tup vs)) := same_new hp
  have S2 := S1.same sm
  have np : ¬ M.has p := S1.mok.new hp
  have lp : l' ≠ p := fun e => by rw [e, hp] at g3; cases g3
  refine ⟨M.but l', l', dx', [.ref p], fs', ds0, [.tup es], _, rfl, rfl, rfl, S2.mok.but, fun z => (Md.but_sub z).2 rfl, by rw [upd_ne lp]; exact g3, g4, by rw [ec]; exact g5.mono (cut_same M sm), by rw [ec]; exact .one (.tup (.inl (.inl (cut_at np upd_same))) (x1.mono (cut_same M sm))), k, fun v H2 d dx2 fs2 ds2 kp y1 y2 y3 y4 z => ?_⟩
  rw [ec] at y3 y4
  obtain ⟨S3, s3⟩ := S2.pokeO e1 g2 kp y1 y2 y3
  exact q v H2 d _ ⟨(Stp.same M sm).trans s3, fun z => nomatch z⟩ S3 y4 z
theorem w_methRO {m : Str} {ds0 : List Dt} (e : ρ[i]? = some (.obj C a ns ds0)) (hmn : m ∉ ns) (h : Wa K false tr ρ fun es ρ1 => ∃ ds, ρ1[i]? = some (.obj C a ns ds) ∧ es.length ≤ 1000 ∧ W ds [.tup es] fun d ds2 => Φ d (ρ1.set i (.obj C a ns ds2))) :
    Wp K false (tMethR C m (spStarO K C ns W) E (tVar i) tr) ρ Φ := fun M σ H S Q q => by
  obtain ⟨o, h1, l, dx, fs, rfl, h2, h3, ⟨h4, rfl⟩, h5⟩ := S.ok i _ e
  refine ⟨.ref l, h1, l, dx, _, rfl, h3, zip_look_none hmn, h M σ H S _ fun vs H1 es ρ1 s1 S1 x1 ⟨ds, e1, hz, k⟩ => ?_⟩
  exact star_okO S1 e1 x1 hz k fun v H2 d ρ' s S2 x f => q v H2 d ρ' (s1.trans s) S2 x f
end
end DL

set_option maxHeartbeats 2000000
/-! Data level: the bodies of such defs; o.m() by a positional promise. -/
namespace DL
open PySem PySem.Spec PyProof.Rows L2
variable [Tb]
section
variable {P : Program} {w : World} {K : PySem.W.Frag} {mg : Str → Option Value} {base : Heap} {k : Nat} {f C : Addr} {fd : FuncData} {x qual : Str} {st : Stmt} {N ps ns : List Str} {W : List Dt → List Dt → (Dt → List Dt → Prop) → Prop}
theorem len_O {vs : List V} {H : Hp} {Q : VK} {E : XK} (hW : ∀ ds es Φ, W ds es Φ → es.length + 1 = ps.length) (h : spO K C ns W vs H Q E) : vs.length = ps.length := by
  obtain ⟨M, l, dx, ws, fs, ds, es, Φ, rfl, _, _, _, _, _, _, _, xw, w, _⟩ := h
  rw [List.length_cons, xw.len]; exact hW ds es Φ w
theorem defO0 (F : Fun K x qual st f fd) (S : FnScope N ps (defScope st)) (hW : ∀ ds es Φ, W ds es Φ → es.length + 1 = ps.length) (hN : ps.length ≤ N.length)
    (hb : ∀ (cdv : Value) (A : Around) (outer : List Env) (s : Shared) (H : Hp) (E : XK), Room k (A.deeper (envOfC qual (defScope st) s.heap.objs.size f cdv)) →
      ∃ t, PSs (cxOf CX0 P w K mg base N qual (defScope st) f cdv A outer s H E).nox (defBody st) t ∧
        ∀ a ds es Φ, W ds es Φ → Ws K t (.obj C a ns ds :: slots es (N.length - (es.length + 1))) { nx := fun ρ => ∃ ds2, ρ[0]? = some (.obj C a ns ds2) ∧ Φ .non ds2, rt := fun d ρ => ∃ ds2, ρ[0]? = some (.obj C a ns ds2) ∧ Φ d ds2 }) : FnOk P w K mg base CX0 (k + 1) f fd ps (spO K C ns W) := by
  refine F.ok S (fun vs H Q E h => len_O hW h) fun cdv A outer s H vs Q E hr h => ?_
  obtain ⟨t, h1, h2⟩ := hb cdv A outer s H E hr
  exact ⟨t, h1, read_O h (by rw [len_O hW h]; exact hN) fun a ds es Φ _ w => h2 a ds es Φ w⟩
theorem defO (F : Fun K x qual st f fd) (S : FnScope N ps (defScope st)) (hW : ∀ ds es Φ, W ds es Φ → es.length + 1 = ps.length) (hN : ps.length ≤ N.length)
    (hb : ∀ (cdv : Value) (A : Around) (outer : List Env) (s : Shared) (H : Hp) (E : XK), Room k (A.deeper (envOfC qual (defScope st) s.heap.objs.size f cdv)) →
      (A.deeper (envOfC qual (defScope st) s.heap.objs.size f cdv)).guards = some [] → ∃ t, PSs (cxOf CX0 P w K mg base N qual (defScope st) f cdv A outer s H E).nox (defBody st) t ∧
        ∀ a ds es Φ, W ds es Φ → Ws K t (.obj C a ns ds :: slots es (N.length - (es.length + 1))) { nx := fun ρ => ∃ ds2, ρ[0]? = some (.obj C a ns ds2) ∧ Φ .non ds2, rt := fun d ρ => ∃ ds2, ρ[0]? = some (.obj C a ns ds2) ∧ Φ d ds2 }) : FnG P w K mg base CX0 (k + 1) f fd ps (spO K C ns W) := by
  refine okG F S (fun vs H Q E h => len_O hW h) fun cdv A outer s H vs Q E hr hg h => ?_
  obtain ⟨t, h1, h2⟩ := hb cdv A outer s H E hr hg
  exact ⟨t, h1, read_O h (by rw [len_O hW h]; exact hN) fun a ds es Φ _ w => h2 a ds es Φ w⟩
/-- a method with *rest that changes its instance; it may raise, but is not asked to -/
theorem fn_starO {p1 pv : Str} {kV doc pm cdv ct oc : Value} {an od : Option Addr} {osl : Array (Option Value)} (lk : K.lookup f = some ⟨oc, od, .func (PySem.W.fnOf x qual (defArgs st) (defBody st) (defScope st) .none kV doc pm an cdv ct), osl⟩) (hcd : PySem.W.codeIn K cdv qual = true)
    (S : FnScope N [p1, pv] (defScope st)) (hN : 2 ≤ N.length) (hW : ∀ ds es Φ, W ds es Φ → es.length = 1)
    (hb : ∀ us rest : List Value, us.length = ([p1] : List Str).length → bindArgs (PySem.W.fnOf x qual (defArgs st) (defBody st) (defScope st) .none kV doc pm an cdv ct) ⟨us ++ rest, []⟩ = (newTuple rest >>= fun t => pure (([p1] : List Str).zip us ++ [(pv, t)])))
    (hbody : ∀ (A : Around) (outer : List Env) (s : Shared) (H : Hp) (E : XK), Room k (A.deeper (envOfC qual (defScope st) s.heap.objs.size f cdv)) →
      ∃ t, PSs (cxOf (L2.CX P w) P w K mg base N qual (defScope st) f cdv A outer s H E) (defBody st) t ∧
        ∀ a ds es Φ, W ds es Φ → Ws K t (.obj C a ns ds :: slots es (N.length - (es.length + 1))) { nx := fun ρ => ∃ ds2, ρ[0]? = some (.obj C a ns ds2) ∧ Φ .non ds2, rt := fun d ρ => ∃ ds2, ρ[0]? = some (.obj C a ns ds2) ∧ Φ d ds2 }) :
    FnR P w K mg base (L2.CX P w) (k + 1) f (spStarO K C ns W) := by
  refine FnR.imp (StX.fn_star (ps := [p1]) (sp := spO K C ns W) lk hcd S StX.cxUp hb fun A outer s H vs Q E hr h => ?_) fun vs H Q E h => h
  obtain ⟨t, h1, h2⟩ := hbody A outer s H E hr
  have hl : vs.length = 2 := len_O (ps := [p1, pv]) (fun ds es Φ w => by rw [hW ds es Φ w]; rfl) h
  exact ⟨t, h1, read_O h (by rw [hl]; exact hN) fun a ds es Φ _ w => h2 a ds es Φ w⟩
end
theorem pe_methR0 {X : Cx} {CX : CXT} {k : Nat} {C f : Addr} {m : Str} {sp : Sp} {E : XK} {o : Expr} {ta : TE} {apos pos : Pos} {pl : Sem Bool} (he : PE X o ta) (c : Cls X.K C) (hm : Meth X.K C m f)
    (F : FnR X.prog X.w X.K X.mg X.base CX k f sp) (hr : Room k X.A) (hx : Passes CX X E)
    (ht : eval (.Call (.Attribute o m apos) [] [] pos) X.env = (do
      let ov ← eval o X.env
      standAt apos.atName
      let (f, first) ← holding [ov] (getMethod ov m pl)
      callWith pos f first (backTo pos (starEach [] X.env)) (backToKw pos (keywordEach [] X.env))) := by rfl) :
    PE X (.Call (.Attribute o m apos) [] [] pos) (tMethR C m sp E ta tNil) := by
  refine ⟨fun pins s σ H Q I h => ?_⟩
  refine PySem.W.methodCall_KW (pl := pl) (thn (he.run pins s σ H _ I h) fun u s1 ⟨x, H1, I1, rx, a, dx, fs, ex, ea, l, q⟩ => ?_) ht
  subst ex
  obtain rfl : u = Value.ref a := rx
  refine getmeth_ok I1 ea c hm l ?_
  exact PySem.W.callWith_K0 (first := [.ref a]) I1.kIn hm.kp (wpAny_call (run_fnR (us := [.ref a]) (vs := [.ref a]) F hr hx I1 (.cons rfl .nil) q))
end DL

set_option maxHeartbeats 2000000
/-! Data level: starred items, dicts of the module. -/
namespace DL
open PySem PySem.Spec PyProof.Rows L2 StX
variable [Tb]
section
variable {K : PySem.W.Frag} {pf : Bool} {ρ : List Sl} {te : TE} {t : TA} {Ξ : List Dt → List Sl → Prop}
theorem wa_star (h : Wp K pf te ρ fun d ρ1 => ∃ xs, seqD d = some xs ∧ Wa K pf t ρ1 fun ys ρ2 => Ξ (xs ++ ys) ρ2) : Wa K pf (tStar K te t) ρ Ξ := fun M σ H S Q q =>
  h M σ H S _ fun v H1 d ρ1 s1 S1 x1 ⟨xs, e, k⟩ => by
    cases d with
    | lst ds =>
      cases e
      cases x1 with
      | lst hs ha => exact ⟨_, _, rfl, .inr ((cut_sub M H1).seq hs), k M σ H1 S1 _ fun ys H2 es ρ2 s2 S2 x2 z => q _ H2 _ ρ2 (s1.trans s2) S2 ((ha.mono s2.dx).append x2) z⟩
    | tup ds =>
      cases e
      cases x1 with
      | tup hs ha => exact ⟨_, _, rfl, .inl (same_T (cut_sub M H1) hs), k M σ H1 S1 _ fun ys H2 es ρ2 s2 S2 x2 z => q _ H2 _ ρ2 (s1.trans s2) S2 ((ha.mono s2.dx).append x2) z⟩
    | _ => cases e
end
/-- what is known of a dict of the module: of some texts, what stands there, or that nothing does -/
structure KTab (K : PySem.W.Frag) (w : World) (d : Addr) (ks : List (Str × Option Dt)) : Prop where
  D : ∃ es n, KDict K w d es n
  at_ : ∀ q ∈ ks, ∃ r : Option Value, PySem.W.nsIn K d q.1 = some r ∧ (∀ dt, q.2 = some dt → ∃ u v, r = some u ∧ RelV v u ∧ ∀ H, DX K H v dt) ∧ (q.2 = none → r = none)
def rInKD (K : PySem.W.Frag) (d : Addr) : R2 := fun x y H Q => ∃ (z : Str) (r : Option Value), x = .str z ∧ y = .ref d ∧ PySem.W.nsIn K d z = some r ∧ Q (.bl r.isSome) H
def tDGetK (K : PySem.W.Frag) (d : Addr) (td ty : TE) : TE := fun σ H Q => td σ H fun x H1 => x = .ref d ∧ ty σ H1 fun y H2 => ∃ (z : Str) (r : Option Value) (v : Option V), y = .str z ∧ PySem.W.nsIn K d z = some r ∧ RelO v r ∧ Q (v.getD .non) H2
section
variable {X : Cx} {d : Addr} {es : Array DictEntry} {n : Nat} {o e : Expr} {apos cpos : Pos} {td ty : TE}
theorem pe_dgetK (D : KDict X.K X.w d es n) (ho : PE X o td) (he : PE X e ty) (m : M1 X o "get" apos e cpos) : PE X (.Call (.Attribute o "get" apos) [e] [] cpos) (tDGetK X.K d td ty) := by
  refine ⟨fun pins s σ H Q I h => ?_⟩
  refine wpAny_Call_method m.base m.few m.line PySem.F.plainAttrs_dict PySem.F.slot_dict_get PySem.F.type_dict_get (thn (ho.run pins s σ H _ I h) fun u s1 ⟨x, H1, I1, rx, ex, q1⟩ => ?_)
  subst ex
  obtain rfl : u = Value.ref d := rx
  refine ⟨kd_type D I1, fun b q => ?_, ?_⟩
  · cases q
    exact ⟨_, I1.kIn _ _ D.at_, rfl⟩
  rw [m.trees]
  refine Calls.callWith_builtin rfl (Calls.evalArgs_plain (Calls.spliced_cons (thn (he.run pins s1 σ H1 _ I1 q1) fun iv s2 ⟨y, H2, I2, ry, z, r, v, ey, en, rv, q2⟩ => Calls.spliced_nil ?_)))
  subst ey
  obtain ⟨t, rfl⟩ := (show ∃ t, iv = Value.str z t from ry)
  have hm := PySem.W.mapOf_K (prog := X.prog) (w := X.w) I2.kIn D.at_ D.lit
  refine call_meetsIn PySem.F.slot_dict_get hm.typeIs PySem.F.entry_dict_get (PySem.F.args_dict_get_2 _ _) (meets_dict_get (strKind X.prog X.w) d (strKind_is X.prog X.w z t) D.low) ⟨_, hm, ?_⟩
  rw [PySem.W.find_K D.at_ en]
  exact ⟨v.getD .non, H2, I2.tok _, rv.getD rfl, q2⟩
end
section
variable {K : PySem.W.Frag} {w : World} {pf : Bool} {ρ : List Sl} {td ty : TE} {d : Addr} {ks : List (Str × Option Dt)} {Ψ : Dt → Prop} {Φ : Dt → List Sl → Prop}
theorem od_inKD {z : Str} {o : Option Dt} (T : KTab K w d ks) (hm : (z, o) ∈ ks) (h : Ψ (.bl o.isSome)) : OD K (rInKD K d) (.str z) (.cls d) Ψ := fun M H x y m x1 x2 Q q => by
  obtain ⟨r, e1, e2, e3⟩ := T.at_ _ hm
  have hy : y = .ref d := by cases x2; rfl
  refine ⟨z, r, x1.str_eq, hy, e1, ?_⟩
  cases o with
  | none => rw [e3 rfl]; exact q _ H (.bl false) (Same.refl H) (.bl _) h
  | some dt =>
    obtain ⟨u, v, rfl, _⟩ := e2 dt rfl
    exact q _ H (.bl true) (Same.refl H) (.bl _) h
theorem od_ixKD {z : Str} {dt : Dt} (T : KTab K w d ks) (hm : (z, some dt) ∈ ks) (h : Ψ dt) : OD K (rIxD K w) (.cls d) (.str z) Ψ := fun M H x y m x1 x2 Q q => by
  obtain ⟨r, e1, e2, e3⟩ := T.at_ _ hm
  obtain ⟨u, v, rfl, rv, dx⟩ := e2 dt rfl
  obtain ⟨es, n, D⟩ := T.D
  have hx : x = .ref d := by cases x1; rfl
  exact ⟨d, z, v, hx, x2.str_eq, ⟨es, n, u, D.at_, D.lit, e1, rv⟩, q v H dt (Same.refl H) (dx _) h⟩
theorem w_dgetK (h : Wp K pf td ρ fun d1 ρ1 => d1 = .cls d ∧ Wp K pf ty ρ1 fun d2 ρ2 => ∃ z o, d2 = .str z ∧ KTab K w d ks ∧ (z, o) ∈ ks ∧ Φ (o.getD .non) ρ2) : Wp K pf (tDGetK K d td ty) ρ Φ := fun M σ H S Q q =>
  h M σ H S _ fun v H1 d1 ρ1 s1 S1 x1 ⟨e, k⟩ => by
    subst e
    have hv : v = .ref d := by cases x1; rfl
    refine ⟨hv, k M σ H1 S1 _ fun y H2 d2 ρ2 s2 S2 x2 ⟨z, o, e, T, hm, f⟩ => ?_⟩
    subst e
    obtain ⟨r, e1, e2, e3⟩ := T.at_ _ hm
    cases o with
    | none => exact ⟨z, none, none, x2.str_eq, by rw [e1, e3 rfl], trivial, q _ H2 .non ρ2 (s1.trans s2) S2 .non f⟩
    | some dt =>
      obtain ⟨u, v', rfl, rv, dx⟩ := e2 dt rfl
      exact ⟨z, some u, some v', x2.str_eq, e1, rv, q v' H2 dt ρ2 (s1.trans s2) S2 (dx _) f⟩
end
end DL

set_option maxHeartbeats 2000000
/-! Data level: list(d) and `not in` of a dict that is data. -/
namespace DL
open PySem PySem.Spec PyProof.Rows L2
variable [Tb]
def rListR : List V → Hp → VK → Prop := fun xs H Q => ∃ p kvs, xs = [.ref p] ∧ Rd H p (.dK kvs) ∧ ∀ q, H q = none → Q (.ref q) (upd H q (.lst (kvs.map fun kv => kV kv.1)))
theorem call_listR {X : Cx} (hc : X.calm = true) : CallR X (.type "list") rListR := call_listD hc
def kD : Key → Dt
  | .inl i => .int i
  | .inr x => .str x
theorem dxs_kD {K : PySem.W.Frag} {H H' : Hp} : ∀ {kvs : List (Key × V)} {ds : List (Key × Dt)}, DXk K H kvs ds → DXs K H' (kvs.map fun kv => kV kv.1) (ds.map fun kv => kD kv.1)
  | [], _, h => by cases h; exact .nil
  | (k, v) :: r, _, h => by
    cases h with
    | cons h1 h2 =>
      refine .cons ?_ (dxs_kD h2)
      cases k with
      | inl i => exact .int i
      | inr x => exact .str x
def rNotInR : R2 := fun x y H Q => ∃ a o, y = .ref a ∧ DGet H a x o ∧ Q (.bl (!o.isSome)) H
theorem op_notInR {X : Cx} (hu : X.A.units + 1 < cLine) : OpR X (compareOp .NotIn) rNotInR := by
  intro pins s σ H x y v u Q I rx ry h
  obtain ⟨a, o, rfl, g, q⟩ := h
  obtain rfl : u = Value.ref a := ry
  exact d_notIn hu I g rx fun s2 I2 => ⟨.bl (!o.isSome), H, I2, rfl, q⟩
section
variable {K : PySem.W.Frag} {Ψ : Dt → Prop}
theorem rd_listR {p : Addr} {kvs : List (Key × Dt)} (h : Ψ (.lst (kvs.map fun kv => kD kv.1))) : RD K rListR [.dct p kvs] Ψ := fun M H vs m xx Q q => by
  obtain ⟨v, rfl, x⟩ := one_v xx
  cases x with
  | @dct _ us _ r y =>
    obtain ⟨n, r'⟩ := cut_Rd r
    refine ⟨p, us, rfl, r', fun l hl => q (.ref l) _ _ (same_new hl) (.lst (.inl (.inl (cut_at (m.new hl) upd_same))) ?_) h⟩
    exact dxs_kD y
theorem dxk_val {H : Hp} {k : Key} {e : Dt} : ∀ {kvs : List (Key × V)} {ds : List (Key × Dt)}, DXk K H kvs ds → valD ds k = some e → ∃ v, valV kvs k = some v ∧ DX K H v e := fun h l => h.val l
theorem od_notInR {p : Addr} {kvs : List (Key × Dt)} {z : Str} {e : Dt} (l : valD kvs (.inr z) = some e) (h : Ψ (.bl false)) : OD K rNotInR (.str z) (.dct p kvs) Ψ := fun M H x y m x1 x2 Q q => by
  rw [x1.str_eq]
  cases x2 with
  | @dct _ us _ r yk =>
    obtain ⟨n, r'⟩ := cut_Rd r
    obtain ⟨v, e1, _⟩ := dxk_val yk l
    refine ⟨p, _, rfl, dget_rd (k := .inr z) r', ?_⟩
    rw [e1]
    exact q _ H (.bl false) (Same.refl H) (.bl _) h
end
end DL

/-! Data level: a statement that draws nothing and changes nothing of one's own: lists and dicts of one's own are read in it as data, and are one's own again behind it. -/
namespace DL
open PySem PySem.Spec PyProof.Rows L2
variable [Tb]
section
variable {K : PySem.W.Frag} {pf : Bool} {ρ : List Sl} {Φ : Dt → List Sl → Prop} {i : Nat}
theorem w_val {v : V} {d : Dt} (e : ρ[i]? = some (.val v d)) (f : Φ d ρ) : Wp K pf (tVar i) ρ Φ := fun M σ H S Q q => by
  obtain ⟨o, h1, h2, h3⟩ := S.ok i _ e
  exact ⟨v, by rw [h1, h2], q v H d ρ (Tr.refl pf M H) S h3 f⟩
end
def refV : V → Addr
  | .ref a => a
  | _ => 0
def asd1 (v : V) : Sl → Sl
  | .any => .any
  | .dat d => .val v d
  | .val w d => .val w d
  | .own ds => .val v (.lst ds)
  | .ownd kvs => .val v (.dct (refV v) kvs)
  | .obj C _ ns ds => .val v (.ins C (refV v) ns ds)
  | .pen _ => .val v (.cls (refV v))
  | .pown _ => .val v (.cls (refV v))
def asdF (u : Nat → V) : Nat → List Sl → List Sl
  | _, [] => []
  | n, s :: r => asd1 (u n) s :: asdF u (n + 1) r
def asd (u : Nat → V) (ρ : List Sl) : List Sl := asdF u 0 ρ
theorem asdF_at (u : Nat → V) : ∀ (ρ : List Sl) (n k : Nat), (asdF u n ρ)[k]? = (ρ[k]?).map (asd1 (u (n + k)))
  | [], _, _ => by simp [asdF]
  | s :: r, n, 0 => by simp [asdF]
  | s :: r, n, k + 1 => by
    show (asdF u (n + 1) r)[k]? = _
    rw [asdF_at u r (n + 1) k]
    simp [Nat.add_assoc, Nat.add_comm 1 k]
theorem asd_at (u : Nat → V) (ρ : List Sl) (k : Nat) : (asd u ρ)[k]? = (ρ[k]?).map (asd1 (u k)) := by
  unfold asd
  rw [asdF_at, Nat.zero_add]
theorem asd_len (u : Nat → V) (ρ : List Sl) : (asd u ρ).length = ρ.length := by
  have : ∀ (ρ : List Sl) (n : Nat), (asdF u n ρ).length = ρ.length := by
    intro ρ
    induction ρ with
    | nil => intro n; rfl
    | cons s r ih => intro n; show (asdF u (n + 1) r).length + 1 = _; rw [ih]; rfl
  exact this ρ 0
/-- but for js the values stand -/
structure Frm (js : List Nat) (r r' : List Sl) : Prop where
  len : r'.length = r.length
  at_ : ∀ (k : Nat) (v : V) (d : Dt), k ∉ js → r[k]? = some (.val v d) → ∃ d', r'[k]? = some (.val v d')
theorem Frm.refl (js : List Nat) (r : List Sl) : Frm js r r := ⟨rfl, fun _ _ d _ e => ⟨d, e⟩⟩
theorem Frm.set {js : List Nat} {r r' : List Sl} {j : Nat} {s : Sl} (f : Frm js r r') (h : j ∈ js) : Frm js r (r'.set j s) := ⟨by rw [List.length_set]; exact f.len, fun k v d hk e => by
  obtain ⟨d', e'⟩ := f.at_ k v d hk e
  exact ⟨d', by rw [List.getElem?_set_ne (fun z : j = k => hk (by rw [← z]; exact h))]; exact e'⟩⟩
section
variable {K : PySem.W.Frag} {ρ : List Sl} {t : TS} {D : DE}
theorem ws_aside (js : List Nat) (hx : ∀ C ns es, ¬ D.xd C ns es) (h : ∀ u : Nat → V, Ws K t (asd u ρ) { nx := fun ρ' => Frm js (asd u ρ) ρ' ∧ D.nx (wipeS ρ js), rt := fun d _ => flatD d = true ∧ D.rt d ρ, bk := fun ρ' => Frm js (asd u ρ) ρ' ∧ D.bk (wipeS ρ js), ct := fun ρ' => Frm js (asd u ρ) ρ' ∧ D.ct (wipeS ρ js) }) : Ws K t ρ D := fun M σ H S E k => by
  let u : Nat → V := fun n => ((σ[n]?).join).getD .non
  have hu : ∀ {n : Nat} {v : V}, σ[n]? = some (some v) → u n = v := fun {n v} e => by show ((σ[n]?).join).getD .non = v; rw [e]; rfl
  let M1 : Md := ⟨none, (M.p.toList ++ M.ts.map (·.1)) ++ M.F, List.replicate ρ.length none⟩
  have h1 : ∀ a, M1.has a → M.has a := fun a z => by
    rcases z with z | z | z
    · exact (Md.inP0 rfl a z).elim
    · rcases List.mem_append.mp z with z | z
      · exact .inl (Md.mem_p.mp z)
      · exact .inr (.inl z)
    · exact (no_rep z).elim
  have sc : Same (cut M H) (cut M1 H) := cut_le h1
  have lO : ∀ {n : Nat} {a : Addr}, M.O[n]? = some (some a) → ¬ M1.has a := fun {n a} e z => by
    have hm := List.mem_of_getElem? e
    rcases z with z | z | z
    · exact (Md.inP0 rfl a z).elim
    · rcases List.mem_append.mp z with z | z
      · exact (S.mok.pF a (Md.mem_p.mp z)).2 hm
      · exact S.mok.FO a z hm
    · exact no_rep z
  have S1 : Sd K M1 H σ (asd u ρ) := by
    refine ⟨by rw [asd_len]; exact S.len, by rw [asd_len]; exact List.length_replicate, ⟨fun a z => S.mok.live a (h1 a z), fun a z => (Md.inP0 rfl a z).elim, fun a _ z => no_rep z, fun n m a z => ?_, fun t ht => (nomatch ht)⟩, fun n s e => ?_⟩
    · have := List.mem_of_getElem? z
      exact (no_rep this).elim
    · rw [asd_at] at e
      cases e0 : ρ[n]? with
      | none => rw [e0] at e; cases e
      | some s0 =>
        rw [e0] at e
        have e := Option.some.inj e
        obtain ⟨o, z1, z2⟩ := S.ok n s0 e0
        subst e
        refine ⟨o, z1, ?_⟩
        cases s0 with
        | any => trivial
        | dat d => obtain ⟨v, a1, a2⟩ := z2; subst a1; exact ⟨by rw [hu z1], by rw [hu z1]; exact a2.mono sc⟩
        | val w d => obtain ⟨a1, a2⟩ := z2; exact ⟨a1, a2.mono sc⟩
        | own es =>
          obtain ⟨l, ws, a1, a2, a3, a4⟩ := z2
          subst a1
          exact ⟨by rw [hu z1], by rw [hu z1]; exact .lst (.inl (.inl (cut_at (lO a2) a3))) (a4.mono sc)⟩
        | obj C0 b0 ns0 es =>
          obtain ⟨l, dx0, ws, a1, a2, a3, a5, a4⟩ := z2
          subst a1
          exact ⟨by rw [hu z1], by rw [hu z1]; exact .ins (cut_at (lO a2) a3) a5.1 (a4.mono sc)⟩
        | ownd es =>
          obtain ⟨l, ws, a1, a2, a3, a4⟩ := z2
          subst a1
          exact ⟨by rw [hu z1], by rw [hu z1]; exact .dct (.inl (cut_at (lO a2) a3)) (a4.mono sc)⟩
        | pen m => obtain ⟨p, a1, a2, _⟩ := z2; subst a1; exact ⟨by rw [hu z1], by rw [hu z1]; exact .cls p⟩
        | pown es => obtain ⟨p, ws, a1, a2, _⟩ := z2; subst a1; exact ⟨by rw [hu z1], by rw [hu z1]; exact .cls p⟩
  have same : ∀ {M' : Md} {H' : Hp}, Stp M1 H M' H' → Same H H' := fun s a o e => (s.keep a o e (Md.inP0 rfl a) no_rep).1
  have back : ∀ {M' : Md} {H' : Hp} {σ' : L2.St} {ρ' : List Sl}, Stp M1 H M' H' → Sd K M' H' σ' ρ' → Frm js (asd u ρ) ρ' → Sd K M H' σ' (wipeS ρ js) := fun {M' H' σ' ρ'} s S' f => by
    have S2 := S.same (same s)
    have hl : σ'.length = ρ.length := by rw [S'.len, f.len, asd_len]
    refine ⟨by rw [wipeS_len]; exact hl, by rw [wipeS_len]; exact S.olen, S2.mok, fun n s0 e => ?_⟩
    have hn : n < σ'.length := by
      have := (List.getElem?_eq_some_iff.mp e).1
      rw [wipeS_len] at this
      omega
    have any : s0 = .any → ∃ o, σ'[n]? = some o ∧ SlOk K M H' n o s0 := fun z => ⟨_, List.getElem?_eq_getElem hn, by rw [z]; trivial⟩
    rcases wipeS_at e with z | ⟨nj, e0⟩
    · exact any z
    · obtain ⟨o, z1, z2⟩ := S2.ok n s0 e0
      have ea : (asd u ρ)[n]? = some (asd1 (u n) s0) := by rw [asd_at, e0]; rfl
      have get : ∀ {v : V} {d : Dt}, o = some v → asd1 (u n) s0 = .val v d → ∃ o, σ'[n]? = some o ∧ SlOk K M H' n o s0 := fun {v d} ho hs => by
        rw [hs] at ea
        obtain ⟨d', e'⟩ := f.at_ n v d nj ea
        obtain ⟨o', y1, y2, y3⟩ := S'.ok n _ e'
        exact ⟨o, by rw [y1, y2, ho], z2⟩
      cases s0 with
      | any => exact any rfl
      | dat d => obtain ⟨v, a1, _⟩ := id z2; exact get a1 (by show Sl.val (u n) d = _; rw [hu (by rw [z1, a1])])
      | val w d => exact get z2.1 rfl
      | own es => obtain ⟨l, ws, a1, _⟩ := id z2; exact get a1 (by show Sl.val (u n) _ = _; rw [hu (by rw [z1, a1])])
      | obj C0 b0 ns0 es => obtain ⟨l, dx0, ws, a1, _⟩ := id z2; exact get a1 (by show Sl.val (u n) _ = _; rw [hu (by rw [z1, a1])])
      | ownd es => obtain ⟨l, ws, a1, _⟩ := id z2; exact get a1 (by show Sl.val (u n) _ = _; rw [hu (by rw [z1, a1])])
      | pen m => obtain ⟨p, a1, _⟩ := id z2; exact get a1 (by show Sl.val (u n) _ = _; rw [hu (by rw [z1, a1])])
      | pown es => obtain ⟨p, ws, a1, _⟩ := id z2; exact get a1 (by show Sl.val (u n) _ = _; rw [hu (by rw [z1, a1])])
  refine h u M1 σ H S1 E ⟨fun M' σ' H' ρ' s S' ⟨f, z⟩ => k.nx M σ' H' _ (Stp.same M (same s)) (back s S' f) z, fun M' v H' d ρ' σ' s S' x ⟨f, z⟩ => k.rt M v H' d ρ σ (Stp.same M (same s)) (S.same (same s)) (flat_any f x) z,
    fun M' σ' H' ρ' s S' ⟨f, z⟩ => k.bk M σ' H' _ (Stp.same M (same s)) (back s S' f) z, fun M' σ' H' ρ' s S' ⟨f, z⟩ => k.ct M σ' H' _ (Stp.same M (same s)) (back s S' f) z, fun _ _ _ _ _ _ _ _ _ _ _ _ z => z.elim⟩
end
end DL

/-! Data level: what can be shown: by depth and weight. -/
namespace DL
open PySem PySem.Spec PyProof.Rows L2
variable [Tb]
structure Sh (n w : Nat) (d : Dt) : Prop where
  pure : d.pure = true
  sh : d.py.showable = true
  dep : d.py.depth ≤ n
  lv : d.py.leavesShort 600 = true
  wt : d.py.weight ≤ w
structure ShL (n w : Nat) (ds : List Dt) : Prop where
  pure : pures ds = true
  sh : PyData.showableAll (pys ds) = true
  dep : PyData.depthAll (pys ds) ≤ n
  lv : PyData.leavesShortAll 600 (pys ds) = true
  wt : PyData.weightAll (pys ds) ≤ w
theorem Sh.mono {n m w v : Nat} {d : Dt} (h : Sh n w d) (a : n ≤ m) (b : w ≤ v) : Sh m v d := ⟨h.pure, h.sh, Nat.le_trans h.dep a, h.lv, Nat.le_trans h.wt b⟩
theorem ShL.mono {n m w v : Nat} {d : List Dt} (h : ShL n w d) (a : n ≤ m) (b : w ≤ v) : ShL m v d := ⟨h.pure, h.sh, Nat.le_trans h.dep a, h.lv, Nat.le_trans h.wt b⟩
theorem Sh.fit {n w : Nat} {d : Dt} (h : Sh n w d) (hn : n ≤ 60) (hw : w ≤ 20000) : Fit d := by
  refine ⟨h.pure, h.sh, Nat.le_trans h.dep hn, ?_⟩
  have a := PyData.shown_le 600 (by decide) d.py h.lv
  have b : (600 + 2) * d.py.weight ≤ 602 * 20000 := Nat.mul_le_mul (by omega) (Nat.le_trans h.wt hw)
  rw [sizeLine_eq]
  omega
theorem ShL.nil : ShL 0 0 [] := ⟨rfl, rfl, by simp [pys, PyData.depthAll], rfl, by simp [pys, PyData.weightAll]⟩
theorem ShL.cons {n a b : Nat} {d : Dt} {ds : List Dt} (h : Sh n a d) (k : ShL n b ds) : ShL n (a + b + 1) (d :: ds) := by
  have h1 := h.dep
  have h2 := k.dep
  have h3 := h.wt
  have h4 := k.wt
  refine ⟨by simp only [pures, h.pure, k.pure, Bool.and_self], by simp only [pys, PyData.showableAll, h.sh, k.sh, Bool.and_self], ?_, by simp only [pys, PyData.leavesShortAll, h.lv, k.lv, Bool.and_self], ?_⟩
  · simp only [pys, PyData.depthAll]; omega
  · simp only [pys, PyData.weightAll]; omega
theorem ShL.all {n a : Nat} : ∀ {ds : List Dt}, (∀ d ∈ ds, Sh n a d) → ShL n ((a + 1) * ds.length) ds
  | [], _ => ShL.nil.mono (Nat.zero_le _) (Nat.zero_le _)
  | d :: ds, h => (ShL.cons (h d List.mem_cons_self) (ShL.all fun x hx => h x (List.mem_cons_of_mem _ hx))).mono (Nat.le_refl _) (by rw [List.length_cons, Nat.mul_succ]; omega)
theorem Sh.tup {n w : Nat} {ds : List Dt} (h : ShL n w ds) : Sh (n + 1) (w + 1) (.tup ds) := by
  have h1 := h.dep
  have h3 := h.wt
  exact ⟨by simp only [Dt.pure]; exact h.pure, by simp only [Dt.py, PyData.showable]; exact h.sh, by simp only [Dt.py, PyData.depth]; omega, by simp only [Dt.py, PyData.leavesShort]; exact h.lv, by simp only [Dt.py, PyData.weight]; omega⟩
theorem Sh.lst {n w : Nat} {ds : List Dt} (h : ShL n w ds) : Sh (n + 1) (w + 1) (.lst ds) := by
  have h1 := h.dep
  have h3 := h.wt
  exact ⟨by simp only [Dt.pure]; exact h.pure, by simp only [Dt.py, PyData.showable]; exact h.sh, by simp only [Dt.py, PyData.depth]; omega, by simp only [Dt.py, PyData.leavesShort]; exact h.lv, by simp only [Dt.py, PyData.weight]; omega⟩
theorem Sh.bl (b : Bool) : Sh 0 1 (.bl b) := ⟨rfl, rfl, by simp [Dt.py, PyData.depth], rfl, by simp [Dt.py, PyData.weight]⟩
theorem Sh.non : Sh 0 1 .non := ⟨rfl, rfl, by simp [Dt.py, PyData.depth], rfl, by simp [Dt.py, PyData.weight]⟩
theorem Sh.int {i : Int} {b : Nat} (h : i.natAbs < 2 ^ b) (h0 : 0 < b) (hb : b ≤ 500) : Sh 0 b (.int i) := by
  have hl : i.natAbs.log2 < b := PySem.Flt.log2_lt_of h0 h
  refine ⟨rfl, by simp only [Dt.py, PyData.showable, decide_eq_true_eq]; omega, by simp [Dt.py, PyData.depth], ?_, ?_⟩
  · simp only [Dt.py, PyData.leavesShort, decide_eq_true_eq]
    have := int_text_length_le (a := i) h0 hl
    show (Str.ofString (toString i)).length ≤ 600
    rw [PySem.ofString_length]
    omega
  · simp only [Dt.py, PyData.weight]
    split <;> omega
theorem Sh.str {z : Str} {w : Nat} (h : (z.cps.toList.all fun c => decide (c < 256)) = true) (hl : z.length ≤ w) : Sh 0 (w + 1) (.str z) := by
  refine ⟨rfl, rfl, by simp [Dt.py, PyData.depth], ?_, ?_⟩
  · simp only [Dt.py, PyData.leavesShort]
    refine List.all_eq_true.mpr fun c hc => ?_
    have := List.all_eq_true.mp h c hc
    simp only [decide_eq_true_eq] at this ⊢
    omega
  · simp only [Dt.py, PyData.weight]; exact Nat.le_succ_of_le hl
end DL

/-! Data level: C() of a class without an own __init__; zip of two lists; the facts of classes of instances as the top leaves them. -/
namespace DL
open PySem PySem.Spec PyProof.Rows L2
variable [Tb]

/-! ### C() where there is no own __init__ -/
structure Mk0 (K : PySem.W.Frag) (C : Addr) : Prop where
  makes : PySem.W.makesIn K C = true
  init : PySem.W.findIn K (.ref C) "__init__" = some (some (.builtin "object.__init__"))
  kp : PySem.W.keepIn K (.ref C) = true
def tMake0 (C : Addr) : TE := fun _ H Q => ∀ x dx, H x = none → H dx = none → dx ≠ x → Q (.ref x) (upd (upd H dx (.own x)) x (.ins C dx []))
section
variable {X : Cx} {C : Addr} {x : Str} {p pos : Pos}
theorem pe_make00 (M : Mk0 X.K C) (hg : Gl X x) (hm : X.mg x = some (.ref C)) (hdb : (x == ("__debug__" : Str)) = false := by decide) : PE X (.Call (.Name x p) [] [] pos) (tMake0 C) := by
  constructor
  intro pins s σ H Q I h
  refine wpAny_Call_Name_kw (ld_glob I hg hm ?_ hdb)
  refine PySem.W.callWith_K0 I.kIn M.kp (wpAny_call (make_map0 I.kIn M.makes M.init (fun self => PySem.W.Looks.of_pure (PySem.W.oi_bind self)) ?_))
  have I2 := Inv.made (C := C) I
  have k : ∀ b o, s.heap.get? b = some o → ((s.heap.push PySem.W.emptyDict).push (PySem.W.instObj C s.heap.objs.size)).get? b = some o := fun b o e => Heap.get?_push_of_some _ (Heap.get?_push_of_some _ e)
  have hx : ((s.heap.push PySem.W.emptyDict).push (PySem.W.instObj C s.heap.objs.size)).get? (s.heap.objs.size + 1) = some (PySem.W.instObj C s.heap.objs.size) := by
    have := Heap.get?_push_size (s.heap.push PySem.W.emptyDict) (o := PySem.W.instObj C s.heap.objs.size) rfl
    rwa [Heap.size_push] at this
  have top := (PySem.W.makes_of (M := model X.prog X.w) I.kIn M.makes).top
  have t1 : PySem.W.Looks (model X.prog X.w) ((s.heap.push PySem.W.emptyDict).push (PySem.W.instObj C s.heap.objs.size)) (typeOf (.ref (s.heap.objs.size + 1))) (.ref C) := (PySem.W.Looks.ld hx).andThen .now
  have t2 : PySem.W.Looks (model X.prog X.w) ((s.heap.push PySem.W.emptyDict).push (PySem.W.instObj C s.heap.objs.size)) (isInstance (.ref (s.heap.objs.size + 1)) (.type "object")) true := t1.andThen (top.keeps k)
  refine codeAny_call_builtin PySem.W.oi_plain PySem.W.entry_oi (@PySem.W.check_slot (model X.prog X.w) _ _ _ "object.__init__" "object" "__init__" (.ref (s.heap.objs.size + 1)) [] [] _ PySem.W.oi_kind PySem.W.oi_split t2 (PySem.W.oi_args (.ref (s.heap.objs.size + 1))) ?_)
  rw [PySem.W.oi_run]
  exact wpAny_pure (And.intro rfl ⟨V.ref (s.heap.objs.size + 1), _, I2, rfl, h _ _ (I.hok.fresh (Nat.le_succ _)) (I.hok.fresh (Nat.le_refl _)) (Nat.ne_of_lt (Nat.lt_succ_self _))⟩)
end
section
variable {K : PySem.W.Frag} {pf : Bool} {ρ : List Sl} {C : Addr} {Φ : Dt → List Sl → Prop}
theorem w_make00 (h : ∀ a, Φ (.ins C a [] []) ρ) : Wp K pf (tMake0 C) ρ Φ := fun M σ H S Q q x dx hx hdx ne => by
  have s1 : Same H (upd H dx (.own x)) := same_new hdx
  have hx1 : (upd H dx (.own x)) x = none := by rw [upd_ne ne.symm]; exact hx
  have s2 : Same (upd H dx (.own x)) (upd (upd H dx (.own x)) x (.ins C dx [])) := same_new hx1
  exact q (.ref x) _ (.ins C x [] []) ρ (Tr.same pf M (s1.trans s2)) (S.same (s1.trans s2)) (.ins (cut_at (S.mok.new hx) upd_same) rfl .nil) (h x)
end

/-! ### zip of two lists -/
def zipD (xs ys : List Dt) : List Dt := (xs.zip ys).map fun p => .tup [p.1, p.2]
section
variable {K : PySem.W.Frag} {ρ : List Sl} {tr : TA} {pf : Bool} {Ψ : List Dt → List Sl → Prop}
theorem wi_zip (h : Wa K pf tr ρ fun ds ρ1 => ∃ xs ys, ds = [.lst xs, .lst ys] ∧ Ψ (zipD xs ys) ρ1) : WI K pf (iZip K tr) ρ Ψ := fun M σ H S R r =>
  h M σ H S _ fun vs H1 ds ρ1 s1 S1 x1 ⟨xs, ys, e, f⟩ => by
    subst e
    obtain ⟨v, w, rfl, xv, xw⟩ := two_v x1
    cases xv with
    | @lst a us _ hs ha =>
      cases xw with
      | @lst b ws _ ht hb =>
        refine ⟨a, b, us, ws, rfl, (cut_sub M H1).seq hs, (cut_sub M H1).seq ht, r _ H1 (zipD xs ys) ρ1 s1 S1 ⟨min us.length ws.length, _, _, walk_zip rfl, ?_, ?_, ?_⟩ f⟩
        · unfold zipD; rw [List.length_map, List.length_zip, ha.len, hb.len]
        · intro M' H' s
          exact ⟨(cut_sub M' H').seq (s.seq hs), (cut_sub M' H').seq (s.seq ht)⟩
        · rintro M' H' i x H'' s m hi ⟨T, p, q, rfl, hT, rfl, h1, h2⟩
          obtain ⟨d1, e1, k1⟩ := ha.get h1
          obtain ⟨d2, e2, k2⟩ := hb.get h2
          have sn : Same H' (upd H' T (.tup [p, q])) := same_new hT
          exact ⟨sn, .tup [d1, d2], by unfold zipD; rw [List.getElem?_map, show (xs.zip ys)[i]? = some (d1, d2) from List.getElem?_zip_eq_some.mpr ⟨e1, e2⟩]; rfl, dx_new_t m hT (.cons (k1.mono s) (.cons (k2.mono s) .nil))⟩
end

/-! ### facts of classes and of their defs -/
/-- what is looked up of a class of instances: fl no attributes of it -/
def clq (K : PySem.W.Frag) (C : Addr) (fl : List Str) : Bool :=
  PySem.W.plainGet K C Str.empty && (PySem.W.hasDictIn K C && (PySem.W.plainOver K C && (PySem.W.findIn K (.ref C) "__setattr__" == some (some (.builtin "object.__setattr__")) && (PySem.W.findIn K (.ref C) "__class__" == some (some (.builtin "object.__class__"))
    && (PySem.W.mroIn K C (.type "object") == some true && (PySem.W.keepIn K (.ref C) && (PySem.W.makesIn K C && fl.all fun f => PySem.W.findIn K (.ref C) f == some none)))))))
structure Inst (K : PySem.W.Frag) (C : Addr) (fl : List Str) : Prop where
  c : Cls K C
  i : IsiC K C
  kp : PySem.W.keepIn K (.ref C) = true
  makes : PySem.W.makesIn K C = true
  no : ∀ f ∈ fl, NoAttr K C f
theorem inst_mk {K : PySem.W.Frag} {C : Addr} {fl : List Str} (b : clq K C fl = true) (gq : glq K = true) : Inst K C fl := by
  unfold clq at b
  simp only [Bool.and_eq_true] at b
  obtain ⟨b1, b2, b3, b4, b5, b6, b7, b8, b9⟩ := b
  unfold glq at gq
  simp only [Bool.and_eq_true] at gq
  have c : Cls K C := ⟨b1, b2, b3, beq_some b4⟩
  exact ⟨c, ⟨c, beq_some b5, beq_some gq.1, beq_some gq.2, beq_some b6⟩, b7, b8, fun f hf => beq_some (List.all_eq_true.mp b9 f hf)⟩
/-- a def found by a name in a class -/
inductive MFac (K : PySem.W.Frag) (C : Addr) (m qual : Str) (st : Stmt) (dvs : List V) (kws : List (Str × V)) : Prop
  | mk {f : Addr} {od an : Option Addr} {sl : Array (Option Value)} {oc dV kV dc pm cd ct : Value} (i : PySem.W.findIn K (.ref C) m = some (some (.ref f)))
      (l : K.lookup f = some ⟨oc, od, .func (PySem.W.fnOf m qual (defArgs st) (defBody st) (defScope st) dV kV dc pm an cd ct), sl⟩) (c : PySem.W.codeIn K cd qual = true) (ty : PySem.W.isFn K (.ref f) = true) (d : DflV K dV dvs) (k : KwdV K kV kws) : MFac K C m qual st dvs kws
section
variable {K : PySem.W.Frag} {C : Addr} {N : List Str} {W : List Dt → (List Str → List Dt → Prop) → Prop} {vs : List V} {H : Hp} {Q : VK} {E : XK} {tq : TS}
/-- an __init__ that stores its fields and does nothing else -/
theorem read_I0 (h : spMk K C W vs H Q E) (hl : vs.length ≤ N.length) (b : ∀ self ds Φ, ds.length + 1 = vs.length → W ds Φ → Fs K C tq (.dat (.cls self) :: slots ds (N.length - (ds.length + 1))) [] [] Φ) :
    tq { nx := fun _ H' => Q .non H', rt := Q } (L2.start N vs) H := read_I (tp := tNext) (tq := tq) h hl fun self ds Φ e w => ws_next ⟨rfl, b self ds Φ e w⟩
end
theorem pe_fldK {X : Cx} {e : Expr} {ta : TE} {f : Str} {pos : Pos} (K : PySem.W.Frag) (h : X.K = K) (he : PE X e ta) (hb : attributeBase e f X.env (eval e X.env) = eval e X.env := by rfl) : PE X (.Attribute e f pos) (tFld K ta f) := by
  subst h
  exact pe_fld he hb
section
variable {K : PySem.W.Frag} {pf : Bool} {ρ : List Sl} {te : TE} {tt : TT} {j : Nat} {Φ : List Dt → List Sl → Prop}
/-- a comprehension that filters and maps, whatever is walked -/
theorem lcI_fm (b : Dt → Bool) (f : Dt → Dt) {ds : List Dt} (e : ρ[j]? = some .any) (hz : ds.length ≤ 50000) (ht : ∀ d ∈ ds, Wt K pf tt (ρ.set j (.dat d)) fun c ρ2 => c = b d ∧ ρ2 = ρ.set j (.dat d))
    (he : ∀ d ∈ ds, b d = true → Wp K pf te (ρ.set j (.dat d)) fun y ρ3 => y = f d ∧ ρ3 = ρ.set j (.dat d)) (z : Φ ((ds.filter b).map f) ρ) : LcI K pf (gName j) [j] tt te [j] Φ ds ρ := by
  have w0 : wipeS ρ [j] = ρ := by
    show ρ.set j .any = ρ
    have := set_any (s := .any) e
    rw [List.set_set] at this
    exact this
  have w1 : ∀ d, wipeS (ρ.set j (.dat d)) [j] = ρ := fun d => set_any e
  refine ⟨⟨fun i acc ρ2 => ρ2 = ρ ∧ acc = ((ds.take i).filter b).map f, ⟨w0, rfl⟩, hz, fun i d acc ρ2 hd ⟨e2, ea⟩ => ?_, fun acc ρ2 ⟨e2, ea⟩ => by subst e2 ea; rw [List.take_length]; exact z⟩⟩
  subst e2 ea
  have hm := List.mem_of_getElem? hd
  have tk : ds.take (i + 1) = ds.take i ++ [d] := by rw [List.take_add_one, hd]; rfl
  refine wg_name ((ht d hm).imp fun c ρ4 ⟨ec, e4⟩ => ?_)
  subst e4
  cases c with
  | true =>
    rw [if_pos rfl]
    refine (he d hm ec.symm).imp fun y ρ5 ⟨ey, e5⟩ => ?_
    subst e5 ey
    refine ⟨w1 d, ?_⟩
    rw [tk, List.filter_append, List.map_append, show List.filter b [d] = [d] from by rw [List.filter_cons, if_pos ec.symm]; rfl]
    rfl
  | false =>
    rw [if_neg Bool.false_ne_true]
    refine ⟨w1 d, ?_⟩
    rw [tk, List.filter_append, List.map_append, show List.filter b [d] = [] from by rw [List.filter_cons, if_neg (by rw [← ec]; exact Bool.false_ne_true)]; rfl]
    simp
theorem lcI_m (f : Dt → Dt) {ds : List Dt} (e : ρ[j]? = some .any) (hz : ds.length ≤ 50000) (he : ∀ d ∈ ds, Wp K pf te (ρ.set j (.dat d)) fun y ρ3 => y = f d ∧ ρ3 = ρ.set j (.dat d)) (z : Φ (ds.map f) ρ) : LcI K pf (gName j) [j] tYes te [j] Φ ds ρ :=
  lcI_fm (fun _ => true) f e hz (fun d _ => wt_yes ⟨rfl, rfl⟩) (fun d hd _ => he d hd) (by rw [show ds.filter (fun _ => true) = ds from List.filter_eq_self.mpr fun _ _ => rfl]; exact z)
theorem cutD_from {ds : List Dt} (k : Nat) : cutD ds (some (k : Int)) none = ds.drop k := by
  unfold cutD
  rw [HT.sIx_none, HT.sIx_nat]
  by_cases c : k ≤ ds.length
  · rw [Nat.min_eq_left c, List.take_of_length_le (by rw [List.length_drop]; exact Nat.le_refl _)]
  · rw [Nat.min_eq_right (by omega), List.drop_eq_nil_of_le (Nat.le_refl _), List.drop_eq_nil_of_le (by omega), List.take_nil]
end
end DL

set_option maxHeartbeats 2000000
/-! try with several clauses «except X as n» (one name for all): each exception stays known behind its suite; what a suite may ask of the exception that it holds. -/
namespace DL
open PySem PySem.Spec PyProof.Rows L2
variable [Tb]
/-- isinstance(n, c) in the suite that holds the exception a -/
def rIsS (K : PySem.W.Frag) (a : Addr) (cls : Value) (d : Option Addr) : List V → Hp → VK → Prop := fun xs H Q => ∃ (C dd : Addr) (fs : List (Str × V)) (c : V) (cv : Value) (b : Bool), xs = [.ref a, c] ∧ cls = .ref C ∧ d = some dd ∧ H dd = some (.xd fs) ∧ IsxC K C ∧ (∀ u, RelV c u → u = cv) ∧ PySem.W.kitOne K (.ref C) cv = some b ∧ Q (.bl b) H
theorem call_isS {X : Cx} {a : Addr} {oe : Obj} {cls : Value} {d : Option Addr} {pn : List (Addr × Obj)} (hz : Zc cls d oe) (hf : ∃ vs, oe.data = .fields vs) : CallR (X.suite a ((a, oe) :: pn)) (.builtin "isinstance") (rIsS X.K a cls d) := by
  intro pins s σ H xs us Q I r h
  obtain ⟨C, dd, fs, c, cv, b, rfl, rfl, rfl, hd, T, hcv, e, q⟩ := h
  obtain ⟨u1, u2, rfl, r1, r2⟩ := vals2 r
  obtain rfl : u1 = Value.ref a := r1
  obtain rfl := hcv _ r2
  obtain ⟨hget, _⟩ := I.pin (a, oe) (List.mem_append.mpr (.inl List.mem_cons_self))
  obtain ⟨vs, hv⟩ := hf
  obtain ⟨mA, n1, n2⟩ := (show ObjOk X.prog X.w H s.heap dd (.xd fs) from I.hok dd _ hd)
  obtain ⟨od, o1, o2⟩ := lookIn_ns n1
  have J : PySem.W.InstAt s.heap a oe C (some od) := ⟨hget, hz.1, by unfold PySem.W.notCls; rw [hv] <;> rfl, by rw [hz.2]; exact o1⟩
  exact PySem.W.kia_one (PySem.W.kitx_exc (cls_some T.hd) T.hg T.hk T.hs T.ha T.hn T.ht T.hm) I.kIn J e (fun z => nomatch z) fun tk => ⟨.bl b, H, I.tok tk, rfl, q⟩
end DL

set_option maxHeartbeats 2000000
/-! A lambda handed to a def that calls it within a try: what is raised is told by the slots of that def; the data level of it. -/
namespace DL
open PySem PySem.Spec PyProof.Rows L2 LamX
variable [Tb]
/-- the table at P, of whose code objects R holds -/
def TabR (R : Addr → Prop) (H : Hp) (P : Addr) (q : Str) : Prop := ∃ ps : Array Value, H P = some (.tbl ps) ∧ PySem.TriplesOk ps.toList ∧ ∀ (pos : Pos) (cv : Value), codeAmong pos ps.toList = some cv → ∃ c, cv = .ref c ∧ H c = some (CodeO c q) ∧ R c
def TabsR (T : List (Addr × Str)) (R : Addr → Prop) (H : Hp) : Prop := ∀ p ∈ T, TabR R H p.1 p.2
/-- only the tables' own objects may be others -/
def KeepT (T : List (Addr × Str)) (H H1 : Hp) : Prop := ∀ b o, H b = some o → (∀ p ∈ T, p.1 ≠ b) → H1 b = some o
theorem upd_gone {H : Hp} {a b : Addr} {o : HO} (e : upd H a o b = none) : H b = none := by
  by_cases c : b = a
  · rw [c, upd_same] at e; cases e
  · rw [upd_ne c] at e; exact e
/-- the tables, when one of them has a code object more -/
theorem TabsR.grow {T : List (Addr × Str)} {R : Addr → Prop} {H : Hp} {P c : Addr} {q : Str} {ps : Array Value} {pos : Pos} (h : TabsR T R H) (one : ∀ p ∈ T, p.1 = P → p.2 = q) (hP : (P, q) ∈ T) (at_ : H P = some (.tbl ps)) (nc : H c = none) (r : R c) :
    TabsR T R (upd (upd H P (.tbl (ps ++ #[rawInt pos.line, rawInt pos.col, .ref c]))) c (CodeO c q)) := by
  have cP : P ≠ c := fun e => by rw [e, nc] at at_; cases at_
  have keep : ∀ b q', H b = some (CodeO b q') → upd (upd H P (.tbl (ps ++ #[rawInt pos.line, rawInt pos.col, .ref c]))) c (CodeO c q) b = some (CodeO b q') := fun b q' e => by
    rw [upd_ne (ne_of_none e nc), upd_ne fun n => by rw [n, at_] at e; exact codeO_ne ps (Option.some.inj e).symm, e]
  rintro ⟨p, q'⟩ m
  obtain ⟨qs, b1, b2, b3⟩ := h _ m
  have old : ∀ p' cv, codeAmong p' qs.toList = some cv → ∃ c0, cv = .ref c0 ∧ upd (upd H P (.tbl (ps ++ #[rawInt pos.line, rawInt pos.col, .ref c]))) c (CodeO c q) c0 = some (CodeO c0 q') ∧ R c0 := fun p' cv z =>
    (b3 p' cv z).elim fun c0 ⟨e, e2, e3⟩ => ⟨c0, e, keep c0 q' e2, e3⟩
  by_cases e : p = P
  · subst e
    obtain rfl : q' = q := one _ m rfl
    obtain rfl : qs = ps := by
      have := b1.symm.trans at_
      injection this with this
      injection this
    have l : (qs ++ #[rawInt pos.line, rawInt pos.col, .ref c]).toList = qs.toList ++ [rawInt pos.line, rawInt pos.col, .ref c] := by simp
    refine ⟨_, by rw [upd_ne cP, upd_same], l ▸ PySem.TriplesOk_snoc _ _ _ _ b2, fun p' cv z => ?_⟩
    rw [l] at z
    rcases among_app _ b2 z with z | rfl
    · exact old p' cv z
    · exact ⟨c, rfl, upd_same, r⟩
  · have b1 : H p = some (.tbl qs) := b1
    exact ⟨qs, by rw [upd_ne (ne_of_none b1 nc), upd_ne e]; exact b1, b2, old⟩
section
variable {X : Cx} {pins : List (Addr × Obj)} {σ : L2.St} {H : Hp} {s : Shared}
theorem new_off (I : Inv X pins σ H s) {f : Addr} (hf : s.heap.objs.size ≤ f) : f ∉ frs X.stack := fun z =>
  (List.mem_cons.mp (I.stkSub _ z)).elim (fun e => Nat.lt_irrefl _ (Nat.lt_of_lt_of_le (e ▸ I.lt) hf)) (I.nofs hf)
/-- a lambda is made: what of the heap is kept, and what of the tables -/
theorem lam_kept {T : List (Addr × Str)} {R : Addr → Prop} {c P : Addr} {pl : Arguments} {body : Expr} {scope : Scope} {pos : Pos} {E : Value → Shared → Prop} {Q : Value → Shared → Prop} (I : Inv X pins σ H s) (TB : TabB X.base X.mg c P) (code : X.env.code = .ref c)
    (inT : (P, X.env.qual ++ "<lambda>") ∈ T) (one : ∀ p ∈ T, p.1 = P → p.2 = X.env.qual ++ "<lambda>") (hT : TabsR T R H) (hR : ∀ c, H c = none → R c) (nodef : defaultsOf pl X.env = ([], [])) (fr : ∀ y ∈ scope.names, y.2 = .free → ∃ c, X.env.cells.lookup y.1 = some c)
    (h : ∀ (f c' : Addr) (pm ctv : Value) (H1 : Hp) (s' : Shared), Inv X pins σ H1 s' → KeepT T H H1 → (∀ b, H1 b = none → H b = none) → TabsR T R H1 →
      s'.heap.get? f = some (PySem.W.kla_obj "<lambda>" (X.env.qual ++ "<lambda>") pl body scope (cloFrom X.env.cells scope.names []) pm c' ctv) → H1 f = none → f ∉ frs X.stack → H1 c' = some (CodeO c' (X.env.qual ++ "<lambda>")) → Q (.ref f) s') :
    wpAny (model X.prog X.w) X.A (eval (.Lambda pl body scope pos) X.env) Q E s := by
  obtain ⟨ps, atP, tri, among⟩ := hT _ inT
  have bt := TB.bm.keeps I.bk
  have objP : s.heap.get? P = some { cls := .none, data := .fields ps } := I.hok P _ atP
  refine PySem.W.kla_eval nodef ?_
  cases hc : codeAmong pos ps.toList with
  | some cv =>
    obtain ⟨c', rfl, hco, _⟩ := among pos cv hc
    refine PySem.W.kla_makeFunctionHit (mg := X.mg) (c := c) (P := P) (ps := ps) (closure_ok fr) I.ok.glob (I.mod.glob.keeps I.bk) code (TB.code.keeps I.bk) objP tri hc bt fun ctv h' tk kept ge => ?_
    exact h h'.objs.size c' _ ctv H _ (I.kept fun b o e => Heap.get?_push_of_some _ (kept b o e)) (fun _ _ e _ => e) (fun _ e => e) hT (Heap.get?_push_size _ rfl) (I.hok.fresh ge) (new_off I ge) hco
  | none =>
    refine PySem.W.kla_makeFunction (mg := X.mg) (c := c) (P := P) (ps := ps) (closure_ok fr) I.ok.glob (I.mod.glob.keeps I.bk) code (TB.code.keeps I.bk) objP tri hc TB.gP bt fun c' ctv h' tk kept ge lt laid tab => ?_
    obtain ⟨_, oc, vs, t, e, hoc, hd, hv⟩ := laid
    cases e
    have le : s.heap.objs.size ≤ h'.objs.size := Nat.le_of_lt (Nat.lt_of_le_of_lt ge lt)
    have nc : H c' = none := I.hok.fresh ge
    have G := hT.grow (pos := pos) one inT atP nc (hR _ nc)
    have new : upd (upd H P (.tbl (ps ++ #[rawInt pos.line, rawInt pos.col, .ref c']))) c' (CodeO c' (X.env.qual ++ "<lambda>")) h'.objs.size = none := by
      rw [upd_ne (Nat.ne_of_gt lt), upd_ne fun e => Nat.not_lt.mpr le (by rw [e]; exact Heap.lt_size objP)]
      exact I.hok.fresh le
    refine h h'.objs.size c' _ ctv _ _ (inv_table (t' := tk) I atP (fun b o hb e => Heap.get?_push_of_some _ (kept b o hb e)) (Heap.get?_push_of_some _ tab) ge ⟨oc, vs, t, Heap.get?_push_of_some _ hoc, hd, hv⟩) ?_ (fun b e => upd_gone (upd_gone e)) G (Heap.get?_push_size _ rfl) new (new_off I le) upd_same
    exact fun b o e n => by rw [upd_ne (ne_of_none e nc), upd_ne (Ne.symm (n _ inT))]; exact e
/-- ask(), in the def that got the lambda -/
theorem pe_ask {CXg : CXT} {Eg : XK} {Ng : List Str} {qg a : Str} {sg scope : Scope} {g f c' : Addr} {cdg pm ctv : Value} {pl : Arguments} {body : Expr} {k i : Nat} {pn : List (Addr × Obj)} {xe : Value → Shared → Prop} {W : WX} {t : XK → TE} {p1 p2 : Pos}
    (I : Inv X pins σ H s) (L : LamS X.env.scope scope)
    (fo0 : s.heap.get? f = some (PySem.W.kla_obj "<lambda>" (X.env.qual ++ "<lambda>") pl body scope (cloFrom X.env.cells scope.names []) pm c' ctv)) (n1 : H f = none) (n2 : f ∉ frs X.stack)
    (bd : bindArgs (PySem.W.kla_fn "<lambda>" (X.env.qual ++ "<lambda>") pl body scope (cloFrom X.env.cells scope.names []) pm (.ref c') ctv) ⟨[], []⟩ = pure [])
    (tk : Takes ((cxOf CXg X.prog X.w X.K X.mg X.base Ng qg sg g cdg X.A X.stack s H Eg).tr pn xe) W) (room : Room (k + 1) (X.A.deeper (envOfC qg sg s.heap.objs.size g cdg)))
    (hb : ∀ (E : XK) (A : Around) (outer : List Env) (s : Shared) (H : Hp), Room k (A.deeper (lamEnv X scope s.heap.objs.size f c')) → PE (lamCx X A outer s H E scope f c') body (t E))
    (hN : Ng[i]? = some a) (hv : Vis sg a) (hd : (a == ("__debug__" : Str)) = false) (hcd : (a == ("__classdict__" : Str)) = false) :
    PE ((cxOf CXg X.prog X.w X.K X.mg X.base Ng qg sg g cdg X.A X.stack s H Eg).tr pn xe) (.Call (.Name a p1) [] [] p2)
      (fun τ G Q => (τ[i]? = some (some (.ref f)) ∧ G c' = some (CodeO c' (X.env.qual ++ "<lambda>"))) ∧ t (WE W τ) σ G Q) := by
  constructor
  rintro pz sz τ G Q J ⟨⟨e1, e2⟩, e3⟩
  have nm := (pe_var (pos := p1) (i := i) hN hv hd hcd).run pz sz τ G (fun v G1 => v = .ref f ∧ G1 = G) J ⟨.ref f, e1, rfl, rfl⟩
  refine wpAny_Call_Name_kw (thn nm ?_)
  rintro u s1 ⟨v, G1, J1, rv, rfl, eG⟩
  rw [eG] at J1
  obtain rfl : u = Value.ref f := rv
  have fo := J1.base.keep f _ fo0 n1 n2 fun z => nomatch (show f ∈ ([] : List Addr) from z)
  refine PySem.W.callWith_F0 ⟨_, _, _, _, fo⟩ ?_
  obtain ⟨⟨oc, us, tn, o1, o2, o3⟩, _, _⟩ := J1.hok c' _ e2
  have ran : codeAny (model X.prog X.w) (X.A.deeper (envOfC qg sg s.heap.objs.size g cdg)) (.call (.ref f) ⟨[], []⟩)
      (CR (L2.CX X.prog X.w) (envOfC qg sg s.heap.objs.size g cdg :: X.stack) X.prog X.w G s1 Q (WE W τ)) s1 := by
    refine PySem.W.kla_callFunE room.depth fo rfl L.co L.gen rfl ⟨c', oc, us, tn, rfl, o1, o2, o3⟩ ?_
    rw [bd]
    refine wpAny_pure (wpAny_newFunctionEnv (fun y hy => (L.own y hy).2) (fun y hy => absurd hy (by simp)) (fun h1 ns1 sb => ⟨J1.nolimit.fresh _ sb, ?_⟩) L.kind)
    have kp : ∀ b o, s1.heap.get? b = some o → h1.get? b = some o := fun b o e =>
      sb.extBut b o (Nat.ne_of_lt (Heap.lt_size e)) (Heap.get?_push_of_some _ e)
    have J2 : Inv (lamCx X (X.A.deeper (envOfC qg sg s.heap.objs.size g cdg)) (envOfC qg sg s.heap.objs.size g cdg :: X.stack) s1 G (WE W τ) scope f c') [] σ G { s1 with heap := h1, toks := s1.toks + ([] : List (Str × Value)).length } :=
      lam_start2 I L J1.env0 room.hd J1.base ns1 kp
    refine PySem.W.kla_codeExpr (wpAny_mono ((hb (WE W τ) _ _ s1 G (room.deeper _)).run [] _ _ G Q J2 e3) ?_ fun _ _ q => q)
    rintro v s' ⟨w', H', J3, r3, q3⟩
    exact ⟨w', H', J3.os, J3.bare, J3.base, J3.hok, r3, q3⟩
  have px := passAt tk τ
  refine wpAny_call (codeAny_mono ran ?_)
  rintro (e | fl) s' out
  · exact px pz _ _ e s' J1 out
  cases fl with
  | ret u => exact J1.after out
  | _ => exact out.elim
end
/-- the def that asks: what it makes of the lambda's reading -/
def Asks (X : Cx) (Ng : List Str) (x : Str) (sg : Scope) (g : Addr) (cdg : Value) (bg : List Stmt) (a q : Str) (TT : (XK → Hp → VK → Prop) → Hp → VK → Prop) : Prop :=
  ∀ (f c' : Addr) (s : Shared) (H : Hp) (Q : VK) (tl : XK → Hp → VK → Prop),
    (∀ (W : WX) (pn : List (Addr × Obj)) (xe : Value → Shared → Prop) (p1 p2 : Pos), Takes ((cxOf C8.CX0 X.prog X.w X.K X.mg X.base Ng x sg g cdg X.A X.stack s H C8.E0).tr pn xe) W →
      PE ((cxOf C8.CX0 X.prog X.w X.K X.mg X.base Ng x sg g cdg X.A X.stack s H C8.E0).tr pn xe) (.Call (.Name a p1) [] [] p2) (fun τ G Q => (τ[0]? = some (some (.ref f)) ∧ G c' = some (CodeO c' q)) ∧ tl (WE W τ) G Q)) →
    H c' = some (CodeO c' q) → TT tl H Q →
    ∃ t, PSs (cxOf C8.CX0 X.prog X.w X.K X.mg X.base Ng x sg g cdg X.A X.stack s H C8.E0).nox bg t ∧ t { nx := fun _ H' => Q .non H', rt := Q } (L2.start Ng [.ref f]) H
def tLamR (T : List (Addr × Str)) (TT : (XK → Hp → VK → Prop) → Hp → VK → Prop) (t : XK → TE) : TE := fun σ H Q => ∃ R : Addr → Prop, (∀ c, H c = none → R c) ∧ TabsR T R H ∧
  ∀ H1, KeepT T H H1 → (∀ b, H1 b = none → H b = none) → TabsR T R H1 → TT (fun E H' Q' => t E σ H' Q') H1 Q
section
variable {X : Cx}
/-- x(lambda: body) -/
theorem pe_asked {T : List (Addr × Str)} {TT : (XK → Hp → VK → Prop) → Hp → VK → Prop} {x a : Str} {g c P : Addr} {k : Nat} {pg pl : Arguments} {bg : List Stmt} {sg scope : Scope} {dV kV doc pm cdv ct oc : Value} {an od : Option Addr} {osl : Array (Option Value)} {Ng : List Str}
    {body : Expr} {t : XK → TE} {p lpos pos : Pos} (gl : Gl X x) (at_ : X.mg x = some (.ref g)) (kp : PySem.W.keepIn X.K (.ref g) = true)
    (lk : X.K.lookup g = some ⟨oc, od, .func (PySem.W.fnOf x x pg bg sg dV kV doc pm an cdv ct), osl⟩) (cin : PySem.W.codeIn X.K cdv x = true) (bd : L2.Binds X.K (PySem.W.fnOf x x pg bg sg dV kV doc pm an cdv ct) [a] []) (S : FnScope Ng [a] sg) (h0 : Ng[0]? = some a) (hva : Vis sg a)
    (asks : Asks X Ng x sg g cdv bg a (X.env.qual ++ "<lambda>") TT)
    (TB : TabB X.base X.mg c P) (code : X.env.code = .ref c) (inT : (P, X.env.qual ++ "<lambda>") ∈ T) (one : ∀ q ∈ T, q.1 = P → q.2 = X.env.qual ++ "<lambda>") (room : Room (k + 2) X.A) (L : LamS X.env.scope scope) (nodef : defaultsOf pl X.env = ([], []))
    (lbd : ∀ (q : Str) (cl : List (Str × Addr)) (pm cv ctv : Value), bindArgs (PySem.W.kla_fn "<lambda>" q pl body scope cl pm cv ctv) ⟨[], []⟩ = pure [])
    (hb : ∀ (A : Around) (outer : List Env) (s : Shared) (H : Hp) (E : XK) (f c' : Addr), Room k (A.deeper (lamEnv X scope s.heap.objs.size f c')) → PE (lamCx X A outer s H E scope f c') body (t E))
    (nd : (x == ("__debug__" : Str)) = false) (hd : (a == ("__debug__" : Str)) = false) (hcd : (a == ("__classdict__" : Str)) = false) :
    PE X (.Call (.Name x p) [.Lambda pl body scope lpos] [] pos) (tLamR T TT t) := by
  constructor
  rintro pins s σ H Q I ⟨R, hR, hT, told⟩
  refine wpAny_Call_Name_kw (ld_glob I gl at_ (PySem.W.callWith_K (h₀ := X.base) I.ok.mod.kin kp (Calls.spliced_cons (x := eval (.Lambda pl body scope lpos) X.env) (rest := []) (lam_kept I TB code inT one hT hR nodef (L.has I.ok) ?_)) (by rfl) (by rfl)) nd)
  intro f c' pm1 ctv G s1 I1 kT nG T1 fo n1 n2 co
  refine Calls.spliced_nil ⟨I1.kIn, ?_⟩
  have ran : codeAny (model X.prog X.w) X.A (.call (.ref g) ⟨[.ref f], []⟩) (CR C8.CX0 X.stack X.prog X.w G s1 Q C8.E0) s1 := by
    refine run_ofS (N := Ng) (ps := [a]) (us := [.ref f]) (vs := [.ref f]) lk cin S room I1.env0 (bd s1 [.ref f] I1.kIn rfl) (.cons rfl .nil) rfl fun room' => ?_
    obtain ⟨t', z1, z2⟩ := asks f c' s1 G Q (fun E G' Q' => t E σ G' Q') (fun W pn xe p1 p2 tk => pe_ask (i := 0) I1 L fo n1 n2 (lbd _ _ _ _ _) tk room' (fun E A outer s H r2 => hb A outer s H E f c' r2) h0 hva hd hcd) co (told G kT nG T1)
    exact ⟨t', z1.nox, z2⟩
  refine wpAny_call (codeAny_mono ran ?_)
  rintro (e | fl) s2 out
  · exact False.elim out
  cases fl with
  | ret u => exact I1.after out
  | _ => exact out.elim
end
end DL
namespace DL
open PySem PySem.Spec PyProof.Rows L2 LamX
variable [Tb]
/-- what the def that asks makes of an exception with these fields: a datum of Φ -/
def HearsH (K : PySem.W.Frag) (hear : Addr → List Str → List Dt → (Dt → Prop) → Prop) (C dd : Addr) (H2 : Hp) (Q : VK) : Prop := ∃ (M : Md) (ns : List Str) (us : List V) (es : List Dt) (Φ : Dt → Prop), MOk M H2 ∧ H2 dd = some (.xd (ns.zip us)) ∧ ns.length = us.length ∧ ¬ M.has dd ∧ DXs K (cut M H2) us es ∧ hear C ns es Φ ∧
  ∀ v H3 d, Same H2 H3 → DX K (cut M H3) v d → Φ d → Q v H3
def TTd (K : PySem.W.Frag) (hear : Addr → List Str → List Dt → (Dt → Prop) → Prop) : (XK → Hp → VK → Prop) → Hp → VK → Prop := fun tl H Q => ∀ E : XK, (∀ C dd H2, HearsH K hear C dd H2 Q → E (.ref C) (some dd) H2) → tl E H Q
/-- the lambda's body: it returns, or it raises and has changed nothing -/
def WL (K : PySem.W.Frag) (t : XK → TE) (ρ : List Sl) (Φ : Dt → List Sl → Prop) (Ξ : Addr → List Str → List Dt → Prop) : Prop := ∀ (M : Md) (σ : L2.St) (H : Hp), Sd K M H σ ρ → ∀ (E : XK) (Q : VK),
  (∀ v H2 d ρ', Tr false M H H2 → Sd K M H2 σ ρ' → DX K (cut M H2) v d → Φ d ρ' → Q v H2) →
  (∀ H2 C dd ns us es, Same H H2 → H2 dd = some (.xd (ns.zip us)) → ns.length = us.length → ¬ M.has dd → DXs K (cut M H2) us es → Ξ C ns es → E (.ref C) (some dd) H2) → t E σ H Q
section
variable {K : PySem.W.Frag} {ρ : List Sl} {t : XK → TE} {Φ : Dt → List Sl → Prop} {hear : Addr → List Str → List Dt → (Dt → Prop) → Prop} {i n : Nat}
theorem Sd.kept' {M : Md} {H H1 : Hp} {σ : L2.St} (S : Sd K M H σ ρ) (hts : M.ts = Tb.T) (k : KeepT Tb.T H H1) (g : ∀ b, H1 b = none → H b = none) (tb : TabsM M H1) : Sd K M H1 σ ρ ∧ Tr false M H H1 := by
  have inP : ∀ {q : Addr × Str}, q ∈ Tb.T → M.inP q.1 := fun hq => .inr ⟨_, by rw [hts]; exact hq, rfl⟩
  have kp : ∀ b o, H b = some o → ¬ M.inP b → H1 b = some o := fun b o e n => k b o e fun q hq z => n (z ▸ inP hq)
  have nt : ∀ {b : Addr} {o : HO}, H b = some o → (∀ ps, o ≠ .tbl ps) → H1 b = some o := fun {b o} e n => k b o e fun q hq z => by
    obtain ⟨ps, h1, _⟩ := S.mok.tb q (by rw [hts]; exact hq)
    rw [z, e] at h1
    exact n ps (Option.some.inj h1)
  have sc : Same (cut M H) (cut M H1) := fun a o e => by
    obtain ⟨c, z⟩ := cut_of e
    exact cut_at c (kp a o z fun y => c (.inl y))
  refine ⟨⟨S.len, S.olen, ⟨fun a h => ?_, S.mok.pF, S.mok.FO, S.mok.nd, tb⟩, fun j s h => ?_⟩, ⟨⟨rfl, rfl, fun a o z c d => ⟨kp a o z c, d⟩⟩, fun z => nomatch z⟩⟩
  · obtain ⟨o, z⟩ := S.mok.live a h
    cases e : H1 a with
    | none => rw [g a e] at z; cases z
    | some u => exact ⟨u, rfl⟩
  · obtain ⟨o, h1, h2⟩ := S.ok j s h
    refine ⟨o, h1, ?_⟩
    cases s with
    | any => trivial
    | dat d => obtain ⟨v, a1, a2⟩ := h2; exact ⟨v, a1, a2.mono sc⟩
    | val u d => obtain ⟨a1, a2⟩ := h2; exact ⟨a1, a2.mono sc⟩
    | own es => obtain ⟨l, ws, a1, a2, a3, a4⟩ := h2; exact ⟨l, ws, a1, a2, nt a3 (fun _ z => by cases z), a4.mono sc⟩
    | obj C0 b0 ns0 es => obtain ⟨l, dx0, ws, a1, a2, a3, a5, a4⟩ := h2; exact ⟨l, dx0, ws, a1, a2, nt a3 (fun _ z => by cases z), a5, a4.mono sc⟩
    | ownd es => obtain ⟨l, ws, a1, a2, a3, a4⟩ := h2; exact ⟨l, ws, a1, a2, nt a3 (fun _ z => by cases z), a4.mono sc⟩
    | pen m =>
      obtain ⟨p', a1, a2, l', ns, c, g', b1, b2, b3⟩ := h2
      exact ⟨p', a1, a2, l', ns, c, g', nt b1 (fun _ z => by cases z), sc.seq b2, b3⟩
    | pown es => obtain ⟨p', ws, a1, a2, a3, a4⟩ := h2; exact ⟨p', ws, a1, a2, nt a3 (fun _ z => by cases z), a4.mono sc⟩
theorem w_asked (e : ρ[i]? = some (.pen n)) (h : WL K t ρ Φ fun C ns es => hear C ns es fun d => Φ d ρ) : Wp K false (tLamR Tb.T (TTd K hear) t) ρ Φ := fun M σ H S Q q => by
  obtain ⟨o, _, p, rfl, hp, _⟩ := S.ok i _ e
  have hts : M.ts = Tb.T := Md.ts_some hp
  refine ⟨fun c => ¬ M.has c, fun c hc => S.mok.new hc, fun t ht => ?_, fun H1 k g T1 => ?_⟩
  · obtain ⟨ps, h1, h2, h3⟩ := S.mok.tb t (by rw [hts]; exact ht)
    refine ⟨ps, h1, h2, fun pos cv hc => ?_⟩
    obtain ⟨c, e1, e2⟩ := h3 pos cv hc
    exact ⟨c, e1, (cut_of e2).2, (cut_of e2).1⟩
  · have tb1 : TabsM M H1 := fun t ht => by
      obtain ⟨ps, h1, h2, h3⟩ := T1 t (by rw [← hts]; exact ht)
      refine ⟨ps, h1, h2, fun pos cv hc => ?_⟩
      obtain ⟨c, e1, e2, e3⟩ := h3 pos cv hc
      exact ⟨c, e1, cut_at e3 e2⟩
    obtain ⟨S1, tr1⟩ := S.kept' hts k g tb1
    intro E hE
    refine h M σ H1 S1 E Q (fun v H2 d ρ' s S2 x f => q v H2 d ρ' (tr1.trans s) S2 x f) fun H2 C dd ns us es sm e1 e2 nd xs z => ?_
    exact hE C dd H2 ⟨M, ns, us, es, _, S1.mok.same sm, e1, e2, nd, xs, z, fun v H3 d sm2 x f => q v H3 d ρ (tr1.trans (Tr.same false M (sm.trans sm2))) (S1.same (sm.trans sm2)) x f⟩
end
end DL

set_option maxHeartbeats 2000000
/-! A method with **parts that may raise, called; a class called by a dict that may raise; the same as a lambda's body. -/
namespace DL
open PySem PySem.Spec PyProof.Rows L2 StX PySem.W
variable [Tb]
section
variable {K : PySem.W.Frag} {pf : Bool} {ρ : List Sl} {ta te : TE} {tk : TA} {Φ : Dt → List Sl → Prop} {Ψ : Dt → Prop} {C : Addr} {m : Str} {E : XK} {ks : List Str} {xk : XK} {xd : Addr → List Str → List Dt → Prop}
theorem wx_makeDD {W : List Dt → (List Str → List Dt → Prop) → (Addr → List Str → List Dt → Prop) → Prop} {gV : List V → List V → List V} (hg : ∀ (x : Addr) (zs : List V), zs.length = ks.length → gV [.ref x] zs = .ref x :: zs) (hE : ∀ c d H, xk c d H → E c d H)
    (h : Wst K te ρ fun d => ∃ a fs, d = .dct a ((ks.map Sum.inr).zip fs) ∧ fs.length = ks.length ∧ W fs (fun ns gs => ∀ b, Φ (.ins C b ns gs) ρ) xd) : Wpx K (tMakeDD K C ks (spMkX K C W) gV E te) ρ Φ xk xd := fun M σ H S Q q qx d hd => by
  obtain ⟨v, d0, x0, ⟨a, fs, rfl, hl, w⟩, k⟩ := h M σ H S
  cases x0 with
  | @dct _ us _ r1 y1 =>
    obtain ⟨na, r1'⟩ := cut_Rd r1
    have ne1 : d ≠ a := fun e => by
      subst e
      rcases r1' with z | ⟨o, z⟩ <;> rw [hd] at z <;> cases z
    have sm : ∀ o, Same H (upd H d o) := fun o => same_new hd
    have up : ∀ o o', upd (upd H d o) d o' = upd H d o' := fun o o' => by
      funext y
      by_cases e : y = d
      · rw [e, upd_same, upd_same]
      · rw [upd_ne e, upd_ne e, upd_ne e]
    obtain ⟨zs, eu, xz, lz⟩ := dxk_unzip y1 (by rw [List.length_map]; exact hl)
    subst eu
    have lz : zs.length = ks.length := by rw [lz, List.length_map]
    refine k _ (sm _) _ ⟨a, zs, rfl, upd_same, ne1, lz, same_Rd (sm _) r1', fun x dx hx hdx ne => ?_⟩
    rw [up] at hx hdx ⊢
    rw [hg x zs lz]
    exact make_okX (S.same (sm _)) hx hdx ne (xz.mono (cut_same M (sm _))) hE w (fun v H3 d ρ' s S3 xd f => q v H3 d ρ' (Stp.same M ((sm _).trans s)) S3 xd f) fun H3 C' dd ns us es s e1 e2 nd e3 z => qx H3 C' dd ns us es (Stp.same M ((sm _).trans s)) e1 e2 nd e3 z
/-- the call, the exception's heap told to be the old one and new things -/
theorem w_methKwS {W : List Dt → (Dt → Prop) → (Addr → List Str → List Dt → Prop) → Prop} {M : Md} {σ : L2.St} {H : Hp} {Q : VK} (hE : ∀ c d H, xk c d H → E c d H)
    (h : Wp K true ta ρ fun d ρ1 => ∃ a ns es, d = .ins C a ns es ∧ m ∉ ns ∧ Wa K true tk ρ1 fun fs ρ2 => fs.length = ks.length ∧ ∀ p, W [.ins C a ns es, .dct p ((ks.map Sum.inr).zip fs)] (fun e => Φ e ρ2) xd) (S : Sd K M H σ ρ)
    (q : ∀ v H2 d ρ', Same H H2 → Sd K M H2 σ ρ' → DX K (cut M H2) v d → Φ d ρ' → Q v H2)
    (qx : ∀ H2 C dd ns us es, Same H H2 → H2 dd = some (.xd (ns.zip us)) → ns.length = us.length → ¬ M.has dd → DXs K (cut M H2) us es → xd C ns es → xk (.ref C) (some dd) H2) : tMethKw C m ks (spX K W) E ta tk σ H Q :=
  h M σ H S _ fun v H1 d ρ1 s1 S1 x1 ⟨a, ns, es, ed, hm, k⟩ => by
    subst ed
    obtain ⟨rfl, dx, us, hi, hl⟩ := ins_keep (H2 := H1) x1
    refine ⟨a, dx, _, rfl, hi, zip_look_none hm, k M σ H1 S1 _ fun zs H3 fs ρ2 s3 S3 x3 ⟨l2, w⟩ => ?_⟩
    have h2 : zs.length = ks.length := x3.len.trans l2
    refine ⟨h2, fun p hp => ?_⟩
    have ec : ∀ H', cut M.callP H' = cut M H' := cut_congr M.callP_has
    have sm : Same H3 (upd H3 p (.dK ((ks.map Sum.inr).zip zs))) := same_new hp
    have S4 := S3.same sm
    have all : Same H (upd H3 p (.dK ((ks.map Sum.inr).zip zs))) := ((s1.sm rfl).trans (s3.sm rfl)).trans sm
    refine ⟨M.callP, _, _, xd, rfl, rfl, S4.mok.callP, ?_, w p, fun v H4 e s x f => q v H4 e ρ2 (all.trans s) (S4.same s) (by rw [ec] at x; exact x) f, fun H4 C' dd ns' us' es' s e1 e2 nd xs z => ?_⟩
    · rw [ec]
      refine .cons (((x1.mono s3.dx)).mono (cut_same M sm)) (.cons (.dct (.inl (cut_at (S3.mok.new hp) upd_same)) ?_) .nil)
      exact dxk_zip (x3.mono (cut_same M sm)) (by rw [List.length_map]; exact h2)
    · rw [ec] at xs
      exact hE _ _ _ (qx H4 C' dd ns' us' es' (all.trans s) e1 e2 (fun y => nd ((M.callP_has dd).mpr y)) xs z)
/-- where it does not raise -/
theorem w_methKw0 {W : List Dt → (Dt → Prop) → (Addr → List Str → List Dt → Prop) → Prop}
    (h : Wp K true ta ρ fun d ρ1 => ∃ a ns es, d = .ins C a ns es ∧ m ∉ ns ∧ Wa K true tk ρ1 fun fs ρ2 => fs.length = ks.length ∧ ∀ p, W [.ins C a ns es, .dct p ((ks.map Sum.inr).zip fs)] (fun e => Φ e ρ2) fun _ _ _ => False) : Wp K pf (tMethKw C m ks (spX K W) E ta tk) ρ Φ := fun M σ H S Q q =>
  w_methKwS (xk := fun _ _ _ => False) (fun _ _ _ z => z.elim) h S (fun v H2 d ρ' s S2 x f => q v H2 d ρ' (Tr.same pf M s) S2 x f) fun _ _ _ _ _ _ _ _ _ _ _ z => z
/-- as a lambda's body -/
theorem wl_methKw {W : List Dt → (Dt → Prop) → (Addr → List Str → List Dt → Prop) → Prop}
    (h : Wp K true ta ρ fun d ρ1 => ∃ a ns es, d = .ins C a ns es ∧ m ∉ ns ∧ Wa K true tk ρ1 fun fs ρ2 => fs.length = ks.length ∧ ∀ p, W [.ins C a ns es, .dct p ((ks.map Sum.inr).zip fs)] (fun e => Φ e ρ2) xd) : WL K (fun E => tMethKw C m ks (spX K W) E ta tk) ρ Φ xd := fun M σ H S E Q q qx =>
  w_methKwS (xk := E) (fun _ _ _ z => z) h S (fun v H2 d ρ' s S2 x f => q v H2 d ρ' (Tr.same false M s) S2 x f) qx
end
end DL

/-! Data level: a dict is equal to itself. -/
namespace DL
open PySem PySem.Spec PyProof.Rows L2
variable [Tb]
def rEqDs : R2 := fun x y H Q => ∃ a ks, x = .ref a ∧ y = .ref a ∧ Rd H a (.dK ks) ∧ (ks.map (·.1)).Nodup ∧ (∀ p ∈ ks, flatB p.2 = true ∨ ∃ b, p.2 = .ref b) ∧ Q (.bl true) H
theorem op_eqDs {X : Cx} (hu : X.A.units + 64 < cLine) : OpR X (compareOp .Eq) rEqDs := by
  intro pins s σ H x y v u Q I rx ry h
  obtain ⟨a, ks, rfl, rfl, ha, nd, hp, q⟩ := h
  obtain rfl : v = Value.ref a := rx
  obtain rfl : u = Value.ref a := ry
  obtain ⟨_, ya, va, ra, da⟩ := (show ObjOk X.prog X.w H s.heap a (.dK ks) from ha.ok I.hok)
  refine PySem.W.rcP_dicts (knd := mixKind X.prog X.w) (r := true) ya ya da da (by omega) (fun _ => ?_) _ _ ?_
  · refine hits_run (F := fun x y => (x = y ∧ flatB x = true) ∨ ∃ b, x = .ref b ∧ y = .ref b) ?_ ra ra fun p hm => ⟨p.2, val_nodup nd p hm, ?_⟩
    · rintro x y v u (⟨rfl, f⟩ | ⟨b, rfl, rfl⟩) rx ry
      · exact (eqAt_same rx ry f).eqP
      · cases (show v = Value.ref b from rx)
        cases (show u = Value.ref b from ry)
        exact (SeqAt.EqAt.same _).eqP
    · rcases hp p hm with f | ⟨b, e⟩
      · exact .inl ⟨rfl, f⟩
      · exact .inr ⟨b, e, e⟩
  · rw [show (va.length == va.length && true) = true from by simp]
    exact ⟨.bl true, H, I, rfl, q⟩
section
variable {K : PySem.W.Frag} {Ψ : Dt → Prop}
theorem dx_flat {H : Hp} {v : V} {d : Dt} (hn : noTy d = true) (x : DX K H v d) : flatB v = true ∨ ∃ b, v = .ref b := by
  cases x with
  | ty _ => cases hn
  | _ => first | exact .inl rfl | exact .inr ⟨_, rfl⟩
theorem dxk_keys {H : Hp} : ∀ {vs : List (Key × V)} {ds : List (Key × Dt)}, DXk K H vs ds → vs.map (·.1) = ds.map (·.1)
  | _, [], h => by cases h; rfl
  | _, _ :: ds, h => by
    cases h with
    | cons h1 h2 => rw [List.map_cons, List.map_cons, dxk_keys h2]
theorem dxk_flat {H : Hp} : ∀ {vs : List (Key × V)} {ds : List (Key × Dt)}, DXk K H vs ds → (∀ p ∈ ds, noTy p.2 = true) → ∀ p ∈ vs, flatB p.2 = true ∨ ∃ b, p.2 = .ref b
  | _, [], h, _, p, hp => by cases h; cases hp
  | _, d :: ds, h, hn, p, hp => by
    cases h with
    | cons h1 h2 =>
      rcases List.mem_cons.mp hp with e | e
      · rw [e]; exact dx_flat (hn _ List.mem_cons_self) h1
      · exact dxk_flat h2 (fun q hq => hn q (List.mem_cons_of_mem _ hq)) p e
theorem od_eqDs {a : Addr} {kvs : List (Key × Dt)} (nd : (kvs.map (·.1)).Nodup) (hn : ∀ p ∈ kvs, noTy p.2 = true) (h : Ψ (.bl true)) : OD K rEqDs (.dct a kvs) (.dct a kvs) Ψ := fun M H x y m x1 x2 Q q => by
  cases x1 with
  | @dct _ us _ r1 y1 =>
    cases x2 with
    | @dct _ ws _ r2 y2 => exact ⟨a, us, rfl, rfl, (cut_Rd r1).2, by rw [dxk_keys y1]; exact nd, dxk_flat y1 hn, q _ H _ (Same.refl H) (.bl _) h⟩
theorem od_catA {ds es : List Dt} (hz : ds.length + es.length ≤ 100000) (h : Ψ (.tup (ds ++ es))) : OD K (rCatA K) (.tup ds) (.tup es) Ψ := fun M H u v m h1 h2 Q q => by
  cases h1 with
  | tup hs ha =>
    cases h2 with
    | tup ht hb =>
      refine ⟨_, _, _, _, rfl, rfl, same_T (cut_sub M H) hs, same_T (cut_sub M H) ht, by rw [ha.len, hb.len]; exact Nat.le_trans hz (by decide), fun e => ?_, fun _ e => ?_, fun _ _ p hp => q _ _ _ (same_new hp) (dx_new_t m hp (ha.append hb)) h⟩
      · subst e
        cases ds with
        | nil => exact q _ H _ (Same.refl H) (.tup ht hb) h
        | cons _ _ => cases ha
      · subst e
        cases es with
        | nil =>
          rw [List.append_nil] at h
          exact q _ H _ (Same.refl H) (.tup hs ha) h
        | cons _ _ => cases hb
theorem dxk_none {H : Hp} {k : Key} : ∀ {vs : List (Key × V)} {ds : List (Key × Dt)}, DXk K H vs ds → valD ds k = none → valV vs k = none
  | _, [], x, _ => by cases x; rfl
  | _, (k1, d1) :: ds, x, h => by
    cases x with
    | @cons _ v1 vs _ _ x1 x2 =>
      unfold valD at h
      unfold valV
      rw [List.find?_cons] at h ⊢
      cases c : decide (k1 = k) with
      | true => simp [c] at h
      | false =>
        have h : valD ds k = none := by unfold valD; simpa [c] using h
        have := dxk_none x2 h
        unfold valV at this
        simpa [c] using this
theorem wd_c {ρ : List Sl} {k : Str} {v : V} {d : Dt} {trs : List (TE × TE)} {kvs : List (Key × Dt)} (e : ∀ H, DX K H v d) (h : Wd K trs ρ kvs) : Wd K ((tC (.str k), tC v) :: trs) ρ ((.inr k, d) :: kvs) := fun M σ H S Q q =>
  h M σ H S _ fun ps x => q ((.inr k, v) :: ps) (.cons (e _) x)
theorem w_dget2 {pf : Bool} {ρ : List Sl} {td ty tx : TE} {Φ : Dt → List Sl → Prop} (h : Wp K pf td ρ fun d1 ρ1 => ∃ a kvs, d1 = .dct a kvs ∧ Wp K pf ty ρ1 fun d2 ρ2 => ∃ z, d2 = .str z ∧ Wp K pf tx ρ2 fun d3 ρ3 => Φ ((valD kvs (.inr z)).getD d3) ρ3) : Wp K pf (tDGet2 td ty tx) ρ Φ := fun M σ H S Q q =>
  h M σ H S _ fun v H1 d1 ρ1 s1 S1 x1 ⟨a, kvs, e, k⟩ => by
    subst e
    obtain ⟨rfl, us, r1, y1⟩ : v = .ref a ∧ ∃ us, Rd (cut M H1) a (.dK us) ∧ DXk K (cut M H1) us kvs := by
      cases x1 with
      | @dct _ us _ r1 y1 => exact ⟨rfl, us, r1, y1⟩
    refine ⟨a, rfl, .inl ⟨us, (cut_Rd r1).2⟩, k M σ H1 S1 _ fun y H2 d2 ρ2 s2 S2 x2 ⟨z, e, k2⟩ => ?_⟩
    subst e
    refine k2 M σ H2 S2 _ fun x H3 d3 ρ3 s3 S3 x3 f => ?_
    have xx := (DX.dct r1 y1).mono s2.dx |>.mono s3.dx
    obtain ⟨ws, r3, y3⟩ : ∃ ws, Rd (cut M H3) a (.dK ws) ∧ DXk K (cut M H3) ws kvs := by
      cases xx with
      | @dct _ ws _ r3 y3 => exact ⟨ws, r3, y3⟩
    refine ⟨_, .inl ⟨ws, .inr z, (cut_Rd r3).2, x2.str_eq, rfl⟩, q _ H3 _ ρ3 ((s1.trans s2).trans s3) S3 ?_ f⟩
    cases c : valD kvs (.inr z) with
    | none => rw [dxk_none y3 c]; exact x3
    | some e =>
      obtain ⟨v, e1, e2⟩ := y3.val c
      rw [e1]
      exact e2
end
end DL

set_option maxHeartbeats 1000000
/-! Data level: == of two dicts with the same keys, both answers; repr of an instance by its own __repr__. -/
namespace DL
open PySem PySem.Spec PyProof.Rows L2
variable [Tb]
def eqDD (kvs kws : List (Key × Dt)) : Bool := kvs.all fun p => match valD kws p.1 with
  | some e => PyData.eqv p.2.py e.py
  | none => false
def rEqDD (K : PySem.W.Frag) : R2 := fun x y H Q => ∃ a b kvs kws, DX K H x (.dct a kvs) ∧ DX K H y (.dct b kws) ∧ kvs.length = kws.length ∧ (∀ p ∈ kvs, layD p.2 = true) ∧ (∀ p ∈ kws, layD p.2 = true) ∧ (∀ p ∈ kvs, ∃ e, valD kws p.1 = some e) ∧ Q (.bl (eqDD kvs kws)) H
section
variable {X : Cx} {pins : List (Addr × Obj)} {σ : L2.St} {H : Hp} {s : Shared}
theorem valD_mem {kws : List (Key × Dt)} {k : Key} {e : Dt} (h : valD kws k = some e) : ∃ q ∈ kws, q.2 = e := by
  unfold valD at h
  cases c : kws.find? (fun q => decide (q.1 = k)) with
  | none => rw [c] at h; cases h
  | some q => rw [c] at h; exact ⟨q, List.mem_of_find?_eq_some c, Option.some.inj h⟩
theorem hits_lay (I : Inv X pins σ H s) {A : Around} (hu : A.units + 40 < cLine) {kws : List (Key × Dt)} {ws : List (Key × V)} {vb : List (Key × Value)} (y2 : DXk X.K H ws kws) (rb : KV ws vb) (lw : ∀ p ∈ kws, layD p.2 = true) :
    ∀ {kvs : List (Key × Dt)} {us : List (Key × V)} {va : List (Key × Value)}, DXk X.K H us kvs → KV us va → (∀ p ∈ kvs, layD p.2 = true) → (∀ p ∈ kvs, ∃ e, valD kws p.1 = some e) → PySem.W.KeqHitsP X.prog X.w A s vb va (eqDD kvs kws)
  | [], _, _, y, r, _, _ => by
    cases y
    unfold KV at r
    cases r
    exact .nil
  | (k, d) :: kvs, _, _, y, r, l, hv => by
    cases y with
    | @cons _ v us _ _ x1 x2 =>
      unfold KV at r
      cases r with
      | @cons p q ps qs h t =>
        obtain ⟨key, val⟩ := q
        obtain ⟨h1, h2⟩ := h
        have h1 : k = key := h1
        subst h1
        obtain ⟨e, he⟩ := hv _ (List.mem_cons_self ..)
        obtain ⟨u, e1, e2⟩ := y2.val he
        have rr : RelO (some u) (valueAt vb k) := by rw [← e1]; exact rb.val k
        obtain ⟨z, hz, rz⟩ := rr.some_of
        obtain ⟨q, hq, eq⟩ := valD_mem he
        have le : layD e = true := by rw [← eq]; exact lw q hq
        have ld := l _ (List.mem_cons_self ..)
        obtain ⟨d1, d2, d3⟩ := layD_of ld
        obtain ⟨f1, f2, f3⟩ := layD_of le
        obtain ⟨as, ra⟩ := Dp.reads I _ _ _ (x1.dp d1) h2
        obtain ⟨bs, rb'⟩ := Dp.reads I _ _ _ (e2.dp f1) rz
        have one : SeqAt.EqP X.prog X.w A s val z (PyData.eqv d.py e.py) := (SeqAt.eqAt_reads d.py e.py A s _ _ _ _ ra rb' d2 f2 (by have := Nat.min_le_left d.py.depth e.py.depth; omega)).eqP
        have ee : eqDD ((k, d) :: kvs) kws = (PyData.eqv d.py e.py && eqDD kvs kws) := by
          unfold eqDD
          rw [List.all_cons]
          have he' : valD kws k = some e := he
          simp only [he']
        rw [ee]
        exact .hit hz one (hits_lay I hu y2 rb lw x2 t (fun p hp => l p (List.mem_cons_of_mem _ hp)) fun p hp => hv p (List.mem_cons_of_mem _ hp))
theorem op_eqDD (hu : X.A.units + 64 < cLine) : OpR X (compareOp .Eq) (rEqDD X.K) := by
  intro pins s σ H x y v u Q I rx ry h
  obtain ⟨a, b, kvs, kws, x1, x2, hl, l1, l2, hv, q⟩ := h
  cases x1 with
  | @dct _ us _ r1 y1 =>
    cases x2 with
    | @dct _ ws _ r2 y2 =>
      obtain rfl : v = Value.ref a := rx
      obtain rfl : u = Value.ref b := ry
      obtain ⟨_, ya, va, ra, da⟩ := (show ObjOk X.prog X.w H s.heap a (.dK us) from r1.ok I.hok)
      obtain ⟨_, yb, vb, rb, db⟩ := (show ObjOk X.prog X.w H s.heap b (.dK ws) from r2.ok I.hok)
      refine PySem.W.rcP_dicts (knd := mixKind X.prog X.w) (r := eqDD kvs kws) ya yb da db (by omega) (fun _ => hits_lay I (by show X.A.units + 1 + 40 < cLine; omega) y2 rb l2 y1 ra l1 hv) _ _ ?_
      have lk : ∀ {zs : List (Key × V)} {ds : List (Key × Dt)}, DXk X.K H zs ds → zs.length = ds.length := fun h => by have := congrArg List.length (dxk_keys h); simpa using this
      have e : va.length = vb.length := by rw [← ra.length, ← rb.length, lk y1, lk y2]; exact hl
      rw [show (va.length == vb.length && eqDD kvs kws) = eqDD kvs kws from by rw [e]; simp]
      exact ⟨.bl _, H, I, rfl, q⟩
end
section
variable {K : PySem.W.Frag} {Ψ : Dt → Prop}
theorem od_eqDD {a b : Addr} {kvs kws : List (Key × Dt)} (hl : kvs.length = kws.length) (l1 : ∀ p ∈ kvs, layD p.2 = true) (l2 : ∀ p ∈ kws, layD p.2 = true) (hv : ∀ p ∈ kvs, ∃ e, valD kws p.1 = some e) (h : Ψ (.bl (eqDD kvs kws))) : OD K (rEqDD K) (.dct a kvs) (.dct b kws) Ψ := fun M H x y m x1 x2 Q q =>
  ⟨a, b, kvs, kws, x1.mono (cut_sub M H), x2.mono (cut_sub M H), hl, l1, l2, hv, q _ H _ (Same.refl H) (.bl _) h⟩
end
/-! ### repr by an own __repr__ -/
structure ReC (K : PySem.W.Frag) (C f : Addr) : Prop where
  re : PySem.W.findIn K (.ref C) "__repr__" = some (some (.ref f))
  fn : PySem.W.isFn K (.ref f) = true
def rReprO (C : Addr) (sp : Sp) : List V → Hp → VK → Prop := fun xs H Q => ∃ (a dx : Addr) (fs : List (Str × V)), xs = [.ref a] ∧ H a = some (.ins C dx fs) ∧ sp [.ref a] H (fun v H' => ∃ z, v = .str z ∧ Q (.str z) H') E0
theorem run_one {X : Cx} {CX : CXT} {n : Nat} {f : Addr} {fd : FuncData} {ps : List Str} {sp : Sp} {pins : List (Addr × Obj)} {σ : L2.St} {H : Hp} {s : Shared} {Q : VK} {x : V} {u : Value} {A : Around} (F : FnOk X.prog X.w X.K X.mg X.base CX n f fd ps sp) (hb : Binds X.K fd ps []) (hx : Passes CX X E0) (hr : Room n A) (hfr : A.frames = some X.stack)
    (I : Inv X pins σ H s) (rx : L2.RelV x u) (h : sp [x] H Q E0) : wpAny (model X.prog X.w) A (call (.ref f) [u]) (EP X pins σ Q) X.xe s := by
  have e0 : Env0 X.prog X.w X.K X.mg X.base A X.stack s H := let e := I.env0; ⟨hfr, e.mod, e.bs, e.bsz, e.funs, e.frf, e.hok, e.bare⟩
  have hl := F.len _ _ _ _ h
  refine wpAny_call (codeAny_mono (F.run A X.stack s H ⟨[u], []⟩ [u] [x] Q E0 hr e0 (by
    have := hb s [u] I.kIn (by simpa using hl)
    simpa using this) (.cons rx .nil) h) fun r s' hq => ?_)
  cases r with
  | error e => exact hx pins σ H s e s' I hq
  | ok fl =>
    cases fl with
    | ret w => exact I.after hq
    | next => exact False.elim hq
    | brk => exact False.elim hq
    | cont => exact False.elim hq
theorem call_reprO {X : Cx} {CX : CXT} {n : Nat} {C f : Addr} {fd : FuncData} {ps : List Str} {sp : Sp} (F : FnOk X.prog X.w X.K X.mg X.base CX n f fd ps sp) (c : ReC X.K C f) (hb : Binds X.K fd ps []) (hx : Passes CX X E0) (hr : Room (n + 1) X.A) : CallR X (.builtin "repr") (rReprO C sp) := by
  intro pins s σ H xs us Q I r h
  obtain ⟨a, dx, fs, rfl, ha, h⟩ := h
  obtain ⟨u, rfl, ru⟩ : ∃ u, us = [u] ∧ L2.RelV (.ref a) u := by
    cases r with
    | cons r1 r2 => cases r2; exact ⟨_, rfl, r1⟩
  obtain rfl : u = Value.ref a := ru
  obtain ⟨mA, J, _⟩ := ins_get I.hok ha
  obtain ⟨od, J, _⟩ := J.look
  refine Calls.call_function_entry PySem.F.kind_repr PySem.F.plain_repr PySem.F.entry_repr (PySem.F.args_repr1 _) ?_
  unfold Builtin.«repr»
  refine wpAny_bind (m := oneArg "repr" _) (wpAny_pure ?_)
  refine wpAny_bind (wpAny_cRoomFor hr.in1.units0 ?_)
  refine wpAny_bind (wpAny_bind (J.type.here ((PySem.W.looks_findIn I.kIn c.re).here ?_)))
  simp only [Option.isNone_some, Bool.false_eq_true, if_false]
  refine wpAny_bind (m := callSpecialIfBound? (.ref a) (Str.ofString "__repr__") _) (PySem.W.ifBound_K I.kIn J c.re c.fn (wpAny_mono (run_one (x := .ref a) (u := Value.ref a) F hb hx hr.in1 (frames_of I) I rfl h) (fun v s' hq => ?_) fun _ _ z => z))
  obtain ⟨z, H', I', rz, y, ez, q⟩ := hq
  subst ez
  obtain ⟨t, rfl⟩ := (show ∃ t, v = Value.str y t from rz)
  refine wpAny_bind (wpAny_isInstance (T := "str") (b := true) rfl isSubtype_str_str ?_)
  exact wpAny_pure ⟨_, rfl, .str y, H', I', ⟨t, rfl⟩, q⟩
end DL

set_option maxHeartbeats 4000000
namespace K04
open PySem PySem.Spec PyProof.Rows L2 DL
variable [Tb]
/-! ### Isle.changed -/
abbrev sChanged : Stmt := inClass (topS 19) 13
theorem scChanged : FnScope ["self", "parts", "strange", "given", "name"] ["self", "parts"] (defScope sChanged) := ⟨rfl, rfl, rfl, by decide +kernel, rfl, by decide +kernel, by decide +kernel⟩
abbrev kAll : List Str := ["name", "kept", "plain", "leash", "needs", "sleeps", "sleep", "wake", "turns"]
def gApp : List V → List V → List V := fun vs zs => vs ++ zs
/-- the class called by a dict with all parts -/
structure MkA (K : PySem.W.Frag) (mg : Str → Option Value) (C cN cI : Addr) : Prop where
  ex : ∃ (f : Addr) (fd : FuncData) (g : List Value → List Value → List Value), Mk K C f ∧ mg "Isle" = some (.ref C) ∧ KBn K fd PIsle 1 kAll g gApp ∧
    ∀ (P : Program) (w : World) (base : Heap), FnOk P w K mg base (L2.CX P w) 6 f fd PIsle (spMkX K C (WI cN cI))
theorem MkA.pe {K : PySem.W.Frag} {mg : Str → Option Value} {C cN cI : Addr} {X : Cx} {e : Expr} {p pos kp : Pos} {te : TE} {E : XK} (m : MkA K mg C cN cI) (hK : X.K = K) (hm : X.mg = mg) (hr : Room 7 X.A) (hg : Gl X "Isle") (hx : Passes (L2.CX X.prog X.w) X E) (he : PE X e te) :
    PE X (.Call (.Name "Isle" p) [] [⟨none, e, kp⟩] pos) (tMakeDD K C kAll (spMkX K C (WI cN cI)) gApp E te) := by
  subst hK hm
  obtain ⟨f, fd, g, h1, h2, h3, F⟩ := m.ex
  exact pe_makeDD h1 (F _ _ _) hr hg h2 h3 hx he (by decide) (by decide)
/-- all parts, any name -/
def partsG (d : Dt) (i : Pt) : List (Key × Dt) := [(.inr "name", d), (.inr "kept", i.k), (.inr "plain", i.p), (.inr "leash", i.l), (.inr "needs", i.n), (.inr "sleeps", i.s), (.inr "sleep", i.sl), (.inr "wake", i.wk), (.inr "turns", i.t)]
def odd (i : Pt) (z : Str) : Bool := (valD (partsD i) (.inr z)).isNone
/-- what the class does with these parts -/
structure Told (C cN cI : Addr) (d : Dt) (i : Pt) (Φ : Dt → Prop) (Ξ : Addr → List Str → List Dt → Prop) : Prop where
  short : shortD d = true
  ok : i.Ok
  nm : isOwn d = true → d = .str i.nm
  no : isOwn d = false → Ξ cN ["value"] [d]
  bad : isOwn d = true → ∀ z, faultI i = some z → Ξ cI ["part", "which"] [.str z, .str i.nm]
  good : isOwn d = true → faultI i = none → ∀ (a b : Addr) (ss ss' : List Str), i.n = strT ss → ss'.Perm ss → sortedS ss' = true → Φ (isleD C a b { i with n := strT ss' })
def WCh (C cN cI cP : Addr) : List Dt → (Dt → Prop) → (Addr → List Str → List Dt → Prop) → Prop := fun ds Φ Ξ => ∃ a b i p kws, ∃ zs : List Str, ds = [isleD C a b i, .dct p kws] ∧ kws.map (·.1) = zs.map Sum.inr ∧ zs.length ≤ 9 ∧
  ((∀ ss : List Str, ss.Perm zs → sortedS ss = true → ∃ s0 r, ss.filter (odd i) = s0 :: r ∧ Ξ cP ["which"] [.str s0]) ∨
    ((∀ z ∈ zs, odd i z = false) ∧ ∃ d i', mergeD (mergeD [] (partsD i)) kws = partsG d i' ∧ Told C cN cI d i' Φ Ξ))
theorem not_in {K : PySem.W.Frag} {Ψ : Dt → Prop} {p : Addr} {kvs : List (Key × Dt)} {z : Str} (l : valD kvs (.inr z) = none) (h : Ψ (.bl true)) : OD K rNotInR (.str z) (.dct p kvs) Ψ := fun M H x y m x1 x2 Q q => by
  rw [x1.str_eq]
  cases x2 with
  | @dct _ us _ r yk =>
    obtain ⟨n, r'⟩ := cut_Rd r
    refine ⟨p, _, rfl, dget_rd (k := .inr z) r', ?_⟩
    rw [dxk_none yk l]
    exact q _ H (.bl true) (Same.refl H) (.bl _) h
theorem kD_map {α : Type} {kws : List (Key × α)} {zs : List Str} (e : kws.map (·.1) = zs.map Sum.inr) : (kws.map fun kv => kD kv.1) = zs.map Dt.str := by
  have : (kws.map fun kv => kD kv.1) = (kws.map (·.1)).map kD := by rw [List.map_map]; rfl
  rw [this, e, List.map_map]
  rfl
def oddD (i : Pt) : Dt → Bool
  | .str z => odd i z
  | _ => false
theorem odd_filter (i : Pt) : ∀ ss : List Str, ((ss.map Dt.str).filter (oddD i)).map (fun d => d) = (ss.filter (odd i)).map Dt.str
  | [] => rfl
  | s :: ss => by
    have ih := odd_filter i ss
    rw [List.map_id'] at ih ⊢
    rw [List.map_cons, List.filter_cons, List.filter_cons, ih]
    show (if odd i s = true then _ else _) = _
    cases odd i s <;> rfl
section
variable {P : Program} {w : World} {K : PySem.W.Frag} {mg : Str → Option Value} {base : Heap} {C cN cI cP B3 : Addr} {id3 : String} {tl3 : List Value} {f : Addr} {od an : Option Addr} {osl : Array (Option Value)} {kV doc pm cdv ct oc : Value} {n3 : Nat}
theorem ok_changed {ks : List Str} (lk : K.lookup f = some ⟨oc, od, .func (PySem.W.fnOf "changed" "Isle.changed" (defArgs sChanged) (defBody sChanged) (defScope sChanged) .none kV doc pm an cdv ct), osl⟩) (hcd : PySem.W.codeIn K cdv "Isle.changed" = true) (B : Bt mg) (T : IsleK K mg C) (mA : MkA K mg C cN cI)
    (m3 : Er K mg "NoPart" ["which"] B3 id3 tl3 cP) (i3 : Ini K cP 1 (W1 "which")) (hks : ks.Nodup) (hk15 : ks.length ≤ 15)
    (hb : ∀ us ws : List Value, us.length = (["self"] : List Str).length → ws.length = ks.length → bindArgs (PySem.W.fnOf "changed" "Isle.changed" (defArgs sChanged) (defBody sChanged) (defScope sChanged) .none kV doc pm an cdv ct) ⟨us, ks.zip ws⟩ =
      ((alloc ({ cls := .type "dict", data := .dict #[] } : Obj) : Sem Addr) >>= fun d => (forIn (ks.zip ws) PUnit.unit fun x _ => (nsSet d x.1 x.2 >>= fun _ => pure (ForInStep.yield PUnit.unit))) >>= fun _ => pure ((["self"] : List Str).zip us ++ [(("parts" : Str), Value.ref d)]))) :
    FnKw P w K mg base (L2.CX P w) 8 f 1 ks (spX K (WCh C cN cI cP)) := by
  refine fn_kw (ps := ["self"]) lk hcd scChanged StX.cxUp hks hk15 hb fun A outer s H vs Q E hr h => ?_
  have hu := hu_of hr
  refine ⟨_, pss_cons (ps_setLc (i := 2) (own := [("name", 4)]) (g := gName 4) rfl scChanged.nd rfl rfl (sw_true rfl rfl rfl (by decide +kernel)) (pi_list (pe_callB DL.cr_sortedS (by rfl) B.sorted PyProof.Rows.boot_sorted (pa_cons (pe_callTy (call_listR rfl) (by rfl) B.list PyProof.Rows.boot_list (pa_cons (pv 1) pa_nil)) pa_nil))) (blkOk_by (N := ["self", "parts", "strange", "given", "name"]) (sc := defScope sChanged) (by decide +kernel)) (fun _ _ _ _ _ => pg_name (i := 4) scChanged.nd rfl (Or.inl rfl)) (fun _ _ _ _ _ => pts_one (pt_cmpR (op_notInR hu) (pv 4) (pe_fldK K rfl (pv 0)) (by rfl))) (fun _ _ _ _ _ => pv 4))
    <| pss_cons (ps_if (truthK K rfl (pv 2) fun _ => rfl) (pss_one (ps_raise rfl (takes_of rfl rfl rfl rfl) (m3.pmk i3 rfl rfl (hr.mono (by decide)) (by rfl) (pa_cons (pe_ix (ixK K rfl) (pv 2) pe_int (fun _ _ => rfl)) pa_nil)))) pss_nil)
    <| pss_cons (ps_set (i := 3) scChanged.nd rfl (Or.inl rfl) (pe_disp2 (pe_fldK K rfl (pv 0)) (pv 1)))
    <| pss_one (ps_ret (mA.pe (E := E) rfl rfl hr (by rfl) (passes_call (takes_of rfl rfl rfl rfl) fun _ _ _ _ h => h) (pv 3))), ?_⟩
  have hl : vs.length = 2 := by
    obtain ⟨M, ds, Φ, Ξ, _, _, _, x, ⟨a, b, i, p, kws, zs, e, _⟩, _⟩ := h
    rw [x.len, e]; rfl
  refine read_X h (by rw [hl]; decide) fun ds Φ Ξ _ ⟨a, b, i, p, kws, zs, e, hz, hk, hh⟩ => ?_
  subst e
  show Ws K _ [.dat (isleD C a b i), .dat (.dct p kws), .any, .any, .any] _
  have hkl : kws.length ≤ 9 := by have := congrArg List.length hz; rw [List.length_map, List.length_map] at this; omega
  refine ws_seq <| ws_asg (pf := true) <| w_lcF (oddD i) (fun d => d) rfl <| wi_list <| w_cb <| wa_cons <| w_cb <| wa_cons <| w_var (d := .dct p kws) rfl <| wa_nil <| rd_listR <| wa_nil ?_
  rw [kD_map hz]
  refine rd_sortedS fun ss hp hs => ⟨_, rfl, rfl, by rw [List.length_map, hp.length_eq]; omega, fun d hd => ?_, fun d hd z => w_var rfl ⟨rfl, rfl⟩, ?_⟩
  · obtain ⟨z, hz', rfl⟩ := List.mem_map.mp hd
    refine wt_test <| w_op <| w_var (d := .str z) rfl <| w_fld T.cl T.nP <| w_var (d := isleD C a b i) rfl ⟨a, _, _, .dct b (partsD i), rfl, rfl, ?_⟩
    show OD K rNotInR (.str z) (.dct b (partsD i)) _
    cases c : valD (partsD i) (.inr z) with
    | some e => exact od_notInR c ⟨_, rfl, by show false = odd i z; unfold odd; rw [c]; rfl, rfl⟩
    | none => exact not_in c ⟨_, rfl, by show true = odd i z; unfold odd; rw [c]; rfl, rfl⟩
  rw [odd_filter]
  rcases hh with ho | ⟨hn, d, i', hm, T2⟩
  · obtain ⟨s0, r, e1, q⟩ := ho ss hp hs
    rw [e1]
    show Ws K _ [.dat (isleD C a b i), .dat (.dct p kws), .dat (.lst (.str s0 :: r.map Dt.str)), .any, .any] _
    refine ws_seq <| ws_if (pf := true) <| wt_seq <| w_var (d := .lst (.str s0 :: r.map Dt.str)) rfl ⟨_, rfl, ifT ?_⟩
    exact ws_raise (pf := true) <| wa_cons <| w_op <| w_var (d := .lst (.str s0 :: r.map Dt.str)) rfl <| w_c (fun _ => .int 0) <| od_ix rfl (atI_nat' (j := 0) rfl) <| wa_nil ⟨by show 1 ≤ 900; decide, _, rfl, q⟩
  · have e0 : ss.filter (odd i) = [] := List.filter_eq_nil_iff.mpr fun z hz2 => by rw [hn z (hp.mem_iff.mp hz2)]; decide
    rw [e0]
    show Ws K _ [.dat (isleD C a b i), .dat (.dct p kws), .dat (.lst []), .any, .any] _
    refine ws_seq <| ws_if (pf := true) <| wt_seq <| w_var (d := .lst []) rfl ⟨[], rfl, ifF <| ws_next ?_⟩
    refine ws_seq <| ws_asg (pf := true) <| w_disp2 <| wst_fld T.cl T.nP <| wst_var (d := isleD C a b i) rfl ⟨a, _, _, .dct b (partsD i), rfl, rfl, b, partsD i, rfl, by show 9 ≤ 1000; decide, wst_var (d := .dct p kws) rfl ⟨p, kws, rfl, by omega, fun p2 => ?_⟩⟩
    rw [hm]
    show Ws K _ [.dat (isleD C a b i), .dat (.dct p kws), .dat (.lst []), .dat (.dct p2 (partsG d i')), .any] _
    exact ws_retX <| wx_makeDD (fun x zs _ => rfl) (fun _ _ _ z => z) <| wst_var (d := .dct p2 (partsG d i')) rfl ⟨p2, argsI d i', rfl, rfl, d, i', rfl, T2.short, T2.ok, T2.nm, T2.no, fun ho => ⟨T2.bad ho, fun hf b2 ss ss' e hp hs a2 => T2.good ho hf a2 b2 ss ss' e hp hs⟩⟩
end
end K04

set_option maxHeartbeats 2000000
namespace K04
open PySem PySem.Spec PyProof.Rows L2 DL
variable [Tb]
/-! ### ==, !=, repr of isles -/
abbrev sIsleEq : Stmt := inClass (topS 19) 14
theorem scIsleEq : FnScope ["self", "other"] ["self", "other"] (defScope sIsleEq) := ⟨rfl, rfl, rfl, by decide +kernel, rfl, by decide +kernel, by decide +kernel⟩
abbrev sIsleRe : Stmt := inClass (topS 19) 15
theorem scIsleRe : FnScope ["self"] ["self"] (defScope sIsleRe) := ⟨rfl, rfl, rfl, by decide +kernel, rfl, by decide +kernel, by decide +kernel⟩
def LayI (i : Pt) : Prop := ∀ p ∈ partsD i, layD p.2 = true
def otherD : Dt → Bool
  | .lst _ => true
  | .str _ => true
  | _ => false
def WEqI (C : Addr) : List Dt → (Dt → Prop) → Prop := fun ds Φ => ∃ a b i d, ds = [isleD C a b i, d] ∧ LayI i ∧ ((∃ a' b' i', d = isleD C a' b' i' ∧ LayI i' ∧ Φ (.bl (eqDD (partsD i) (partsD i')))) ∨ (otherD d = true ∧ Φ (.bl false)))
structure IsI (K : PySem.W.Frag) (C : Addr) : Prop where
  isi : IsiC K C
  kit : PySem.W.kitOne K (.ref C) (.ref C) = some true
  kL : PySem.W.kitOne K (.type "list") (.ref C) = some false
  kS : PySem.W.kitOne K (.type "str") (.ref C) = some false
  nf : PySem.W.notFirst K C (.ref C) = true
  nfL : PySem.W.notFirst K C (.type "list") = true
  nfS : PySem.W.notFirst K C (.type "str") = true
theorem parts_keys (i i' : Pt) : ∀ p ∈ partsD i, ∃ e, valD (partsD i') p.1 = some e := fun p hp => by
  unfold partsD at hp
  simp only [List.mem_cons, List.not_mem_nil, or_false] at hp
  rcases hp with e | e | e | e | e | e | e | e | e <;> rw [e] <;> exact ⟨_, rfl⟩
section
variable {P : Program} {w : World} {K : PySem.W.Frag} {mg : Str → Option Value} {base : Heap} {C : Addr} {f : Addr} {fd : FuncData}
theorem ok_isleEq (F : Fun K "__eq__" "Isle.__eq__" sIsleEq f fd) (B : Bt mg) (T : IsleK K mg C) (S : IsI K C) : FnOk P w K mg base CX0 1 f fd ["self", "other"] (spP K (WEqI C)) := by
  refine defP0 F scIsleEq (fun ds Φ ⟨a, b, i, d, e, _⟩ => by rw [e]; rfl) (by decide) fun cdv A outer s H E hr => ?_
  refine ⟨_, pss_one (ps_ret (pe_and (pe_callB (isiK K rfl) (by rfl) B.isi boot_isinstance (pa_cons (pv 1) (pa_cons (pe_glob (v := .ref C) (by rfl) T.mgC rfl) pa_nil))) (pe_one (pe_cmpR (op_eqDD hr.units) (pe_fldK K rfl (pv 0)) (pe_fldK K rfl (pv 1)) (nomark _))))), ?_⟩
  rintro ds Φ ⟨a, b, i, d, rfl, li, h⟩
  show Ws K _ [.dat (isleD C a b i), .dat d] _
  rcases h with ⟨a', b', i', rfl, li', z⟩ | ⟨ho, z⟩
  · refine ws_ret (pf := true) <| w_andV <| w_cb <| wa_cons <| w_var (d := isleD C a' b' i') rfl <| wa_cons <| w_c (fun _ => .cls _) <| wa_nil <| rd_isiI S.isi S.kit ⟨_, rfl, ifT ?_⟩
    exact w_op <| w_fld T.cl T.nP <| w_var (d := isleD C a b i) rfl ⟨a, _, _, .dct b (partsD i), rfl, rfl, w_fld T.cl T.nP <| w_var (d := isleD C a' b' i') rfl ⟨a', _, _, .dct b' (partsD i'), rfl, rfl, od_eqDD rfl li li' (parts_keys i i') z⟩⟩
  · cases d with
    | lst xs => exact ws_ret (pf := true) <| w_andV <| w_cb <| wa_cons <| w_var (d := .lst xs) rfl <| wa_cons <| w_c (fun _ => .cls _) <| wa_nil <| rd_isiO rfl S.kL ⟨_, rfl, ifF z⟩
    | str y => exact ws_ret (pf := true) <| w_andV <| w_cb <| wa_cons <| w_var (d := .str y) rfl <| wa_cons <| w_c (fun _ => .cls _) <| wa_nil <| rd_isiO rfl S.kS ⟨_, rfl, ifF z⟩
    | _ => cases ho
structure EqI (K : PySem.W.Frag) (mg : Str → Option Value) (C : Addr) : Prop where
  ex : ∃ (f : Addr) (fd : FuncData), EqC K C f ∧ Binds K fd ["self", "other"] [] ∧ ∀ (P : Program) (w : World) (base : Heap), FnOk P w K mg base CX0 1 f fd ["self", "other"] (spP K (WEqI C))
theorem EqI.op {X : Cx} (E : EqI K mg C) (hK : X.K = K) (hm : X.mg = mg) (hr : Room 1 X.A) : OpR X (compareOp .Eq) (rOwnL K false C (spP K (WEqI C))) := by
  subst hK hm
  obtain ⟨f0, d0, h0, b0, F0⟩ := E.ex
  exact op_eqL (F0 _ _ _) h0 b0 pass0 hr
theorem EqI.ne {X : Cx} (E : EqI K mg C) (hK : X.K = K) (hm : X.mg = mg) (hr : Room 2 X.A) : OpR X (compareOp .NotEq) (rOwnL K true C (spP K (WEqI C))) := by
  subst hK hm
  obtain ⟨f0, d0, h0, b0, F0⟩ := E.ex
  exact op_neL (F0 _ _ _) h0 b0 pass0 hr
theorem od_eqI {Ψ : Dt → Prop} {neg : Bool} (S : IsI K C) {a b a' b' : Addr} {i i' : Pt} (li : LayI i) (li' : LayI i') (h : Ψ (.bl (neg ^^ eqDD (partsD i) (partsD i')))) : OD K (rOwnL K neg C (spP K (WEqI C))) (isleD C a b i) (isleD C a' b' i') Ψ :=
  od_ownL (fun M H y x => tyI S.isi x) S.nf ⟨a, b, i, _, rfl, li, .inl ⟨a', b', i', rfl, li', _, rfl, h⟩⟩
theorem od_eqIL {Ψ : Dt → Prop} {neg : Bool} (S : IsI K C) {a b : Addr} {i : Pt} {xs : List Dt} (li : LayI i) (h : Ψ (.bl (neg ^^ false))) : OD K (rOwnL K neg C (spP K (WEqI C))) (isleD C a b i) (.lst xs) Ψ :=
  od_ownL (t := .type "list") (fun M H y x => tyX_of x rfl) S.nfL ⟨a, b, i, _, rfl, li, .inr ⟨rfl, _, rfl, h⟩⟩
theorem od_eqIS {Ψ : Dt → Prop} {neg : Bool} (S : IsI K C) {a b : Addr} {i : Pt} {z : Str} (li : LayI i) (h : Ψ (.bl (neg ^^ false))) : OD K (rOwnL K neg C (spP K (WEqI C))) (isleD C a b i) (.str z) Ψ :=
  od_ownL (t := .type "str") (fun M H y x => tyX_of x rfl) S.nfS ⟨a, b, i, _, rfl, li, .inr ⟨rfl, _, rfl, h⟩⟩
/-! ### repr -/
def reText (z : Str) : Str := ("Isle(" : Str) ++ z ++ (")" : Str)
def WRe (C : Addr) : List Dt → (Dt → Prop) → Prop := fun ds Φ => ∃ a b i, ds = [isleD C a b i] ∧ i.nm.length ≤ 1000 ∧ Φ (.str (reText i.nm))
theorem ok_isleRe (F : Fun K "__repr__" "Isle.__repr__" sIsleRe f fd) (T : IsleK K mg C) : FnOk P w K mg base CX0 1 f fd ["self"] (spP K (WRe C)) := by
  refine defP0 F scIsleRe (fun ds Φ ⟨a, b, i, e, _⟩ => by rw [e]; rfl) (by decide) fun cdv A outer s H E hr => ?_
  have hu := hu_of hr
  refine ⟨_, pss_one (ps_ret (pe_joined (PJ.cons pe_str (PJ.cons (pe_fmt (pe_dget hu (pe_fldK K rfl (pv 0)) pe_str (fun _ _ => rfl))) (PJ.cons pe_str PJ.nil))))), ?_⟩
  rintro ds Φ ⟨a, b, i, rfl, hl, q⟩
  show Ws K _ [.dat (isleD C a b i)] _
  have e_app : ∀ x y : Str, (x ++ y).length = x.length + y.length := fun x y => by show (x.cps ++ y.cps).size = _; rw [Array.size_append]; rfl
  have l1 : (Str.empty ++ ("Isle(" : Str)).length = 5 := by decide +kernel
  have l2 : (")" : Str).length = 1 := by decide +kernel
  have e1 : Str.empty ++ ("Isle(" : Str) ++ i.nm ++ (")" : Str) = reText i.nm := by
    have : Str.empty ++ ("Isle(" : Str) = ("Isle(" : Str) := by decide +kernel
    unfold reText; rw [this]
  refine ws_ret (pf := true) <| w_js <| wj_cons <| w_c (fun _ => .str _) ⟨"Isle(", rfl, by rw [l1]; decide, wj_cons <| w_fmt_s <| w_dget <| w_fld T.cl T.nP <| w_var (d := isleD C a b i) rfl ⟨a, _, _, .dct b (partsD i), rfl, rfl, w_c (fun _ => .str _) ⟨b, _, .str i.nm, rfl, rfl, rfl, i.nm, rfl, by omega, i.nm, rfl, by rw [e_app, l1]; omega, wj_cons <| w_c (fun _ => .str _) ⟨")", rfl, by rw [e_app, e_app, l1, l2]; omega, wj_nil ?_⟩⟩⟩⟩
  rw [e1]
  exact q
structure ReI (K : PySem.W.Frag) (mg : Str → Option Value) (C : Addr) : Prop where
  ex : ∃ (f : Addr) (fd : FuncData), ReC K C f ∧ Binds K fd ["self"] [] ∧ ∀ (P : Program) (w : World) (base : Heap), FnOk P w K mg base CX0 1 f fd ["self"] (spP K (WRe C))
theorem ReI.call {X : Cx} (E : ReI K mg C) (hK : X.K = K) (hm : X.mg = mg) (hr : Room 2 X.A) : CallR X (.builtin "repr") (rReprO C (spP K (WRe C))) := by
  subst hK hm
  obtain ⟨f0, d0, h0, b0, F0⟩ := E.ex
  exact call_reprO (F0 _ _ _) h0 b0 pass0 hr
theorem rd_reI {Ψ : Dt → Prop} {a b : Addr} {i : Pt} (hl : i.nm.length ≤ 1000) (h : Ψ (.str (reText i.nm))) : RD K (rReprO C (spP K (WRe C))) [isleD C a b i] Ψ := fun M H vs m xx Q q => by
  obtain ⟨v, rfl, x⟩ := one_v xx
  have x0 := x
  obtain ⟨rfl, dx, us, hi, hl2⟩ := ins_keep (H2 := H) x
  have ec : ∀ H', cut M.callP H' = cut M H' := cut_congr M.callP_has
  refine ⟨a, dx, _, rfl, hi, M.callP, _, fun d => d = .str (reText i.nm), rfl, rfl, m.callP, by rw [ec]; exact .one x0, ⟨a, b, i, rfl, hl, rfl⟩, fun v H2 d e x f => ?_⟩
  subst f
  exact ⟨_, x.str_eq, q _ H2 _ e (.str _) h⟩
end
end K04

/-! Data level: an own list looked at by what draws, and that answers with anything in which no list is as long as it. -/
namespace DL
open PySem PySem.Spec PyProof.Rows L2
variable [Tb]
mutual
def noLen (n : Nat) : Dt → Bool
  | .non | .bl _ | .int _ | .str _ | .ty _ => true
  | .lst ds => decide (ds.length ≠ n) && noLens n ds
  | .tup ds => noLens n ds
  | .dct _ _ | .ins _ _ _ _ | .cls _ | .exc _ _ _ _ => false
def noLens (n : Nat) : List Dt → Bool
  | [] => true
  | d :: ds => noLen n d && noLens n ds
end
section
variable {K : PySem.W.Frag} {H1 H2 : Hp} {l : Addr} {vs : List V} {n : Nat}
theorem Rd.part {a : Addr} {u : HO} (h : ∀ b o, H1 b = some o → b ≠ l → H2 b = some o) (r : Rd H1 a u) (ne : a ≠ l) : Rd H2 a u := r.elim (fun z => .inl (h _ _ z ne)) fun ⟨o, z⟩ => .inr ⟨o, h _ _ z ne⟩
mutual
theorem DX.hide (h : ∀ b o, H1 b = some o → b ≠ l → H2 b = some o) (hl : ∀ o, H1 l = some o → o = .lst vs) (hn : vs.length = n) : ∀ {d : Dt} {v : V}, DX K H1 v d → noLen n d = true → DX K H2 v d
  | .non, _, x, _ => by cases x; exact .non
  | .bl _, _, x, _ => by cases x; exact .bl _
  | .int _, _, x, _ => by cases x; exact .int _
  | .str _, _, x, _ => by cases x; exact .str _
  | .ty _, _, x, _ => by cases x; exact .ty _
  | .lst ds, _, x, f => by
    simp only [noLen, Bool.and_eq_true, decide_eq_true_eq] at f
    cases x with
    | @lst a xs _ hs ha =>
      refine .lst ?_ (DXs.hide h hl hn (ds := ds) ha f.2)
      rcases hs with hs | hs
      · by_cases e : a = l
        · subst e
          exfalso
          have : xs = vs := by
            rcases hs with z | ⟨o, z⟩
            · have := hl _ z; cases this; rfl
            · have := hl _ z; cases this
          rw [this] at ha
          exact f.1 (ha.len.symm.trans hn)
        · exact .inl (Rd.part h hs e)
      · exact .inr hs
  | .tup ds, _, x, f => by
    simp only [noLen] at f
    cases x with
    | @tup a xs _ hs ha =>
      refine .tup ?_ (DXs.hide h hl hn (ds := ds) ha f)
      rcases hs with hs | hs
      · by_cases e : a = l
        · subst e
          exfalso
          rcases hs with z | ⟨o, z⟩
          · have := hl _ z; cases this
          · have := hl _ z; cases this
        · exact .inl (Rd.part h hs e)
      · exact .inr hs
  | .dct _ _, _, _, f => by simp only [noLen] at f; cases f
  | .ins _ _ _ _, _, _, f => by simp only [noLen] at f; cases f
  | .cls _, _, _, f => by simp only [noLen] at f; cases f
  | .exc _ _ _ _, _, _, f => by simp only [noLen] at f; cases f
theorem DXs.hide (h : ∀ b o, H1 b = some o → b ≠ l → H2 b = some o) (hl : ∀ o, H1 l = some o → o = .lst vs) (hn : vs.length = n) : ∀ {ds : List Dt} {us : List V}, DXs K H1 us ds → noLens n ds = true → DXs K H2 us ds
  | [], _, x, _ => by cases x; exact .nil
  | d :: ds, _, x, f => by
    simp only [noLens, Bool.and_eq_true] at f
    cases x with
    | cons h1 h2 => exact .cons (DX.hide h hl hn (d := d) h1 f.1) (DXs.hide h hl hn (ds := ds) h2 f.2)
end
end
def onlyD (i : Nat) : Nat → List Sl → Bool
  | _, [] => true
  | k, s :: r => (k == i || match s with | .any | .dat _ | .pen _ => true | _ => false) && onlyD i (k + 1) r
theorem onlyD_at {i : Nat} : ∀ {r : List Sl} {k j : Nat} {s : Sl}, onlyD i k r = true → r[j]? = some s → k + j ≠ i → s = .any ∨ (∃ d, s = .dat d) ∨ ∃ n, s = .pen n
  | x :: r, k, 0, s, h, e, ne => by
    simp only [List.getElem?_cons_zero, Option.some.injEq] at e
    subst e
    simp only [onlyD, Bool.and_eq_true, Bool.or_eq_true, beq_iff_eq] at h
    rcases h.1 with z | z
    · exact absurd z ne
    · cases x with
      | any => exact .inl rfl
      | dat d => exact .inr (.inl ⟨d, rfl⟩)
      | pen n => exact .inr (.inr ⟨n, rfl⟩)
      | _ => cases z
  | x :: r, k, j + 1, s, h, e, ne => by
    simp only [onlyD, Bool.and_eq_true] at h
    exact onlyD_at (k := k + 1) (j := j) h.2 (by simpa using e) (by omega)
section
variable {K : PySem.W.Frag} {pf : Bool} {ρ : List Sl} {te : TE} {Φ : Dt → List Sl → Prop}
theorem wp_thawN {i : Nat} {ds : List Dt} (hs : ρ[i]? = some (.own ds)) (ho : onlyD i 0 ρ = true) (hx : ∃ x ∈ ds, ∀ k : Int, x ≠ .int k)
    (h : Wp K pf te (ρ.set i (.dat (.lst ds))) fun d ρ' => ∃ m, ρ' = pens m (ρ.set i (.dat (.lst ds))) ∧ noLen ds.length d = true ∧ Φ d (pens m ρ)) : Wp K pf te ρ Φ := fun M σ H S Q q => by
  obtain ⟨o0, h0, l, vs, e0, e1, e2, e3⟩ := S.ok i _ hs
  obtain ⟨SF, sF⟩ := S.freeze hs
  have hO : ∀ a, some a ∈ M.O.set i none → some a ∈ M.O := fun a h => by
    rcases List.mem_or_eq_of_mem_set h with z | z
    · exact z
    · cases z
  have hset : ∀ (j : Nat) (a : Addr), (M.O.set i none)[j]? = some (some a) → i ≠ j ∧ M.O[j]? = some (some a) := fun j a h => by
    by_cases e : i = j
    · subst e
      rw [List.getElem?_set_self (List.getElem?_eq_some_iff.mp e1).1] at h
      cases Option.some.inj h
    · rw [List.getElem?_set_ne e] at h
      exact ⟨e, h⟩
  have hm := List.mem_of_getElem? e1
  have lp : ¬ M.inP l := fun z => (S.mok.pF l z).2 hm
  have lO : some l ∉ M.O.set i none := fun z => by
    obtain ⟨j, hj⟩ := List.getElem?_of_mem z
    obtain ⟨n, h2⟩ := hset j l hj
    exact n (S.mok.nd i j l e1 h2)
  have part : ∀ a, M.has a → a ≠ l → ({ M with O := M.O.set i none } : Md).has a := fun a z ne => by
    rcases z with z | z | z
    · exact .inl z
    · exact .inr (.inl z)
    · obtain ⟨j, hj⟩ := List.getElem?_of_mem z
      by_cases e : i = j
      · subst e
        rw [e1] at hj
        exact absurd (Option.some.inj (Option.some.inj hj)).symm ne
      · exact .inr (.inr (List.mem_of_getElem? (i := j) (by show (M.O.set i none)[j]? = _; rw [List.getElem?_set_ne e]; exact hj)))
  refine h _ σ H SF Q fun v H2 d ρ' s S3 x ⟨m, eρ, f, z⟩ => ?_
  subst eρ
  have kl : H2 l = some (.lst vs) := (s.st.keep l _ e2 lp lO).1
  have st : Tr pf M H H2 := ⟨⟨rfl, rfl, fun a o ha hp hq => ⟨(s.st.keep a o ha hp fun y => hq (hO a y)).1, hq⟩⟩, s.sm⟩
  have carry : ∀ b o, cut { M with O := M.O.set i none } H2 b = some o → b ≠ l → cut M H2 b = some o := fun b o e ne => by
    obtain ⟨c, y⟩ := cut_of e
    exact cut_at (fun w => c (part b w ne)) y
  have atl : ∀ o, cut { M with O := M.O.set i none } H2 l = some o → o = .lst vs := fun o e => by
    have y := (cut_of e).2
    rw [kl] at y
    exact (Option.some.inj y).symm
  refine q v H2 d (pens m ρ) st ⟨?_, ?_, ?_, ?_⟩ (DX.hide carry atl e3.len x f) z
  · unfold pens; rw [List.length_map]; exact S.len
  · unfold pens; rw [List.length_map]; exact S.olen
  · refine ⟨fun a ha => ?_, S.mok.pF, S.mok.FO, S.mok.nd, fun t ht => ?_⟩
    rotate_left
    · obtain ⟨ps, z1, z2, z3⟩ := S3.mok.tb t ht
      refine ⟨ps, z1, z2, fun pos cv hc => ?_⟩
      obtain ⟨c, e1, e2⟩ := z3 pos cv hc
      refine ⟨c, e1, carry c _ e2 fun e => ?_⟩
      have q := atl _ (e ▸ e2)
      cases q
    by_cases e : a = l
    · subst e; exact ⟨_, kl⟩
    · exact S3.mok.live a (part a ha e)
  · intro j sl hj
    unfold pens at hj
    rw [List.getElem?_map] at hj
    obtain ⟨s0, hs0, es⟩ := Option.map_eq_some_iff.mp hj
    by_cases e : j = i
    · subst e
      rw [hs] at hs0
      cases hs0
      subst es
      exact ⟨o0, h0, l, vs, e0, e1, kl, e3.mono st.dx⟩
    · rcases onlyD_at ho hs0 (by omega) with rfl | ⟨d2, rfl⟩ | ⟨n2, rfl⟩
      · subst es
        obtain ⟨o, ho, _⟩ := S.ok j _ hs0
        exact ⟨o, ho, trivial⟩
      · subst es
        obtain ⟨o, ho, v2, y1, y2⟩ := S.ok j _ hs0
        exact ⟨o, ho, v2, y1, y2.mono st.dx⟩
      · subst es
        have : (pens m (ρ.set i (.dat (.lst ds))))[j]? = some (.pen m) := by
          unfold pens
          rw [List.getElem?_map, List.getElem?_set_ne (fun y => e y.symm), hs0]
          rfl
        obtain ⟨o, ho, p, y1, y2, li, ns, c, g, g1, g2, g3, g4⟩ := S3.ok j _ this
        refine ⟨o, ho, p, y1, y2, li, ns, c, g, g1, ?_, g3, g4⟩
        rcases g2 with g2 | g2
        · by_cases e : li = l
          · exfalso
            subst e
            have ev : ns.map V.int = vs := by
              rcases g2 with w | ⟨o, w⟩
              · have := atl _ w; cases this; rfl
              · have := atl _ w; cases this
            obtain ⟨x, hx1, hx2⟩ := hx
            obtain ⟨k, hk⟩ := List.getElem?_of_mem hx1
            obtain ⟨u, hu, ux⟩ := e3.getd hk
            rw [← ev] at hu
            rw [List.getElem?_map] at hu
            obtain ⟨a, _, rfl⟩ := Option.map_eq_some_iff.mp hu
            cases ux
            exact hx2 _ rfl
          · exact .inl (Rd.part carry g2 e)
        · exact .inr g2
end
end DL

/-! Data level: a def that returns a new list, which the caller may then own. -/
namespace DL
open PySem PySem.Spec PyProof.Rows L2
variable [Tb]
def spXL (K : PySem.W.Frag) (W : List Dt → (List Dt → Prop) → (Addr → List Str → List Dt → Prop) → Prop) : Sp := fun vs H Q E => ∃ (M : Md) (ds : List Dt) (Φ : List Dt → Prop) (Ξ : Addr → List Str → List Dt → Prop),
  M.p = none ∧ M.O = [] ∧ MOk M H ∧ DXs K (cut M H) vs ds ∧ W ds Φ Ξ ∧ (∀ H2 l us es, Same H H2 → H l = none → H2 l = some (.lst us) → DXs K (cut { M with F := l :: M.F } H2) us es → Φ es → Q (.ref l) H2) ∧
    ∀ H2 C dd ns us es, Same H H2 → H2 dd = some (.xd (ns.zip us)) → ns.length = us.length → ¬ M.has dd → DXs K (cut M H2) us es → Ξ C ns es → E (.ref C) (some dd) H2
theorem spX_of {K : PySem.W.Frag} {W : List Dt → (List Dt → Prop) → (Addr → List Str → List Dt → Prop) → Prop} {vs : List V} {H : Hp} {Q : VK} {E : XK} (h : spX K (fun ds Φ Ξ => W ds (fun es => Φ (.lst es)) Ξ) vs H Q E) : spXL K W vs H Q E := by
  obtain ⟨M, ds, Φ, Ξ, hp, hO, m, x, w, q, qx⟩ := h
  refine ⟨M, ds, _, Ξ, hp, hO, m, x, w, fun H2 l us es sm hl e xs f => ?_, qx⟩
  have nl : ¬ M.has l := m.new hl
  refine q (.ref l) H2 (.lst es) sm (.lst (.inl (.inl (cut_at nl e))) (xs.mono (cut_le fun a z => ?_))) f
  rcases z with z | z | z
  · exact .inl z
  · exact .inr (.inl (List.mem_cons_of_mem _ z))
  · exact .inr (.inr z)
theorem FnOk.sub {P : Program} {w : World} {K : PySem.W.Frag} {mg : Str → Option Value} {base : Heap} {CX : CXT} {k : Nat} {f : Addr} {fd : FuncData} {ps : List Str} {sp sp' : Sp} (F : FnOk P w K mg base CX k f fd ps sp) (h : ∀ vs H Q E, sp' vs H Q E → sp vs H Q E) : FnOk P w K mg base CX k f fd ps sp' :=
  ⟨fun vs H Q E z => F.len _ _ _ _ (h _ _ _ _ z), fun A outer s H args us vs Q E hr en b v z => F.run A outer s H args us vs Q E hr en b v (h _ _ _ _ z)⟩
/-! ### the body -/
def RO (K : PySem.W.Frag) (M : Md) (H : Hp) (E : Ends) (RL : List Dt → Prop) : Prop := ∀ M' H' l us es, Stp M H M' H' → some l ∈ M'.O → H' l = some (.lst us) → DXs K (cut M' H') us es → RL es → E.rt (.ref l) H'
theorem RO.step {K : PySem.W.Frag} {M M1 : Md} {H H1 : Hp} {E : Ends} {RL : List Dt → Prop} (k : RO K M H E RL) (s : Stp M H M1 H1) : RO K M1 H1 E RL := fun M' H' l us es s' => k M' H' l us es (s.trans s')
def WsL (K : PySem.W.Frag) (ts : TS) (ρ : List Sl) (D : DE) (RL : List Dt → Prop) : Prop :=
  ∀ (M : Md) (σ : L2.St) (H : Hp), Sd K M H σ ρ → ∀ E : Ends, EOk K M H E D → RO K M H E RL → ts E σ H
section
variable {K : PySem.W.Frag} {pf : Bool} {ρ : List Sl} {t u : TS} {tt : TT} {D : DE} {RL : List Dt → Prop} {i : Nat}
theorem wsl_of (h : Ws K t ρ D) : WsL K t ρ D RL := fun M σ H S E k _ => h M σ H S E k
theorem wsl_seq (h : WsL K t ρ { D with nx := fun ρ' => WsL K u ρ' D RL } RL) : WsL K (tSeq t u) ρ D RL := fun M σ H S E k r =>
  h M σ H S { E with nx := u E } ⟨fun M' σ' H' ρ' s S' z => z M' σ' H' S' E (k.step s) (r.step s), k.rt, k.bk, k.ct, k.ex⟩ r
theorem wsl_if (h : Wt K pf tt ρ fun b ρ1 => if b = true then WsL K t ρ1 D RL else WsL K u ρ1 D RL) : WsL K (tIfS tt t u) ρ D RL := fun M σ H S E k r =>
  h M σ H S _ fun b H1 ρ1 s1 S1 z => by
    cases b with
    | true => exact z M σ H1 S1 E (k.step s1.st) (r.step s1.st)
    | false => exact z M σ H1 S1 E (k.step s1.st) (r.step s1.st)
theorem wsl_retV {es : List Dt} (e : ρ[i]? = some (.own es)) (h : RL es) : WsL K (tRet (tVar i)) ρ D RL := fun M σ H S E k r => by
  obtain ⟨o, h1, l, us, e1, e2, e3, e4⟩ := S.ok i _ e
  subst e1
  exact ⟨.ref l, h1, r M H l us es (Stp.refl M H) (List.mem_of_getElem? e2) e3 e4 h⟩
theorem wsl_retN (i : Nat) (hi : i < ρ.length) (h : RL []) : WsL K (tRet (tLst tNil)) ρ D RL := fun M σ H S E k r =>
  ⟨Nat.zero_le _, fun q hq => r _ _ q [] [] (Stp.own hq (same_new hq)) (List.mem_of_getElem? (List.getElem?_set_self (by rw [S.olen]; exact hi))) upd_same .nil h⟩
end
section
variable {P : Program} {w : World} {K : PySem.W.Frag} {mg : Str → Option Value} {base : Heap} {k : Nat} {f : Addr} {fd : FuncData} {ps N : List Str} {x qual : Str} {st : Stmt} {t : TS}
theorem read_XL {W : List Dt → (List Dt → Prop) → (Addr → List Str → List Dt → Prop) → Prop} {vs : List V} {H : Hp} {Q : VK} {E : XK} (h : spXL K W vs H Q E) (hl : vs.length ≤ N.length)
    (b : ∀ ds Φ Ξ, ds.length = vs.length → W ds Φ Ξ → WsL K t (slots ds (N.length - ds.length)) { nx := fun _ => False, rt := fun _ _ => False, xk := E, xd := Ξ } Φ) : t { nx := fun _ H' => Q .non H', rt := Q } (L2.start N vs) H := by
  obtain ⟨M, ds, Φ, Ξ, hp, hO, m, x, w, q, qx⟩ := h
  have keep : ∀ {M' : Md} {H' : Hp}, Stp (M.body N.length) H M' H' → Same H H' := fun s a o z => (s.keep a o z (Md.inP0 hp a) no_rep).1
  have up : ∀ {M' : Md} {H' : Hp}, Stp (M.body N.length) H M' H' → ∀ a, M.has a → M'.has a := fun {M' H'} s a z => by
    rcases z with z | z | z
    · exact (Md.inP0 hp a z).elim
    · exact .inr (.inl (by rw [s.F]; exact z))
    · rw [hO] at z; cases z
  refine b ds Φ Ξ x.len.symm w (M.body N.length) _ H (sd_start hO m x hl) _ ⟨fun M' σ' H' ρ' s S z => z.elim, fun M' v H' d ρ' σ' s S x z => z.elim, fun M' σ' H' ρ' s S z => z, fun M' σ' H' ρ' s S z => z,
    fun M' H' C dd ns us es s e1 e2 nd xs z => qx H' C dd ns us es (keep s) e1 e2 (fun y => nd (up s dd y)) (xs.mono (cut_le (up s))) z⟩ fun M' H' l us es s hm e xs z => ?_
  have hn : H l = none := by
    cases e0 : H l with
    | none => rfl
    | some o => exact absurd hm (s.keep l o e0 (Md.inP0 hp l) no_rep).2
  refine q H' l us es (keep s) hn e (xs.mono (cut_le fun a y => ?_)) z
  rcases y with y | y | y
  · exact up s a (.inl y)
  · rcases List.mem_cons.mp y with y | y
    · rw [y]; exact .inr (.inr hm)
    · exact up s a (.inr (.inl y))
  · exact up s a (.inr (.inr y))
theorem defXL {W : List Dt → (List Dt → Prop) → (Addr → List Str → List Dt → Prop) → Prop} (F : Fun K x qual st f fd) (S : FnScope N ps (defScope st)) (hW : ∀ ds Φ Ξ, W ds Φ Ξ → ds.length = ps.length) (hN : ps.length ≤ N.length)
    (hb : ∀ (cdv : Value) (A : Around) (outer : List Env) (s : Shared) (H : Hp) (E : XK), Room k (A.deeper (envOfC qual (defScope st) s.heap.objs.size f cdv)) →
      ∃ t, PSs (cxOf (L2.CX P w) P w K mg base N qual (defScope st) f cdv A outer s H E) (defBody st) t ∧
        ∀ ds Φ Ξ, W ds Φ Ξ → WsL K t (slots ds (N.length - ds.length)) { nx := fun _ => False, rt := fun _ _ => False, xk := E, xd := Ξ } Φ) : FnOk P w K mg base (L2.CX P w) (k + 1) f fd ps (spXL K W) := by
  have len : ∀ vs H Q E, spXL K W vs H Q E → vs.length = ps.length := fun vs H Q E ⟨M, ds, Φ, Ξ, _, _, _, x, w, _⟩ => x.len.trans (hW ds Φ Ξ w)
  refine F.okX S len fun cdv A outer s H vs Q E hr h => ?_
  obtain ⟨t, h1, h2⟩ := hb cdv A outer s H E hr
  exact ⟨t, h1, read_XL h (by rw [len _ _ _ _ h]; exact hN) fun ds Φ Ξ _ w => h2 ds Φ Ξ w⟩
end
section
variable {K : PySem.W.Frag} {pf : Bool} {ρ : List Sl} {tr : TA} {Ψ : List Dt → List Sl → Prop}
/-- the caller owns what is returned -/
theorem wl_callX {W : List Dt → (List Dt → Prop) → (Addr → List Str → List Dt → Prop) → Prop} {E : XK} (h : Wa K pf tr ρ fun ds ρ1 => W ds (fun es => Ψ es ρ1) fun _ _ _ => False) : WpL K pf (tCall (spXL K W) [] E tr) ρ Ψ := fun M σ H S Q q =>
  h M σ H S _ fun vs H1 ds ρ1 s1 S1 x1 k => by
    have ec : ∀ H', cut M.callP H' = cut M H' := cut_congr M.callP_has
    refine ⟨M.callP, ds, _, _, rfl, rfl, S1.mok.callP, by rw [ec, List.append_nil]; exact x1, k, fun H3 l us es sm hl e xs f => ?_, fun _ _ _ _ _ _ _ _ _ _ _ z => z.elim⟩
    have s2 : Same H1 (del H3 l) := fun a o z => by rw [del_ne (ne_of_none z hl)]; exact sm a o z
    have e3 : upd (del H3 l) l (.lst us) = H3 := by
      funext a
      by_cases c : a = l
      · rw [c, upd_same, e]
      · rw [upd_ne c, del_ne c]
    have := q l us (del H3 l) es ρ1 (s1.trans (Tr.same pf M s2)) (S1.same s2) (by unfold del; rw [if_pos rfl]) (xs.mono fun a o z => by
      obtain ⟨c, y⟩ := cut_of z
      have al : a ≠ l := fun n => c (.inr (.inl (by rw [n]; exact List.mem_cons_self)))
      exact cut_at (fun t => c (has_aside a ((M.callP_has a).mpr t))) (by rw [del_ne al]; exact y)) f
    rw [e3] at this
    exact this
end
end DL

/-! Data level: a def that draws and returns a new list, which the caller may own or take as data; more rules for drawn rows. -/
namespace DL
open PySem PySem.Spec PyProof.Rows L2
variable [Tb]
def spNL (K : PySem.W.Frag) (W : Nat → List Dt → (List Dt → Nat → Prop) → Prop) : Sp := fun vs H Q _ => ∃ (M : Md) (p : Addr) (n : Nat) (ws : List V) (ds : List Dt) (Φ : List Dt → Nat → Prop),
  vs = .ref p :: ws ∧ M.p = some p ∧ M.O = [] ∧ MOk M H ∧ Pen K M H p n ∧ DXs K (cut M H) ws ds ∧ W n ds Φ ∧
    ∀ H2 l us es n', FrmP M H H2 → H l = none → H2 l = some (.lst us) → Pen K { M with F := l :: M.F } H2 p n' → DXs K (cut { M with F := l :: M.F } H2) us es → Φ es n' → Q (.ref l) H2
theorem spN_of {K : PySem.W.Frag} {W : Nat → List Dt → (List Dt → Nat → Prop) → Prop} {vs : List V} {H : Hp} {Q : VK} {E : XK} (h : spN K (fun n ds Φ => W n ds (fun es n' => Φ (.lst es) n')) vs H Q E) : spNL K W vs H Q E := by
  obtain ⟨M, p, n, ws, ds, Φ, e, hp, hO, m, P, x, w, q⟩ := h
  refine ⟨M, p, n, ws, ds, _, e, hp, hO, m, P, x, w, fun H2 l us es n' sm hl e2 P2 xs f => ?_⟩
  have nl : ¬ M.has l := m.new hl
  have le : Same (cut { M with F := l :: M.F } H2) (cut M H2) := cut_le fun a z => by
    rcases z with z | z | z
    · exact .inl z
    · exact .inr (.inl (List.mem_cons_of_mem _ z))
    · exact .inr (.inr z)
  obtain ⟨li, ns, c, g, b1, b2, b3⟩ := P2
  exact q (.ref l) H2 (.lst es) n' sm ⟨li, ns, c, g, b1, le.seq b2, b3⟩ (.lst (.inl (.inl (cut_at nl e2))) (xs.mono le)) f
theorem FnG.sub {P : Program} {w : World} {K : PySem.W.Frag} {mg : Str → Option Value} {base : Heap} {CX : CXT} {k : Nat} {f : Addr} {fd : FuncData} {ps : List Str} {sp sp' : Sp} (F : FnG P w K mg base CX k f fd ps sp) (h : ∀ vs H Q E, sp' vs H Q E → sp vs H Q E) : FnG P w K mg base CX k f fd ps sp' :=
  ⟨fun vs H Q E z => F.len _ _ _ _ (h _ _ _ _ z), fun A outer s H args us vs Q E hr hg en b v z => F.run A outer s H args us vs Q E hr hg en b v (h _ _ _ _ z)⟩
def RON (K : PySem.W.Frag) (M : Md) (H : Hp) (E : Ends) (RL : List Dt → List Sl → Prop) : Prop := ∀ M' H' σ' ρ' l us es, Stp M H M' H' → Sd K M' H' σ' ρ' → some l ∈ M'.O → H' l = some (.lst us) → DXs K (cut M' H') us es → RL es ρ' → E.rt (.ref l) H'
theorem RON.step {K : PySem.W.Frag} {M M1 : Md} {H H1 : Hp} {E : Ends} {RL : List Dt → List Sl → Prop} (k : RON K M H E RL) (s : Stp M H M1 H1) : RON K M1 H1 E RL := fun M' H' σ' ρ' l us es s' => k M' H' σ' ρ' l us es (s.trans s')
def WsN (K : PySem.W.Frag) (ts : TS) (ρ : List Sl) (D : DE) (RL : List Dt → List Sl → Prop) : Prop :=
  ∀ (M : Md) (σ : L2.St) (H : Hp), Sd K M H σ ρ → ∀ E : Ends, EOk K M H E D → RON K M H E RL → ts E σ H
section
variable {K : PySem.W.Frag} {pf : Bool} {ρ : List Sl} {t u : TS} {tt : TT} {te : TE} {D : DE} {RL : List Dt → List Sl → Prop} {i : Nat}
theorem wsn_of (h : Ws K t ρ D) : WsN K t ρ D RL := fun M σ H S E k _ => h M σ H S E k
theorem wsn_seq (h : Ws K t ρ { D with nx := fun ρ' => WsN K u ρ' D RL }) : WsN K (tSeq t u) ρ D RL := fun M σ H S E k r =>
  h M σ H S { E with nx := u E } ⟨fun M' σ' H' ρ' s S' z => z M' σ' H' S' E (k.step s) (r.step s), k.rt, k.bk, k.ct, k.ex⟩
theorem wsn_seqI (I : List Sl → Prop) (h : Ws K t ρ { D with nx := I }) (k : ∀ ρ', I ρ' → WsN K u ρ' D RL) : WsN K (tSeq t u) ρ D RL := fun M σ H S E k0 r =>
  h M σ H S { E with nx := u E } ⟨fun M' σ' H' ρ' s S' z => k ρ' z M' σ' H' S' E (k0.step s) (r.step s), k0.rt, k0.bk, k0.ct, k0.ex⟩
theorem wsn_ret (h : WpL K pf te ρ fun ds ρ' => i < ρ'.length ∧ RL ds (ρ'.set i (.own ds))) : WsN K (tRet te) ρ D RL := fun M σ H S E k r =>
  h M σ H S _ fun q vs H2 ds ρ' s1 S1 hq x ⟨hi, z⟩ => by
    have S2 := (S1.same (same_new hq)).own hi (S1.mok.new hq) upd_same (x.mono fun b u y => by
      obtain ⟨c, y⟩ := cut_of y
      have bq : b ≠ q := ne_of_none y hq
      refine cut_at (fun w => ?_) (by rw [upd_ne bq]; exact y)
      rcases w with w | w | w
      · exact c (.inl w)
      · rcases List.mem_cons.mp w with w | w
        · exact bq w
        · exact c (.inr (.inl w))
      · exact c (.inr (.inr w))) (S1.aside hq (same_new hq) upd_same)
    obtain ⟨o, _, l, us, g1, g2, g3, g4⟩ := S2.ok i _ (List.getElem?_set_self hi)
    have st := s1.st.trans (Stp.own (i := i) hq (same_new (o := .lst vs) hq))
    have mem : some q ∈ (M.O.set i (some q)) := List.mem_of_getElem? (List.getElem?_set_self (by rw [S1.olen]; exact hi))
    have lq : l = q := by
      have : (M.O.set i (some q))[i]? = some (some l) := g2
      rw [List.getElem?_set_self (by rw [S1.olen]; exact hi)] at this
      exact (Option.some.inj (Option.some.inj this)).symm
    subst lq
    exact r _ _ _ _ l us ds st S2 mem g3 g4 z
end
section
variable {P : Program} {w : World} {K : PySem.W.Frag} {mg : Str → Option Value} {base : Heap} {k : Nat} {f : Addr} {fd : FuncData} {ps N : List Str} {x qual : Str} {st : Stmt} {t : TS}
theorem read_NL {W : Nat → List Dt → (List Dt → Nat → Prop) → Prop} {vs : List V} {H : Hp} {Q : VK} {E : XK} (h : spNL K W vs H Q E) (hl : vs.length ≤ N.length)
    (b : ∀ n ds Φ, ds.length + 1 = vs.length → W n ds Φ → WsN K t (.pen n :: slots ds (N.length - (ds.length + 1))) { nx := fun _ => False, rt := fun _ _ => False } (fun es ρ => ∃ n' s, ρ[0]? = some s ∧ PenS n' s ∧ Φ es n')) :
    t { nx := fun _ H' => Q .non H', rt := Q } (L2.start N vs) H := by
  obtain ⟨M, p, n, ws, ds, Φ, rfl, hp, hO, m, P0, x, w, q⟩ := h
  have ec : ∀ H', cut (M.body N.length) H' = cut M H' := fun H' => cut_congr (Md.body_has hO N.length) H'
  have keep : ∀ {M' : Md} {H' : Hp}, Stp (M.body N.length) H M' H' → ∀ a o, H a = some o → ¬ M.inP a → H' a = some o := fun s a o z c => (s.keep a o z c no_rep).1
  have up : ∀ {M' : Md} {H' : Hp}, Stp (M.body N.length) H M' H' → ∀ a, M.has a → M'.has a := fun {M' H'} s a z => by
    rcases z with z | z | z
    · exact .inl ((s.inP a).mpr z)
    · exact .inr (.inl (by rw [s.F]; exact z))
    · rw [hO] at z; cases z
  have S0 : Sd K (M.body N.length) H (L2.start N (.ref p :: ws)) (.pen n :: slots ds (N.length - (ds.length + 1))) := by
    have hx : DXs K (cut M H) (V.int 0 :: ws) (Dt.int 0 :: ds) := .cons (.int 0) x
    have S1 := sd_start (N := N) hO m hx (by simpa using hl)
    refine ⟨?_, ?_, S1.mok, fun j s h => ?_⟩
    · have := S1.len
      unfold slots L2.start at this ⊢
      simp only [List.length_append, List.length_map, List.length_replicate, List.length_cons] at this ⊢
      omega
    · have := S1.olen
      unfold slots at this ⊢
      simp only [List.length_append, List.length_map, List.length_replicate, List.length_cons] at this ⊢
      omega
    · cases j with
      | zero =>
        have h := Option.some.inj (show some (Sl.pen n) = some s from h)
        subst h
        obtain ⟨l, ns, c, g, b1, b2, b3⟩ := P0
        exact ⟨some (.ref p), rfl, p, rfl, hp, l, ns, c, g, b1, by rw [ec]; exact b2, b3⟩
      | succ j =>
        obtain ⟨o, h1, h2⟩ := S1.ok (j + 1) s (by
          show (slots (Dt.int 0 :: ds) _)[j + 1]? = _
          unfold slots at h ⊢
          simpa using h)
        refine ⟨o, ?_, h2⟩
        unfold L2.start at h1 ⊢
        simpa using h1
  refine b n ds Φ (by rw [List.length_cons, x.len]) w (M.body N.length) _ H S0 _ ⟨fun M' σ' H' ρ' s S z => z.elim, fun M' v H' d ρ' σ' s S x z => z.elim, fun M' σ' H' ρ' s S z => z, fun M' σ' H' ρ' s S z => z, fun _ _ _ _ _ _ _ _ _ _ _ _ z => z⟩ fun M' H' σ' ρ' l us es s S hm e xs ⟨n', sl, e0, ps, z⟩ => ?_
  have lp : ¬ M.inP l := fun y => (S.mok.pF l ((s.inP l).mpr y)).2 hm
  have hn : H l = none := by
    cases e0 : H l with
    | none => rfl
    | some o => exact absurd hm (s.keep l o e0 lp no_rep).2
  have le : Same (cut M' H') (cut { M with F := l :: M.F } H') := cut_le fun a y => by
    rcases y with y | y | y
    · exact up s a (.inl y)
    · rcases List.mem_cons.mp y with y | y
      · rw [y]; exact .inr (.inr hm)
      · exact up s a (.inr (.inl y))
    · exact up s a (.inr (.inr y))
  have P2 : Pen K { M with F := l :: M.F } H' p n' := by
    obtain ⟨o, _, k⟩ := S.ok 0 sl e0
    obtain ⟨p', h1, li, ns, c, g, b1, b2, b3⟩ := ps.of k
    have e1 : M'.p = M.p := s.p
    obtain rfl : p' = p := Option.some.inj (h1.symm.trans (e1.trans hp))
    exact ⟨li, ns, c, g, b1, le.seq b2, b3⟩
  have le2 : Same (cut M' H') (cut M H') := cut_le (up s)
  exact q H' l us es n' ⟨keep s, fun t ht => (S.mok.tb t (by rw [s.ts]; exact ht)).step (fun _ z => z) le2⟩ hn e P2 (xs.mono le) z
theorem defNL {W : Nat → List Dt → (List Dt → Nat → Prop) → Prop} (F : Fun K x qual st f fd) (S : FnScope N ps (defScope st)) (hW : ∀ n ds Φ, W n ds Φ → ds.length + 1 = ps.length) (hN : ps.length ≤ N.length)
    (hb : ∀ (cdv : Value) (A : Around) (outer : List Env) (s : Shared) (H : Hp) (E : XK), Room k (A.deeper (envOfC qual (defScope st) s.heap.objs.size f cdv)) →
      (A.deeper (envOfC qual (defScope st) s.heap.objs.size f cdv)).guards = some [] → ∃ t, PSs (cxOf CX0 P w K mg base N qual (defScope st) f cdv A outer s H E).nox (defBody st) t ∧
        ∀ n ds Φ, W n ds Φ → WsN K t (.pen n :: slots ds (N.length - (ds.length + 1))) { nx := fun _ => False, rt := fun _ _ => False } (fun es ρ => ∃ n' s, ρ[0]? = some s ∧ PenS n' s ∧ Φ es n')) :
    FnG P w K mg base CX0 (k + 1) f fd ps (spNL K W) := by
  have len : ∀ vs H Q E, spNL K W vs H Q E → vs.length = ps.length := fun vs H Q E ⟨M, p, n, ws, ds, Φ, e, _, _, _, _, x, w, _⟩ => by
    rw [e, List.length_cons, x.len]; exact hW n ds Φ w
  refine okG F S len fun cdv A outer s H vs Q E hr hg h => ?_
  obtain ⟨t, h1, h2⟩ := hb cdv A outer s H E hr hg
  exact ⟨t, h1, read_NL (E := E) h (by rw [len _ _ _ _ h]; exact hN) fun n ds Φ _ w => h2 n ds Φ w⟩
end
section
variable {K : PySem.W.Frag} {ρ : List Sl} {tr : TA} {Ψ : List Dt → List Sl → Prop}
/-- the caller owns what is drawn -/
theorem wl_callNL {W : Nat → List Dt → (List Dt → Nat → Prop) → Prop} {E : XK} {i n0 : Nat} (e : ρ[i]? = some (.pen n0)) (h : Wa K false tr ρ fun ds ρ1 => ∃ n, ρ1[i]? = some (.pen n) ∧ W n ds fun es n' => Ψ es (pens n' ρ1)) :
    WpL K false (tCall (spNL K W) [] E (tCons (tVar i) tr)) ρ Ψ := fun M σ H S Q q => by
  obtain ⟨o, h1, p, rfl, hp, _⟩ := S.ok i _ e
  refine ⟨.ref p, h1, h M σ H S _ fun vs H1 ds ρ1 s1 S1 x1 ⟨n, e1, k⟩ => ?_⟩
  obtain ⟨o', g1, p', g2, g3, P⟩ := S1.ok i _ e1
  have ep : p' = p := Option.some.inj (g3.symm.trans hp)
  subst ep
  have ec : ∀ H', cut M.call H' = cut M H' := cut_congr M.call_has
  have penc : ∀ {H' : Hp} {m : Nat}, Pen K M.call H' p' m ↔ Pen K M H' p' m := fun {H' m} => by unfold Pen; rw [ec]
  refine ⟨M.call, p', n, vs, ds, _, by rw [List.append_nil], hp, rfl, S1.mok.call, penc.mpr P, by rw [ec]; exact x1, k, fun H3 l us es n' kp hl e3 P2 xs f => ?_⟩
  have lp : l ≠ p' := fun y => by
    obtain ⟨_, _, _, _, b1, _⟩ := P
    rw [y, b1] at hl
    cases hl
  have kp' : ∀ a o, H1 a = some o → ¬ M.inP a → del H3 l a = some o := fun a o z c => by
    rw [del_ne (ne_of_none z hl)]; exact kp.k a o z c
  have e3' : upd (del H3 l) l (.lst us) = H3 := by
    funext a
    by_cases c : a = l
    · rw [c, upd_same, e3]
    · rw [upd_ne c, del_ne c]
  have down : Same (cut { M.call with F := l :: M.call.F } H3) (cut M (del H3 l)) := fun a o z => by
    obtain ⟨c, y⟩ := cut_of z
    have al : a ≠ l := fun n => c (.inr (.inl (by rw [n]; exact List.mem_cons_self)))
    exact cut_at (fun t => c (has_aside a ((M.call_has a).mpr t))) (by rw [del_ne al]; exact y)
  have tb' : TabsM M (del H3 l) := fun t ht => by
    obtain ⟨ps1, w1, _⟩ := S1.mok.tb t ht
    obtain ⟨ps, z1, z2, z3⟩ := kp.t t ht
    have tl : t.1 ≠ l := fun e => by rw [e, hl] at w1; cases w1
    refine ⟨ps, by rw [del_ne tl]; exact z1, z2, fun pos cv hc => ?_⟩
    obtain ⟨c, e1, e2⟩ := z3 pos cv hc
    obtain ⟨c1, c2⟩ := cut_of e2
    have cl : c ≠ l := fun e => by rw [e, e3] at c2; cases c2
    exact ⟨c, e1, cut_at (fun t => c1 ((M.call_has c).mpr t)) (by rw [del_ne cl]; exact c2)⟩
  have P3 : Pen K M (del H3 l) p' n' := by
    obtain ⟨li, ns, c, g, b1, b2, b3, b4⟩ := P2
    exact ⟨li, ns, c, g, by rw [del_ne lp.symm]; exact b1, down.seq b2, b3, b4⟩
  have := q l us (del H3 l) es (pens n' ρ1) (s1.trans ⟨⟨rfl, rfl, fun a o z c d => ⟨kp' a o z c, d⟩⟩, fun z => nomatch z⟩) (S1.pens hp ⟨kp', tb'⟩ P3) (by unfold del; rw [if_pos rfl]) (xs.mono down) f
  rw [e3'] at this
  exact this
end
section
variable {K : PySem.W.Frag} {Ψ : Dt → Prop} {pf : Bool} {ρ : List Sl} {te : TE} {tr : TA} {Φ : Dt → List Sl → Prop}
theorem rd_min2 {a b : Int} (h : Ψ (.int (if b < a then b else a))) : RD K (fun xs H Q => ∃ i j, xs = [.int i, .int j] ∧ Q (.int (if j < i then j else i)) H) [.int a, .int b] Ψ := fun M H vs m xx Q q => by
  have e : vs = [.int a, .int b] := DXs.ints (ns := [a, b]) xx
  subst e
  exact ⟨a, b, rfl, q _ H _ (Same.refl H) (.int _) h⟩
theorem rd_int1b {b : Bool} (h : Ψ (.int (if b then 1 else 0))) : RD K (fun xs H Q => (∃ i, xs = [.int i] ∧ Q (.int i) H) ∨ ∃ k, xs = [.bl k] ∧ Q (.int (if k then 1 else 0)) H) [.bl b] Ψ := fun M H vs m xx Q q => by
  obtain ⟨v, rfl, x⟩ := one_v xx
  rw [x.bl_eq]
  exact .inr ⟨b, rfl, q _ H _ (Same.refl H) (.int _) h⟩
theorem DXs.rep {H : Hp} {vs : List V} {ds : List Dt} (x : DXs K H vs ds) : ∀ k : Nat, DXs K H (List.replicate k vs).flatten (List.replicate k ds).flatten
  | 0 => .nil
  | k + 1 => by
    rw [List.replicate_succ, List.replicate_succ, List.flatten_cons, List.flatten_cons]
    exact x.append (DXs.rep x k)
/-- [..] * k -/
theorem w_rep (h : Wa K pf tr ρ fun ds ρ1 => ds.length ≤ 1000 ∧ Wp K true te ρ1 fun e ρ2 => ∃ k : Nat, e = .int (k : Nat) ∧ k ≤ 1000 ∧ Φ (.lst (List.replicate k ds).flatten) ρ2) : Wp K pf (tOp rRep (tLst tr) te) ρ Φ := fun M σ H S Q q =>
  h M σ H S _ fun vs H1 ds ρ1 s1 S1 x1 ⟨hl, f⟩ => ⟨by rw [x1.len]; exact Nat.le_trans hl (by decide), fun p hp =>
    f M σ _ (S1.same (same_new (o := .lst vs) hp)) _ fun v H2 e ρ2 s2 S2 x2 ⟨k, ek, hk, z⟩ => by
      subst ek
      have hp2 : H2 p = some (.lst vs) := s2.sm rfl _ _ upd_same
      have hb : vs.length * k ≤ 1000 * 1000 := Nat.mul_le_mul (by rw [x1.len]; exact hl) hk
      refine ⟨p, k, vs, rfl, by rw [x2.int_eq], hp2, by omega, by omega, by rw [Int.toNat_natCast]; exact Nat.le_trans hb (by decide), fun p2 hn => ?_⟩
      rw [Int.toNat_natCast]
      have sx : Same (cut M H1) (cut M H2) := cut_same M ((same_new (o := .lst vs) hp).trans (s2.sm rfl))
      have tr : Tr pf M H1 H2 := ⟨(Stp.same M (same_new (o := .lst vs) hp)).trans s2.st, fun _ => (same_new (o := .lst vs) hp).trans (s2.sm rfl)⟩
      exact q _ _ (.lst _) ρ2 ((s1.trans tr).trans (Tr.same pf M (same_new hn))) (S2.same (same_new hn)) (dx_new_l S2.mok hn ((x1.mono sx).rep k)) z⟩
theorem lay_list : ∀ {ds : List Dt}, (∀ e ∈ ds, layD e = true) → seqss ds = true ∧ PyData.canLayAll0 (pys ds) = true ∧ PyData.depthAll (pys ds) ≤ 31
  | [], _ => ⟨by simp only [seqss], by simp only [pys, PyData.canLayAll0], by simp only [pys, PyData.depthAll]; omega⟩
  | d :: ds, h => by
    obtain ⟨a1, a2, a3⟩ := layD_of (h d List.mem_cons_self)
    obtain ⟨b1, b2, b3⟩ := lay_list (ds := ds) fun e he => h e (List.mem_cons_of_mem _ he)
    refine ⟨by simp only [seqss, a1, b1, Bool.and_self], by simp only [pys, PyData.canLayAll0, a2, b2, Bool.and_self], ?_⟩
    simp only [pys, PyData.depthAll]
    omega
theorem od_notInD {d : Dt} {ds : List Dt} (l1 : layD d = true) (l2 : ∀ e ∈ ds, layD e = true) (h : Ψ (.bl (!inD d ds))) : OD K (rNotInD K) d (.lst ds) Ψ := fun M H u v m x1 x2 Q q => by
  obtain ⟨b1, b2, b3⟩ := lay_list l2
  refine ⟨d.py, pys ds, (x1.mono (cut_sub M H)).dp (layD_of l1).1, (x2.mono (cut_sub M H)).dp (by simp only [Dt.seqs]; exact b1), layD_shaped l1, ?_, ?_⟩
  · unfold SeqAt.shaped
    rw [show (PyData.list (pys ds)).canLay0 = true from by simp only [PyData.canLay0, b2], decide_eq_true (show (PyData.list (pys ds)).depth ≤ 64 from by simp only [PyData.depth]; omega)]
    rfl
  · have e : ((pys ds).any fun z => PyData.eqv z d.py) = inD d ds := by
      unfold inD
      clear b1 b2 b3 l2 x2 h
      induction ds with
      | nil => rfl
      | cons a as ih => simp only [pys, List.any_cons, ih]
    rw [e]
    exact q _ H _ (Same.refl H) (.bl _) h
end
end DL

set_option maxHeartbeats 4000000
namespace K04
open PySem PySem.Spec PyProof.Rows L2 DL
variable [Tb]
abbrev sDifferent : Stmt := topS 28
theorem scDifferent : FnScope ["_law_pen", "_law_menu", "_law_many", "_law_rest", "_law_found", "_law_k"] ["_law_pen", "_law_menu", "_law_many"] (defScope sDifferent) := ⟨rfl, rfl, rfl, by decide +kernel, rfl, by decide +kernel, by decide +kernel⟩
abbrev sFresh : Stmt := topS 29
theorem scFresh : FnScope ["_law_pen", "_law_at"] ["_law_pen", "_law_at"] (defScope sFresh) := ⟨rfl, rfl, rfl, by decide +kernel, rfl, by decide +kernel, by decide +kernel⟩
/-- all rows of k of these, none twice -/
def sels {α : Type} : Nat → List α → List (List α)
  | 0, _ => [[]]
  | k + 1, ms => (List.range ms.length).flatMap fun j => match ms[j]? with
    | some x => (sels k (ms.eraseIdx j)).map fun r => x :: r
    | none => []
theorem sels_step {α : Type} {k j : Nat} {ms r : List α} {x : α} (e : ms[j]? = some x) (h : r ∈ sels k (ms.eraseIdx j)) : x :: r ∈ sels (k + 1) ms := by
  unfold sels
  refine List.mem_flatMap.mpr ⟨j, List.mem_range.mpr (List.getElem?_eq_some_iff.mp e).1, ?_⟩
  rw [e]
  exact List.mem_map.mpr ⟨r, h, rfl⟩
section
variable {P : Program} {w : World} {K : PySem.W.Frag} {mg : Str → Option Value} {base : Heap} {f : Addr} {fd : FuncData} {k : Nat}
/-! ### _law_different -/
def WDiff : Nat → List Dt → (Dt → Nat → Prop) → Prop := fun n ds Φ => ∃ (d : Dt) (ms : List Dt) (m : Int), ds = [d, .int m] ∧ seqD d = some ms ∧ ms.length ≤ 9 ∧ 0 ≤ m ∧ n < 900000 ∧ ∀ fs : List Dt, fs ∈ sels (min m.toNat ms.length) ms → Φ (.tup fs) (n + 9)
theorem ok_different (F : Fun K "_law_different" "_law_different" sDifferent f fd) (B : Bt mg) (hmin : mg "min" = none) (dDraw : DF K mg "_law_draw" sDraw ["_law_pen", "_law_many"]) (gDraw : FnG P w K mg base CX0 k dDraw.f dDraw.fd ["_law_pen", "_law_many"] (spN K WDraw)) :
    FnG P w K mg base CX0 (k + 1) f fd ["_law_pen", "_law_menu", "_law_many"] (spN K WDiff) := by
  refine defN F scDifferent (fun n ds Φ ⟨d, ms, m, e, _⟩ => by rw [e]; rfl) (by decide) fun cdv A outer s H E hr hg => ?_
  refine ⟨_, pss_cons (ps_par (i := 3) (j := 4) (by rfl) scDifferent.nd rfl rfl (by decide) rfl rfl (pa_cons (pe_callTy (listK K rfl) (by rfl) B.list PyProof.Rows.boot_list (pa_cons (pv 1) pa_nil)) (pa_cons (pe_lst pa_nil) pa_nil)) (by rfl))
    <| pss_cons (ps_for PassesOwn.never rfl (pi_range1 (by rfl) B.range (pa_cons (pe_callB (call_min2 rfl) (by rfl) hmin PyProof.Rows.boot_min (pa_cons (pv 2) (pa_cons (pe_callB (lenK K rfl) (by rfl) B.len PySem.boot_len (pa_cons (pv 1) pa_nil)) pa_nil))) pa_nil)) (pg_name (i := 5) scDifferent.nd rfl (Or.inl rfl))
    (pss_one (ps_expr (pe_bm PySem.F.plainAttrs_list PySem.F.slot_list_append PySem.F.type_list_append mt_append (pv 4) (pa_cons (pe_bm PySem.F.plainAttrs_list PySem.F.slot_list_pop PySem.F.type_list_pop mt_popAt (pv 3) (pa_cons (pe_callG gDraw hr hg (by rfl) dDraw.g dDraw.F.kp dDraw.b .nil pass0 (pa_cons (pv 0) (pa_cons (pe_callB (lenK K rfl) (by rfl) B.len PySem.boot_len (pa_cons (pv 3) pa_nil)) pa_nil))) pa_nil)) pa_nil)))))
    <| pss_one (ps_ret (pe_callTy (tupleK K rfl) (by rfl) B.tuple PyProof.Rows.boot_tuple (pa_cons (pv 4) pa_nil))), ?_⟩
  rintro n ds Φ ⟨d, ms, m, rfl, hd, hm, hm0, hn, q⟩
  show Ws K _ [.pen n, .dat d, .dat (.int m), .any, .any, .any] _
  refine ws_seq <| ws_parLL (pf := false) <| wl_list <| wa_cons <| w_var (d := d) rfl <| wa_nil ⟨d, ms, rfl, hd, by show 3 < 6; decide, by show 4 < 6; decide, ?_⟩
  show Ws K _ [.pen n, .dat d, .dat (.int m), .own ms, .own [], .any] _
  have emin : (if (ms.length : Int) < m then (ms.length : Int) else m).toNat = min m.toNat ms.length := by
    by_cases c : (ms.length : Int) < m
    · rw [if_pos c]; omega
    · rw [if_neg c]; omega
  generalize hM : min m.toNat ms.length = N at emin q
  have hN : N ≤ ms.length := by omega
  refine ws_seqI (fun ρ' => ∃ (n' : Nat) (fs rs : List Dt), n' ≤ n + 9 ∧ fs ∈ sels N ms ∧ ρ' = [.pen n', .dat d, .dat (.int m), .own rs, .own fs, .any]) ?_ ?_
  · refine ws_for (js := [5]) (fun _ i ρ' => ∃ (n' : Nat) (fs rs : List Dt), i ≤ N ∧ n' ≤ n + i ∧ fs.length = i ∧ rs.length + i = ms.length ∧ (∀ t ∈ sels (N - i) rs, fs ++ t ∈ sels N ms) ∧ ρ' = [.pen n', .dat d, .dat (.int m), .own rs, .own fs, .any]) <| wi_rng1 (pf := true) <| wa_cons <| w_cb <| wa_cons <| w_var (d := .int m) rfl <| wa_cons <| w_cb <| wa_cons <| w_var (d := d) rfl <| wa_nil <| rd_len (lenD_seq hd) <| wa_nil <| rd_min2 <| wa_nil ⟨_, rfl, ?_, ?_, ⟨n, [], ms, Nat.zero_le _, by omega, rfl, by rfl, fun t ht => by simpa using ht, rfl⟩, ?_, ?_⟩
    · split <;> omega
    · split <;> omega
    · rintro i d2 ρ2 hd2 ⟨n', fs, rs, hi, hn', hf, hr2, hst, rfl⟩
      have hi2 : i < N := by have := (List.getElem?_eq_some_iff.mp hd2).1; rw [rangeD_len, emin] at this; omega
      have hrs : 0 < rs.length := by omega
      refine wg_name ?_
      show Ws K _ [.pen n', .dat d, .dat (.int m), .own rs, .own fs, .dat d2] _
      refine ws_wk <| ws_append (pf := false) (i := 4) (w_pop (i := 3) (w_callN (i := 0) rfl <| wa_cons <| wp_thaw (i := 3) (ds := rs) rfl <| w_cb <| wa_cons <| w_var (d := .lst rs) rfl <| wa_nil <| rd_len rfl ⟨rfl, wa_nil ⟨n', rfl, _, rfl, by omega, by omega, by omega, fun j hj => ?_⟩⟩) rfl) rfl
      have hj2 : j < rs.length := by omega
      refine ⟨rs, j, rs[j], rfl, rfl, List.getElem?_eq_getElem hj2, by omega, fs, rfl, by omega, ?_⟩
      refine ⟨_, .keep <| .keep <| .keep <| .keep <| .keep <| .drop .nil, n' + 1, fs ++ [rs[j]], rs.eraseIdx j, by omega, by omega, by rw [List.length_append, hf]; rfl, by rw [List.length_eraseIdx, if_pos hj2]; omega, fun t ht => ?_, rfl⟩
      have e1 : N - i = (N - (i + 1)) + 1 := by omega
      have := hst (rs[j] :: t) (by rw [e1]; exact sels_step (List.getElem?_eq_getElem hj2) ht)
      rw [List.append_assoc]
      exact this
    · rintro ρ2 ⟨n', fs, rs, hi, hn', hf, hr2, hst, rfl⟩
      rw [rangeD_len, emin] at hf hn' hi hst
      refine ⟨n', fs, rs, by omega, ?_, rfl⟩
      have := hst [] (by rw [Nat.sub_self]; exact List.mem_singleton.mpr rfl)
      rw [List.append_nil] at this
      exact this
  · rintro ρ' ⟨n', fs, rs, hn', hf, rfl⟩
    refine ws_freeze (i := 4) (ds := fs) rfl ?_
    exact ws_ret (pf := true) <| w_cb <| wa_cons <| w_var (d := .lst fs) rfl <| wa_nil <| rd_tuple rfl ⟨n + 9, _, rfl, .pen hn', q fs hf⟩
end
end K04

/-! Data level: not in over a tuple, in over a list, exactly. -/
namespace DL
open PySem PySem.Spec PyProof.Rows L2
variable [Tb]
def rNotInT (K : PySem.W.Frag) : R2 := fun x y H Q => ∃ d ds, DX K H x d ∧ DX K H y (.tup ds) ∧ layD d = true ∧ (∀ e ∈ ds, layD e = true) ∧ Q (.bl (!inD d ds)) H
def rInTL (K : PySem.W.Frag) : R2 := fun x y H Q => ∃ d ds, DX K H x d ∧ DX K H y (.lst ds) ∧ layD d = true ∧ (∀ e ∈ ds, layD e = true) ∧ Q (.bl (inD d ds)) H
section
variable {X : Cx} {pins : List (Addr × Obj)} {σ : L2.St} {H : Hp} {s : Shared}
theorem op_notInT (hu : X.A.units + 64 < cLine) : OpR X (compareOp .NotIn) (rNotInT X.K) := by
  intro pins s σ H x y v u Q I rx ry h
  obtain ⟨d, ds, hx, hy, l1, l2, q⟩ := h
  cases hy with
  | tup hs ha =>
    cases ry
    obtain ⟨its, rv, ht, _⟩ := I.tuple hs
    obtain ⟨bs, rd⟩ := Dp.reads I _ _ _ (hx.dp (layD_of l1).1) rx
    obtain ⟨a1, a2⟩ := lay_reads I rd l1 (A := X.A.in1) (by show X.A.units + 1 + 40 < cLine; omega) ha rv l2
    refine SeqAt.notIn_tupleAt (fun u => PyData.eqv (SeqAt.readOf s.heap u) d.py) ht (fun z hz => a1 z (by simpa using hz)) ⟨.bl (!inD d ds), H, I, ?_, q⟩
    rw [← a2]
    show Value.bool _ = Value.bool _
    simp
theorem op_inTL (hu : X.A.units + 64 < cLine) : OpR X (compareOp .In) (rInTL X.K) := by
  intro pins s σ H x y v u Q I rx ry h
  obtain ⟨d, ds, hx, hy, l1, l2, q⟩ := h
  cases hy with
  | lst hs ha =>
    cases ry
    obtain ⟨its, rv, hl, _⟩ := I.list hs
    obtain ⟨bs, rd⟩ := Dp.reads I _ _ _ (hx.dp (layD_of l1).1) rx
    obtain ⟨a1, a2⟩ := lay_reads I rd l1 (A := X.A.in1) (by show X.A.units + 1 + 40 < cLine; omega) ha rv l2
    refine SeqAt.in_listAt (fun u => PyData.eqv (SeqAt.readOf s.heap u) d.py) hl.isList (fun z hz => a1 z (by simpa using hz)) ⟨.bl (inD d ds), H, I, ?_, q⟩
    rw [← a2]
    show Value.bool _ = Value.bool _
    simp
end
theorem inTK {X : Cx} (K : PySem.W.Frag) (h : X.K = K) (hu : X.A.units + 64 < cLine) : OpR X (compareOp .In) (rInT K) := by subst h; exact op_inT hu
theorem notInTK {X : Cx} (K : PySem.W.Frag) (h : X.K = K) (hu : X.A.units + 64 < cLine) : OpR X (compareOp .NotIn) (rNotInT K) := by subst h; exact op_notInT hu
theorem inTLK {X : Cx} (K : PySem.W.Frag) (h : X.K = K) (hu : X.A.units + 64 < cLine) : OpR X (compareOp .In) (rInTL K) := by subst h; exact op_inTL hu
section
variable {K : PySem.W.Frag} {Ψ : Dt → Prop} {d : Dt} {ds : List Dt}
theorem od_notInT (l1 : layD d = true) (l2 : ∀ e ∈ ds, layD e = true) (h : Ψ (.bl (!inD d ds))) : OD K (rNotInT K) d (.tup ds) Ψ := fun M H u v m h1 h2 Q q =>
  ⟨d, ds, h1.mono (cut_sub M H), h2.mono (cut_sub M H), l1, l2, q _ H _ (Same.refl H) (.bl _) h⟩
theorem od_inTL (l1 : layD d = true) (l2 : ∀ e ∈ ds, layD e = true) (h : Ψ (.bl (inD d ds))) : OD K (rInTL K) d (.lst ds) Ψ := fun M H u v m h1 h2 Q q =>
  ⟨d, ds, h1.mono (cut_sub M H), h2.mono (cut_sub M H), l1, l2, q _ H _ (Same.refl H) (.bl _) h⟩
end
end DL

set_option maxHeartbeats 8000000
namespace K04
open PySem PySem.Spec PyProof.Rows L2 DL
variable [Tb]
/-! ### what is drawn for each part -/
def menuL : List Dt := [.str "b", .str "c", .str "dd", .str "e"]
def menuT : List Dt := [.tup [.str "sleep", .int 1, .int 1], .tup [.str "sleep", .int 2, .int 0], .tup [.str "wake", .int 1, .int 2]]
def upto3 (ms : List Dt) : List Dt := (List.range 4).flatMap fun k => (sels k ms).map Dt.tup
def freshS : Nat → List Dt
  | 0 => [.str "a", .str "isle", .str "zzzzzzzz"]
  | 1 => [.int 1, .int 2, .int 3]
  | 2 => [.int 1, .int 2, .int 3]
  | 3 => upto3 menuL
  | 4 => upto3 menuL
  | 5 => [.bl true, .bl false]
  | 6 => (sels 3 (rowSl.map Dt.str)).map Dt.tup
  | 7 => (sels 2 (rowWk.map Dt.str)).map Dt.tup
  | _ => upto3 menuT
theorem some_mem {ms fs : List Dt} {k : Nat} (hk : k < 4) (h : fs ∈ sels k ms) : Dt.tup fs ∈ upto3 ms :=
  List.mem_flatMap.mpr ⟨k, List.mem_range.mpr hk, List.mem_map.mpr ⟨fs, h, rfl⟩⟩
theorem amt_mem {r : Nat} (h : r < 3) : Dt.int (1 + (r : Int)) ∈ ([.int 1, .int 2, .int 3] : List Dt) := by
  match r, h with
  | 0, _ => simp
  | 1, _ => simp
  | 2, _ => simp
theorem bool_mem (b : Bool) : Dt.bl b ∈ ([.bl true, .bl false] : List Dt) := by cases b <;> simp
theorem layInt (i : Int) (h : i.natAbs < 100) : layD (.int i) = true := by
  unfold layD
  simp only [Dt.seqs, Dt.py, PyData.canLay0, PyData.depth, Bool.true_and, Bool.and_true]
  first | decide | (simp; done) | (simp; omega)
theorem lay2 (i j : Int) (hi : i.natAbs < 100) (hj : j.natAbs < 100) : ∀ e ∈ ([.int i, .int j] : List Dt), layD e = true := fun e he => by
  simp only [List.mem_cons, List.not_mem_nil, or_false] at he
  rcases he with rfl | rfl
  · exact layInt _ hi
  · exact layInt _ hj
abbrev sPickA : Stmt := sPick
section
variable {P : Program} {w : World} {K : PySem.W.Frag} {mg : Str → Option Value} {base : Heap} {f : Addr} {fd : FuncData} {k : Nat}
def WFresh : Nat → List Dt → (Dt → Nat → Prop) → Prop := fun n ds Φ => ∃ at_ : Nat, ds = [.int at_] ∧ at_ < 9 ∧ n < 800000 ∧ ∀ d ∈ freshS at_, Φ d (n + 20)
theorem ok_fresh (F : Fun K "_law_fresh" "_law_fresh" sFresh f fd) (dDraw : DF K mg "_law_draw" sDraw ["_law_pen", "_law_many"]) (gDraw : FnG P w K mg base CX0 k dDraw.f dDraw.fd ["_law_pen", "_law_many"] (spN K WDraw))
    (dPick : DF K mg "_law_pick" sPick ["_law_pen", "_law_some"]) (gPick : FnG P w K mg base CX0 k dPick.f dPick.fd ["_law_pen", "_law_some"] (spN K WPick))
    (dDifferent : DF K mg "_law_different" sDifferent ["_law_pen", "_law_menu", "_law_many"]) (gDifferent : FnG P w K mg base CX0 k dDifferent.f dDifferent.fd ["_law_pen", "_law_menu", "_law_many"] (spN K WDiff)) :
    FnG P w K mg base CX0 (k + 1) f fd ["_law_pen", "_law_at"] (spN K WFresh) := by
  refine defN F scFresh (fun n ds Φ ⟨m, e, _⟩ => by rw [e]; rfl) (by decide) fun cdv A outer s H E hr hg => ?_
  refine ⟨_, pss_cons (ps_if (pt_cmpR op_eq (pv 1) pe_int (nomark _))
    (pss_one (ps_ret (pe_callG gPick hr hg (by rfl) dPick.g dPick.F.kp dPick.b .nil pass0 (pa_cons (pv 0) (pa_cons (pe_lst (pa_cons pe_str (pa_cons pe_str (pa_cons pe_str pa_nil)))) pa_nil)))))
    pss_nil)
    <| pss_cons (ps_if (pt_cmpR (inTLK K rfl hr.units) (pv 1) (pe_lst (pa_cons pe_int (pa_cons pe_int pa_nil))) (by rfl))
    (pss_one (ps_ret (pe_op op_add pe_int (pe_callG gDraw hr hg (by rfl) dDraw.g dDraw.F.kp dDraw.b .nil pass0 (pa_cons (pv 0) (pa_cons pe_int pa_nil))))))
    pss_nil)
    <| pss_cons (ps_if (pt_cmpR (inTLK K rfl hr.units) (pv 1) (pe_lst (pa_cons pe_int (pa_cons pe_int pa_nil))) (by rfl))
    (pss_one (ps_ret (pe_callG gDifferent hr hg (by rfl) dDifferent.g dDifferent.F.kp dDifferent.b .nil pass0 (pa_cons (pv 0) (pa_cons (pe_lst (pa_cons pe_str (pa_cons pe_str (pa_cons pe_str (pa_cons pe_str pa_nil))))) (pa_cons (pe_callG gDraw hr hg (by rfl) dDraw.g dDraw.F.kp dDraw.b .nil pass0 (pa_cons (pv 0) (pa_cons pe_int pa_nil))) pa_nil))))))
    pss_nil)
    <| pss_cons (ps_if (pt_cmpR op_eq (pv 1) pe_int (nomark _))
    (pss_one (ps_ret (pe_cmpR op_gt (pe_callG gDraw hr hg (by rfl) dDraw.g dDraw.F.kp dDraw.b .nil pass0 (pa_cons (pv 0) (pa_cons pe_int pa_nil))) pe_int (nomark _))))
    pss_nil)
    <| pss_cons (ps_if (pt_cmpR op_eq (pv 1) pe_int (nomark _))
    (pss_one (ps_ret (pe_callG gDifferent hr hg (by rfl) dDifferent.g dDifferent.F.kp dDifferent.b .nil pass0 (pa_cons (pv 0) (pa_cons (pe_lst (pa_cons pe_str (pa_cons pe_str (pa_cons pe_str (pa_cons pe_str pa_nil))))) (pa_cons pe_int pa_nil))))))
    pss_nil)
    <| pss_cons (ps_if (pt_cmpR op_eq (pv 1) pe_int (nomark _))
    (pss_one (ps_ret (pe_callG gDifferent hr hg (by rfl) dDifferent.g dDifferent.F.kp dDifferent.b .nil pass0 (pa_cons (pv 0) (pa_cons (pe_lst (pa_cons pe_str (pa_cons pe_str (pa_cons pe_str (pa_cons pe_str (pa_cons pe_str pa_nil)))))) (pa_cons pe_int pa_nil))))))
    pss_nil)
    <| pss_one (ps_ret (pe_callG gDifferent hr hg (by rfl) dDifferent.g dDifferent.F.kp dDifferent.b .nil pass0 (pa_cons (pv 0) (pa_cons (pe_lst (pa_cons (pe_tup (pa_cons pe_str (pa_cons pe_int (pa_cons pe_int pa_nil)))) (pa_cons (pe_tup (pa_cons pe_str (pa_cons pe_int (pa_cons pe_int pa_nil)))) (pa_cons (pe_tup (pa_cons pe_str (pa_cons pe_int (pa_cons pe_int pa_nil)))) pa_nil)))) (pa_cons (pe_callG gDraw hr hg (by rfl) dDraw.g dDraw.F.kp dDraw.b .nil pass0 (pa_cons (pv 0) (pa_cons pe_int pa_nil))) pa_nil))))), ?_⟩
  rintro n ds Φ ⟨at_, rfl, hat, hn, q⟩
  show Ws K _ [.pen n, .dat (.int at_)] _
  have draw : ∀ {ρ : List Sl} {many : Nat} {m : Nat} {Ψ : Dt → List Sl → Prop}, ρ[0]? = some (.pen m) → 0 < many → many ≤ 100 → m < 900000 → (∀ r : Nat, r < many → Ψ (.int (r : Nat)) (pens (m + 1) ρ)) → Wp K false (tCall (spN K WDraw) [] E0 (tCons (tVar 0) (tCons (tC (.int (many : Nat))) tNil))) ρ Ψ := fun {ρ many m Ψ} e h0 h1 hm h => w_callN (i := 0) e <| wa_cons <| w_c (fun _ => .int _) <| wa_nil ⟨m, e, (many : Nat), rfl, by omega, by omega, by omega, fun r hr => h r (by omega)⟩
  have trip : ∀ {ρ : List Sl} {x : Str} {i j : Int} {Ψ : Dt → List Sl → Prop}, Ψ (.tup [.str x, .int i, .int j]) ρ → Wp K false (tTup (tCons (tC (.str x)) (tCons (tC (.int i)) (tCons (tC (.int j)) tNil)))) ρ Ψ := fun h => w_tup <| wa_cons <| w_c (fun _ => .str _) <| wa_cons <| w_c (fun _ => .int _) <| wa_cons <| w_c (fun _ => .int _) <| wa_nil ⟨by show 3 ≤ 100000; decide, h⟩
  obtain rfl | rfl | rfl | rfl | rfl | rfl | rfl | rfl | rfl : at_ = 0 ∨ at_ = 1 ∨ at_ = 2 ∨ at_ = 3 ∨ at_ = 4 ∨ at_ = 5 ∨ at_ = 6 ∨ at_ = 7 ∨ at_ = 8 := by omega
  · exact ws_seq <| ws_if (pf := true) <| wt_test <| w_op <| w_var (d := .int 0) rfl <| w_c (fun _ => .int 0) <| od_eqi ⟨true, congrArg Dt.bl (by decide +kernel), ifT <| ws_ret (pf := false) <| w_callN (i := 0) rfl <| wa_cons <| w_lst <| wa_cons <| w_c (fun _ => .str _) <| wa_cons <| w_c (fun _ => .str _) <| wa_cons <| w_c (fun _ => .str _) <| wa_nil ⟨by show 3 ≤ 100000; decide, wa_nil ⟨n, rfl, _, _, rfl, rfl, by show 0 < 3; decide, by show 3 ≤ 1000; decide, by omega, fun x hx => ⟨n + 20, _, rfl, .pen (by omega), q x hx⟩⟩⟩⟩
  · exact ws_seq <| ws_if (pf := true) <| wt_test <| w_op <| w_var (d := .int 1) rfl <| w_c (fun _ => .int 0) <| od_eqi ⟨false, congrArg Dt.bl (by decide +kernel), ifF <| ws_next <| ws_seq <| ws_if (pf := true) <| wt_test <| w_op <| w_var (d := .int 1) rfl <| w_lst <| wa_cons <| w_c (fun _ => .int 1) <| wa_cons <| w_c (fun _ => .int 2) <| wa_nil ⟨by show 2 ≤ 100000; decide, od_inTL (layInt _ (by decide)) (lay2 _ _ (by decide) (by decide)) ⟨true, congrArg Dt.bl (by decide +kernel), ifT <| ws_ret (pf := false) <| w_op <| w_c (fun _ => .int 1) <| draw (many := 3) rfl (by decide) (by decide) (by omega) fun r hr => od_I0i ⟨n + 20, _, rfl, .pen (by omega), q _ (amt_mem hr)⟩⟩⟩⟩
  · exact ws_seq <| ws_if (pf := true) <| wt_test <| w_op <| w_var (d := .int 2) rfl <| w_c (fun _ => .int 0) <| od_eqi ⟨false, congrArg Dt.bl (by decide +kernel), ifF <| ws_next <| ws_seq <| ws_if (pf := true) <| wt_test <| w_op <| w_var (d := .int 2) rfl <| w_lst <| wa_cons <| w_c (fun _ => .int 1) <| wa_cons <| w_c (fun _ => .int 2) <| wa_nil ⟨by show 2 ≤ 100000; decide, od_inTL (layInt _ (by decide)) (lay2 _ _ (by decide) (by decide)) ⟨true, congrArg Dt.bl (by decide +kernel), ifT <| ws_ret (pf := false) <| w_op <| w_c (fun _ => .int 1) <| draw (many := 3) rfl (by decide) (by decide) (by omega) fun r hr => od_I0i ⟨n + 20, _, rfl, .pen (by omega), q _ (amt_mem hr)⟩⟩⟩⟩
  · exact ws_seq <| ws_if (pf := true) <| wt_test <| w_op <| w_var (d := .int 3) rfl <| w_c (fun _ => .int 0) <| od_eqi ⟨false, congrArg Dt.bl (by decide +kernel), ifF <| ws_next <| ws_seq <| ws_if (pf := true) <| wt_test <| w_op <| w_var (d := .int 3) rfl <| w_lst <| wa_cons <| w_c (fun _ => .int 1) <| wa_cons <| w_c (fun _ => .int 2) <| wa_nil ⟨by show 2 ≤ 100000; decide, od_inTL (layInt _ (by decide)) (lay2 _ _ (by decide) (by decide)) ⟨false, congrArg Dt.bl (by decide +kernel), ifF <| ws_next <| ws_seq <| ws_if (pf := true) <| wt_test <| w_op <| w_var (d := .int 3) rfl <| w_lst <| wa_cons <| w_c (fun _ => .int 3) <| wa_cons <| w_c (fun _ => .int 4) <| wa_nil ⟨by show 2 ≤ 100000; decide, od_inTL (layInt _ (by decide)) (lay2 _ _ (by decide) (by decide)) ⟨true, congrArg Dt.bl (by decide +kernel), ifT <| ws_ret (pf := false) <| w_callN (i := 0) rfl <| wa_cons <| w_lst <| wa_cons <| w_c (fun _ => .str _) <| wa_cons <| w_c (fun _ => .str _) <| wa_cons <| w_c (fun _ => .str _) <| wa_cons <| w_c (fun _ => .str _) <| wa_nil ⟨by show 4 ≤ 100000; decide, wa_cons <| draw (many := 4) rfl (by decide) (by decide) (by omega) fun r hr => wa_nil ⟨n + 1, rfl, _, menuL, (r : Nat), rfl, rfl, by decide, by omega, by omega, fun fs hf => ⟨n + 20, _, rfl, .pen (by omega), q _ (some_mem (show min (r : Int).toNat menuL.length < 4 from Nat.lt_of_le_of_lt (Nat.min_le_left _ _) (by omega)) hf)⟩⟩⟩⟩⟩⟩⟩⟩
  · exact ws_seq <| ws_if (pf := true) <| wt_test <| w_op <| w_var (d := .int 4) rfl <| w_c (fun _ => .int 0) <| od_eqi ⟨false, congrArg Dt.bl (by decide +kernel), ifF <| ws_next <| ws_seq <| ws_if (pf := true) <| wt_test <| w_op <| w_var (d := .int 4) rfl <| w_lst <| wa_cons <| w_c (fun _ => .int 1) <| wa_cons <| w_c (fun _ => .int 2) <| wa_nil ⟨by show 2 ≤ 100000; decide, od_inTL (layInt _ (by decide)) (lay2 _ _ (by decide) (by decide)) ⟨false, congrArg Dt.bl (by decide +kernel), ifF <| ws_next <| ws_seq <| ws_if (pf := true) <| wt_test <| w_op <| w_var (d := .int 4) rfl <| w_lst <| wa_cons <| w_c (fun _ => .int 3) <| wa_cons <| w_c (fun _ => .int 4) <| wa_nil ⟨by show 2 ≤ 100000; decide, od_inTL (layInt _ (by decide)) (lay2 _ _ (by decide) (by decide)) ⟨true, congrArg Dt.bl (by decide +kernel), ifT <| ws_ret (pf := false) <| w_callN (i := 0) rfl <| wa_cons <| w_lst <| wa_cons <| w_c (fun _ => .str _) <| wa_cons <| w_c (fun _ => .str _) <| wa_cons <| w_c (fun _ => .str _) <| wa_cons <| w_c (fun _ => .str _) <| wa_nil ⟨by show 4 ≤ 100000; decide, wa_cons <| draw (many := 4) rfl (by decide) (by decide) (by omega) fun r hr => wa_nil ⟨n + 1, rfl, _, menuL, (r : Nat), rfl, rfl, by decide, by omega, by omega, fun fs hf => ⟨n + 20, _, rfl, .pen (by omega), q _ (some_mem (show min (r : Int).toNat menuL.length < 4 from Nat.lt_of_le_of_lt (Nat.min_le_left _ _) (by omega)) hf)⟩⟩⟩⟩⟩⟩⟩⟩
  · exact ws_seq <| ws_if (pf := true) <| wt_test <| w_op <| w_var (d := .int 5) rfl <| w_c (fun _ => .int 0) <| od_eqi ⟨false, congrArg Dt.bl (by decide +kernel), ifF <| ws_next <| ws_seq <| ws_if (pf := true) <| wt_test <| w_op <| w_var (d := .int 5) rfl <| w_lst <| wa_cons <| w_c (fun _ => .int 1) <| wa_cons <| w_c (fun _ => .int 2) <| wa_nil ⟨by show 2 ≤ 100000; decide, od_inTL (layInt _ (by decide)) (lay2 _ _ (by decide) (by decide)) ⟨false, congrArg Dt.bl (by decide +kernel), ifF <| ws_next <| ws_seq <| ws_if (pf := true) <| wt_test <| w_op <| w_var (d := .int 5) rfl <| w_lst <| wa_cons <| w_c (fun _ => .int 3) <| wa_cons <| w_c (fun _ => .int 4) <| wa_nil ⟨by show 2 ≤ 100000; decide, od_inTL (layInt _ (by decide)) (lay2 _ _ (by decide) (by decide)) ⟨false, congrArg Dt.bl (by decide +kernel), ifF <| ws_next <| ws_seq <| ws_if (pf := true) <| wt_test <| w_op <| w_var (d := .int 5) rfl <| w_c (fun _ => .int 5) <| od_eqi ⟨true, congrArg Dt.bl (by decide +kernel), ifT <| ws_ret (pf := false) <| w_op <| draw (many := 3) rfl (by decide) (by decide) (by omega) fun r hr => w_c (fun _ => .int 0) <| od_I0b ⟨n + 20, _, rfl, .pen (by omega), q _ (bool_mem _)⟩⟩⟩⟩⟩⟩⟩
  · exact ws_seq <| ws_if (pf := true) <| wt_test <| w_op <| w_var (d := .int 6) rfl <| w_c (fun _ => .int 0) <| od_eqi ⟨false, congrArg Dt.bl (by decide +kernel), ifF <| ws_next <| ws_seq <| ws_if (pf := true) <| wt_test <| w_op <| w_var (d := .int 6) rfl <| w_lst <| wa_cons <| w_c (fun _ => .int 1) <| wa_cons <| w_c (fun _ => .int 2) <| wa_nil ⟨by show 2 ≤ 100000; decide, od_inTL (layInt _ (by decide)) (lay2 _ _ (by decide) (by decide)) ⟨false, congrArg Dt.bl (by decide +kernel), ifF <| ws_next <| ws_seq <| ws_if (pf := true) <| wt_test <| w_op <| w_var (d := .int 6) rfl <| w_lst <| wa_cons <| w_c (fun _ => .int 3) <| wa_cons <| w_c (fun _ => .int 4) <| wa_nil ⟨by show 2 ≤ 100000; decide, od_inTL (layInt _ (by decide)) (lay2 _ _ (by decide) (by decide)) ⟨false, congrArg Dt.bl (by decide +kernel), ifF <| ws_next <| ws_seq <| ws_if (pf := true) <| wt_test <| w_op <| w_var (d := .int 6) rfl <| w_c (fun _ => .int 5) <| od_eqi ⟨false, congrArg Dt.bl (by decide +kernel), ifF <| ws_next <| ws_seq <| ws_if (pf := true) <| wt_test <| w_op <| w_var (d := .int 6) rfl <| w_c (fun _ => .int 6) <| od_eqi ⟨true, congrArg Dt.bl (by decide +kernel), ifT <| ws_ret (pf := false) <| w_callN (i := 0) rfl <| wa_cons <| w_lst <| wa_cons <| w_c (fun _ => .str _) <| wa_cons <| w_c (fun _ => .str _) <| wa_cons <| w_c (fun _ => .str _) <| wa_cons <| w_c (fun _ => .str _) <| wa_nil ⟨by show 4 ≤ 100000; decide, wa_cons <| w_c (fun _ => .int 3) <| wa_nil ⟨n, rfl, _, rowSl.map Dt.str, 3, rfl, rfl, by decide, by decide, by omega, fun fs hf => ⟨n + 20, _, rfl, .pen (by omega), q _ (List.mem_map.mpr ⟨fs, hf, rfl⟩)⟩⟩⟩⟩⟩⟩⟩⟩⟩⟩
  · exact ws_seq <| ws_if (pf := true) <| wt_test <| w_op <| w_var (d := .int 7) rfl <| w_c (fun _ => .int 0) <| od_eqi ⟨false, congrArg Dt.bl (by decide +kernel), ifF <| ws_next <| ws_seq <| ws_if (pf := true) <| wt_test <| w_op <| w_var (d := .int 7) rfl <| w_lst <| wa_cons <| w_c (fun _ => .int 1) <| wa_cons <| w_c (fun _ => .int 2) <| wa_nil ⟨by show 2 ≤ 100000; decide, od_inTL (layInt _ (by decide)) (lay2 _ _ (by decide) (by decide)) ⟨false, congrArg Dt.bl (by decide +kernel), ifF <| ws_next <| ws_seq <| ws_if (pf := true) <| wt_test <| w_op <| w_var (d := .int 7) rfl <| w_lst <| wa_cons <| w_c (fun _ => .int 3) <| wa_cons <| w_c (fun _ => .int 4) <| wa_nil ⟨by show 2 ≤ 100000; decide, od_inTL (layInt _ (by decide)) (lay2 _ _ (by decide) (by decide)) ⟨false, congrArg Dt.bl (by decide +kernel), ifF <| ws_next <| ws_seq <| ws_if (pf := true) <| wt_test <| w_op <| w_var (d := .int 7) rfl <| w_c (fun _ => .int 5) <| od_eqi ⟨false, congrArg Dt.bl (by decide +kernel), ifF <| ws_next <| ws_seq <| ws_if (pf := true) <| wt_test <| w_op <| w_var (d := .int 7) rfl <| w_c (fun _ => .int 6) <| od_eqi ⟨false, congrArg Dt.bl (by decide +kernel), ifF <| ws_next <| ws_seq <| ws_if (pf := true) <| wt_test <| w_op <| w_var (d := .int 7) rfl <| w_c (fun _ => .int 7) <| od_eqi ⟨true, congrArg Dt.bl (by decide +kernel), ifT <| ws_ret (pf := false) <| w_callN (i := 0) rfl <| wa_cons <| w_lst <| wa_cons <| w_c (fun _ => .str _) <| wa_cons <| w_c (fun _ => .str _) <| wa_cons <| w_c (fun _ => .str _) <| wa_cons <| w_c (fun _ => .str _) <| wa_cons <| w_c (fun _ => .str _) <| wa_nil ⟨by show 5 ≤ 100000; decide, wa_cons <| w_c (fun _ => .int 2) <| wa_nil ⟨n, rfl, _, rowWk.map Dt.str, 2, rfl, rfl, by decide, by decide, by omega, fun fs hf => ⟨n + 20, _, rfl, .pen (by omega), q _ (List.mem_map.mpr ⟨fs, hf, rfl⟩)⟩⟩⟩⟩⟩⟩⟩⟩⟩⟩⟩
  · exact ws_seq <| ws_if (pf := true) <| wt_test <| w_op <| w_var (d := .int 8) rfl <| w_c (fun _ => .int 0) <| od_eqi ⟨false, congrArg Dt.bl (by decide +kernel), ifF <| ws_next <| ws_seq <| ws_if (pf := true) <| wt_test <| w_op <| w_var (d := .int 8) rfl <| w_lst <| wa_cons <| w_c (fun _ => .int 1) <| wa_cons <| w_c (fun _ => .int 2) <| wa_nil ⟨by show 2 ≤ 100000; decide, od_inTL (layInt _ (by decide)) (lay2 _ _ (by decide) (by decide)) ⟨false, congrArg Dt.bl (by decide +kernel), ifF <| ws_next <| ws_seq <| ws_if (pf := true) <| wt_test <| w_op <| w_var (d := .int 8) rfl <| w_lst <| wa_cons <| w_c (fun _ => .int 3) <| wa_cons <| w_c (fun _ => .int 4) <| wa_nil ⟨by show 2 ≤ 100000; decide, od_inTL (layInt _ (by decide)) (lay2 _ _ (by decide) (by decide)) ⟨false, congrArg Dt.bl (by decide +kernel), ifF <| ws_next <| ws_seq <| ws_if (pf := true) <| wt_test <| w_op <| w_var (d := .int 8) rfl <| w_c (fun _ => .int 5) <| od_eqi ⟨false, congrArg Dt.bl (by decide +kernel), ifF <| ws_next <| ws_seq <| ws_if (pf := true) <| wt_test <| w_op <| w_var (d := .int 8) rfl <| w_c (fun _ => .int 6) <| od_eqi ⟨false, congrArg Dt.bl (by decide +kernel), ifF <| ws_next <| ws_seq <| ws_if (pf := true) <| wt_test <| w_op <| w_var (d := .int 8) rfl <| w_c (fun _ => .int 7) <| od_eqi ⟨false, congrArg Dt.bl (by decide +kernel), ifF <| ws_next <| ws_ret (pf := false) <| w_callN (i := 0) rfl <| wa_cons <| w_lst <| wa_cons <| trip <| wa_cons <| trip <| wa_cons <| trip <| wa_nil ⟨by show 3 ≤ 100000; decide, wa_cons <| draw (many := 4) rfl (by decide) (by decide) (by omega) fun r hr => wa_nil ⟨n + 1, rfl, _, menuT, (r : Nat), rfl, rfl, by decide, by omega, by omega, fun fs hf => ⟨n + 20, _, rfl, .pen (by omega), q _ (some_mem (show min (r : Int).toNat menuT.length < 4 from Nat.lt_of_le_of_lt (Nat.min_le_left _ _) (by omega)) hf)⟩⟩⟩⟩⟩⟩⟩⟩⟩⟩⟩
end
end K04

/-! Data level: sorted(t) of a tuple of texts. -/
namespace DL
open PySem PySem.Spec PyProof.Rows L2
variable [Tb]
section
variable {prog : Program} {w : World} {A : Around} {E : Value → Shared → Prop} {s : Shared}
/-- sorted(t): what the library collects of the tuple is laid in a list of its own, that one is sorted -/
theorem sortedTupS {t : Addr} {us : List Value} {ss : List Str} {R : Value → Shared → Prop} (ht : s.heap.IsTuple t us.toArray) (hs : StrsAre us ss) (hn : us.length ≤ sizeLine)
    (k : ∀ (h : Heap) (a : Addr) (e : Nat) (out : Array Value) (ss' : List Str), StrsAre out.toList ss' → ss'.Perm ss → sortedS ss' = true → s.heap.get? a = none → (∀ b o, s.heap.get? b = some o → h.get? b = some o) → h.get? a = some (seqObj "list" out e) → R (.ref a) { s with heap := h }) :
    wpAny (model prog w) A (call (.builtin "sorted") [.ref t]) R E s := by
  obtain ⟨o, ho, hc, n, hd⟩ := ht
  refine Calls.call_function_entry kind_sorted plain_sorted entry_sorted (args_sorted1 _) ?_
  refine wpAny_bind (m := checkCount "sorted" 1 1 _) (wpAny_pure (wpAny_bind (wpAny_collect_seq t (.inr rfl) ho hc hd (fun h1 kp => wpAny_bind (wpAny_newList ?_ hn)) (by simpa using hn))))
  have gone : s.heap.get? h1.objs.size = none := by
    cases e : s.heap.get? h1.objs.size with
    | none => rfl
    | some u => exact absurd (Heap.lt_size (kp _ _ e)) (Nat.lt_irrefl _)
  have new : (h1.push (seqObj "list" us.toArray 0)).get? h1.objs.size = some (seqObj "list" us.toArray 0) := Heap.get?_push_size _ rfl
  refine wpAny_bind (wpAny_holding (wpAny_call_entry slot_list_sort ⟨_, new, rfl⟩ entry_list_sort (list_sort_treeKAny strKind_oneLt new hs.keysOf (fun v₁ v₂ rest e => keyKind_strs (by rw [← e]; exact hs)) hn fun st p q => ⟨_, rfl, wpAny_pure ⟨_, rfl, ?_⟩⟩) (args_list_sort _)))
  obtain ⟨ss', z1, z2, z3⟩ := sorted_out_str hs p q
  obtain ⟨e, at_⟩ := sortedHeap_at (out := (arrOf st).map (·.2)) new
  refine k _ _ e _ ss' z1 z2 z3 gone (fun b u z => ?_) at_
  have lt := Heap.lt_size (kp _ _ z)
  exact (sortedHeap_old (Nat.ne_of_lt lt) (by rw [size_push']; exact Nat.lt_succ_of_lt lt)).trans (Heap.get?_push_of_some _ (kp _ _ z))
end
def rSortedTS (K : PySem.W.Frag) : List V → Hp → VK → Prop := fun vs H Q => ∃ (a : Addr) (ss : List Str), vs = [V.ref a] ∧ SqT K H a (ss.map V.str) ∧ ∀ (ss' : List Str) (p : Addr), ss'.Perm ss → sortedS ss' = true → H p = none → Q (.ref p) (upd H p (.lst (ss'.map V.str)))
theorem cr_sortedTS {X : Cx} : CallR X (.builtin "sorted") (rSortedTS X.K) := by
  intro pins s σ H vs us Q I r h
  obtain ⟨a, ss, rfl, hs, q⟩ := h
  obtain ⟨its, rv, hl, hz⟩ := I.tuple hs
  rw [Vals.ref1 r]
  refine sortedTupS hl rv.strs (by rw [← rv.length]; exact hz) fun h a e out ss' h1 h2 h3 na kp at_ => ?_
  have hlen : (ss'.map V.str).length ≤ sizeLine := by rw [List.length_map, h2.length_eq]; rw [List.length_map] at hz; exact hz
  have free := I.hok.gone na
  exact ⟨.ref a, _, I.laidN (t' := s.toks) kp na free (show ObjOk X.prog X.w _ h a (.lst (ss'.map V.str)) from ⟨hlen, out.toList, e, vals_of_strs h1, at_⟩), rfl, q _ _ h2 h3 free⟩
section
variable {K : PySem.W.Frag} {Ψ : Dt → Prop} {ss : List Str}
theorem rd_sortedTS (h : ∀ ss', ss'.Perm ss → sortedS ss' = true → Ψ (.lst (ss'.map Dt.str))) : RD K (rSortedTS K) [.tup (ss.map Dt.str)] Ψ := fun M H vs m xx Q q => by
  obtain ⟨v, rfl, x⟩ := one_v xx
  cases x with
  | tup hs ha =>
    rw [ha.strs] at hs
    exact ⟨_, ss, rfl, same_T (cut_sub M H) hs, fun ss' p h1 h2 hp => q _ _ _ (same_new hp) (dx_new_l m hp (dxs_strs _)) (h ss' h1 h2)⟩
end
end DL

set_option maxHeartbeats 4000000
namespace K04
open PySem PySem.Spec PyProof.Rows L2 DL
variable [Tb]
/-! ### sorted texts are one row alone -/
def leS (a b : Str) : Prop := ltCps b.cps.toList a.cps.toList = false
theorem leS_iff (a b : Str) : leS a b ↔ a.cps.toList ≤ b.cps.toList := by
  unfold leS
  rw [ltCps_eq, decide_eq_false_iff_not, List.not_lt]
theorem leS_trans {a b c : Str} (h1 : leS a b) (h2 : leS b c) : leS a c := by
  rw [leS_iff] at h1 h2 ⊢
  exact List.le_trans h1 h2
theorem leS_anti {a b : Str} (h1 : leS a b) (h2 : leS b a) : a = b := by
  rw [leS_iff] at h1 h2
  have e := List.le_antisymm h1 h2
  obtain ⟨⟨x⟩⟩ := a
  obtain ⟨⟨y⟩⟩ := b
  have e : x = y := e
  rw [e]
theorem rising_pw : ∀ {p : Str} {ss : List Str}, risingS p ss = true → (p :: ss).Pairwise leS
  | p, [], _ => List.pairwise_singleton ..
  | p, x :: r, h => by
    simp only [risingS, Bool.and_eq_true, Bool.not_eq_true'] at h
    have ih := rising_pw (p := x) (ss := r) h.2
    rw [List.pairwise_cons] at ih ⊢
    refine ⟨fun y hy => ?_, List.pairwise_cons.mpr ih⟩
    rcases List.mem_cons.mp hy with rfl | hy
    · exact h.1
    · exact leS_trans h.1 (ih.1 y hy)
theorem sorted_one {s t : List Str} (h : s.Perm t) (hs : sortedS s = true) (ht : sortedS t = true) : s = t := by
  have pw : ∀ {u : List Str}, sortedS u = true → u.Pairwise leS := fun {u} hu => by
    cases u with
    | nil => exact .nil
    | cons x r => exact rising_pw hu
  exact List.Perm.eq_of_pairwise (fun a b _ _ h1 h2 => leS_anti h1 h2) (pw hs) (pw ht) h
/-! ### texts -/
def qs (d : Dt) : List Nat := d.py.shown.cps.toList
def shB (d : Dt) : Bool := d.pure && (d.py.showable && (decide (d.py.depth ≤ 3) && (d.py.leavesShort 600 && decide (d.py.weight ≤ 300))))
theorem sh_of {d : Dt} (h : shB d = true) : Sh 3 300 d := by
  unfold shB at h
  rw [Bool.and_eq_true, Bool.and_eq_true, Bool.and_eq_true, Bool.and_eq_true, decide_eq_true_eq, decide_eq_true_eq] at h
  exact ⟨h.1, h.2.1, h.2.2.1, h.2.2.2.1, h.2.2.2.2⟩
def sep : List Nat := [44, 32]
def pfree (S : List Dt) : Bool := (S.map qs).all fun x => (S.map qs).all fun y => x == y || !((x ++ sep).isPrefixOf (y ++ sep))
def eqvOk (S : List Dt) : Bool := S.all fun a => S.all fun b => PyData.eqv a.py b.py == (qs a == qs b)
def lenOf : Dt → Nat
  | .str z => z.length
  | _ => 0
def isS : Dt → Bool
  | .str _ => true
  | _ => false
def ok0 (d : Dt) : Bool := isS d && (shortD d && (DL.isOwn d && (layD d && (shB d && decide (lenOf d ≤ 8)))))
def ok1 (d : Dt) : Bool := noTy d && (amountD d && (layD d && (shB d && (decide (1 ≤ intOf d) && decide (intOf d ≤ 3)))))
def ok3 (d : Dt) : Bool := thingD d && (layD d && (shB d && (isRow d 4 && isRow d 7)))
def ok5 (d : Dt) : Bool := noTy d && (layD d && (shB d && isBlD d))
def ok6 (d : Dt) : Bool := thingD d && (layD d && (shB d && (isWords rowSl d && decide (lenD d = 3))))
def ok7 (d : Dt) : Bool := thingD d && (layD d && (shB d && (isWords rowWk d && decide (lenD d = 2))))
def ok8 (d : Dt) : Bool := turnsD d && (layD d && (shB d && turnsOk 3 2 d))
theorem all0 : (freshS 0).all ok0 = true := by decide +kernel
theorem all1 : (freshS 1).all ok1 = true := by decide +kernel
theorem all3 : (freshS 3).all ok3 = true := by decide +kernel
theorem all5 : (freshS 5).all ok5 = true := by decide +kernel
theorem all6 : (freshS 6).all ok6 = true := by decide +kernel
theorem all7 : (freshS 7).all ok7 = true := by decide +kernel
theorem all8 : (freshS 8).all ok8 = true := by decide +kernel
def strOf : Dt → Str
  | .str z => z
  | _ => ""
theorem allM : ((freshS 0).all fun d => (freshS 3).all fun l => !memD (strOf d) l) = true := by decide +kernel
theorem pf0 : pfree (freshS 0) = true := by decide +kernel
theorem pf1 : pfree (freshS 1) = true := by decide +kernel
theorem pf3 : pfree (freshS 3) = true := by decide +kernel
theorem pf5 : pfree (freshS 5) = true := by decide +kernel
theorem pf6 : pfree (freshS 6) = true := by decide +kernel
theorem pf7 : pfree (freshS 7) = true := by decide +kernel
theorem pf8 : pfree (freshS 8) = true := by decide +kernel
theorem ev0 : eqvOk (freshS 0) = true := by decide +kernel
theorem ev1 : eqvOk (freshS 1) = true := by decide +kernel
theorem ev3 : eqvOk (freshS 3) = true := by decide +kernel
theorem ev5 : eqvOk (freshS 5) = true := by decide +kernel
theorem ev6 : eqvOk (freshS 6) = true := by decide +kernel
theorem ev7 : eqvOk (freshS 7) = true := by decide +kernel
theorem ev8 : eqvOk (freshS 8) = true := by decide +kernel
/-! ### the needs -/
def menuS : List Str := ["b", "c", "dd", "e"]
def freshN : List (List Str) := (List.range 4).flatMap fun k => sels k menuS
def cS (ns : List Str) : List Str := menuS.filter fun m => ns.contains m
def okN (ns : List Str) : Bool := decide ((cS ns).Perm ns) && (sortedS (cS ns) && (decide (cS ns ∈ freshN) && (decide (ns.reverse ∈ freshN) && (decide (cS ns.reverse = cS ns) && decide (cS (cS ns) = cS ns)))))
theorem allN : freshN.all okN = true := by decide +kernel
theorem freshS4 : freshS 4 = freshN.map strT := by kernel_rfl
theorem freshS34 : freshS 3 = freshS 4 := rfl
end K04

set_option maxHeartbeats 4000000
namespace K04
open PySem PySem.Spec PyProof.Rows L2 DL
variable [Tb]
/-- the parts of an isle as they are drawn -/
structure Gd (i : Pt) (ns : List Str) : Prop where
  nm : Dt.str i.nm ∈ freshS 0
  k : i.k ∈ freshS 1
  p : i.p ∈ freshS 2
  l : i.l ∈ freshS 3
  n : i.n = strT ns
  hn : ns ∈ freshN
  s : i.s ∈ freshS 5
  sl : i.sl ∈ freshS 6
  wk : i.wk ∈ freshS 7
  t : i.t ∈ freshS 8
theorem and2 {a b : Bool} (h : (a && b) = true) : a = true ∧ b = true := Bool.and_eq_true_iff.mp h
theorem mem_ok {S : List Dt} {f : Dt → Bool} (h : S.all f = true) {d : Dt} (hd : d ∈ S) : f d = true := List.all_eq_true.mp h d hd
theorem f0 {d : Dt} (h : d ∈ freshS 0) : isS d = true ∧ shortD d = true ∧ DL.isOwn d = true ∧ layD d = true ∧ shB d = true ∧ lenOf d ≤ 8 := by
  have h := mem_ok all0 h
  unfold ok0 at h
  obtain ⟨h1, h⟩ := and2 h
  obtain ⟨h2, h⟩ := and2 h
  obtain ⟨h3, h⟩ := and2 h
  obtain ⟨h4, h⟩ := and2 h
  obtain ⟨h5, h⟩ := and2 h
  exact ⟨h1, h2, h3, h4, h5, of_decide_eq_true h⟩
theorem f1 {d : Dt} (h : d ∈ freshS 1) : noTy d = true ∧ amountD d = true ∧ layD d = true ∧ shB d = true ∧ 1 ≤ intOf d ∧ intOf d ≤ 3 := by
  have h := mem_ok all1 h
  unfold ok1 at h
  obtain ⟨h1, h⟩ := and2 h
  obtain ⟨h2, h⟩ := and2 h
  obtain ⟨h3, h⟩ := and2 h
  obtain ⟨h4, h⟩ := and2 h
  obtain ⟨h5, h6⟩ := and2 h
  exact ⟨h1, h2, h3, h4, of_decide_eq_true h5, of_decide_eq_true h6⟩
theorem f3 {d : Dt} (h : d ∈ freshS 3) : thingD d = true ∧ layD d = true ∧ shB d = true ∧ isRow d 4 = true ∧ isRow d 7 = true := by
  have h := mem_ok all3 h
  unfold ok3 at h
  obtain ⟨h1, h⟩ := and2 h
  obtain ⟨h2, h⟩ := and2 h
  obtain ⟨h3, h⟩ := and2 h
  obtain ⟨h4, h5⟩ := and2 h
  exact ⟨h1, h2, h3, h4, h5⟩
theorem f5 {d : Dt} (h : d ∈ freshS 5) : noTy d = true ∧ layD d = true ∧ shB d = true ∧ isBlD d = true := by
  have h := mem_ok all5 h
  unfold ok5 at h
  obtain ⟨h1, h⟩ := and2 h
  obtain ⟨h2, h⟩ := and2 h
  obtain ⟨h3, h4⟩ := and2 h
  exact ⟨h1, h2, h3, h4⟩
theorem f6 {d : Dt} (h : d ∈ freshS 6) : thingD d = true ∧ layD d = true ∧ shB d = true ∧ isWords rowSl d = true ∧ lenD d = 3 := by
  have h := mem_ok all6 h
  unfold ok6 at h
  obtain ⟨h1, h⟩ := and2 h
  obtain ⟨h2, h⟩ := and2 h
  obtain ⟨h3, h⟩ := and2 h
  obtain ⟨h4, h5⟩ := and2 h
  exact ⟨h1, h2, h3, h4, of_decide_eq_true h5⟩
theorem f7 {d : Dt} (h : d ∈ freshS 7) : thingD d = true ∧ layD d = true ∧ shB d = true ∧ isWords rowWk d = true ∧ lenD d = 2 := by
  have h := mem_ok all7 h
  unfold ok7 at h
  obtain ⟨h1, h⟩ := and2 h
  obtain ⟨h2, h⟩ := and2 h
  obtain ⟨h3, h⟩ := and2 h
  obtain ⟨h4, h5⟩ := and2 h
  exact ⟨h1, h2, h3, h4, of_decide_eq_true h5⟩
theorem f8 {d : Dt} (h : d ∈ freshS 8) : turnsD d = true ∧ layD d = true ∧ shB d = true ∧ turnsOk 3 2 d = true := by
  have h := mem_ok all8 h
  unfold ok8 at h
  obtain ⟨h1, h⟩ := and2 h
  obtain ⟨h2, h⟩ := and2 h
  obtain ⟨h3, h4⟩ := and2 h
  exact ⟨h1, h2, h3, h4⟩
theorem fN {ns : List Str} (h : ns ∈ freshN) : (cS ns).Perm ns ∧ sortedS (cS ns) = true ∧ cS ns ∈ freshN ∧ ns.reverse ∈ freshN ∧ cS ns.reverse = cS ns ∧ cS (cS ns) = cS ns := by
  have h := List.all_eq_true.mp allN ns h
  unfold okN at h
  obtain ⟨h1, h⟩ := and2 h
  obtain ⟨h2, h⟩ := and2 h
  obtain ⟨h3, h⟩ := and2 h
  obtain ⟨h4, h⟩ := and2 h
  obtain ⟨h5, h6⟩ := and2 h
  exact ⟨of_decide_eq_true h1, h2, of_decide_eq_true h3, of_decide_eq_true h4, of_decide_eq_true h5, of_decide_eq_true h6⟩
theorem strT_inj {xs ys : List Str} (h : strT xs = strT ys) : xs = ys := by
  have h : xs.map Dt.str = ys.map Dt.str := Dt.tup.inj h
  have := congrArg strsOf h
  rw [strsOf_map, strsOf_map] at this
  exact this
section
variable {i i' : Pt} {ns ns' : List Str}
theorem Gd.n4 (g : Gd i ns) : i.n ∈ freshS 3 := by
  rw [freshS34, freshS4, g.n]
  exact List.mem_map.mpr ⟨ns, g.hn, rfl⟩
theorem Gd.ok (g : Gd i ns) : i.Ok :=
  ⟨(f1 g.k).1, (f1 g.p).1, (f3 g.l).1, (f3 g.n4).1, (f5 g.s).1, (f6 g.sl).1, (f7 g.wk).1, (f8 g.t).1, (f3 g.l).2.1, (f3 g.n4).2.1, (f6 g.sl).2.1, (f7 g.wk).2.1, (f8 g.t).2.1⟩
theorem Gd.short (g : Gd i ns) : shortD (.str i.nm) = true := (f0 g.nm).2.1
theorem Gd.own (g : Gd i ns) : DL.isOwn (.str i.nm) = true := (f0 g.nm).2.2.1
theorem Gd.len (g : Gd i ns) : i.nm.length ≤ 8 := (f0 g.nm).2.2.2.2.2
theorem Gd.mem (g : Gd i ns) {l : Dt} (hl : l ∈ freshS 3) : memD i.nm l = false := by
  have h : (!memD i.nm l) = true := mem_ok (mem_ok allM g.nm) hl
  simpa using h
theorem Gd.fault (g : Gd i ns) : faultI i = none := by
  have a := f1 g.k
  have b := f1 g.p
  unfold faultI
  rw [if_neg (by rw [a.2.1]; decide), if_neg (by rw [b.2.1]; decide), if_neg (by have := a.2.2.2.2.1; have := b.2.2.2.2.1; omega), if_neg (by rw [(f3 g.l).2.2.2.1, g.mem g.l]; decide), if_neg (by rw [(f3 g.n4).2.2.2.2, g.mem g.n4]; decide),
    if_neg (by rw [(f5 g.s).2.2.2]; decide), if_neg (by rw [(f6 g.sl).2.2.2.1]; decide), if_neg (by rw [(f7 g.wk).2.2.2.1]; decide), if_neg (by rw [(f6 g.sl).2.2.2.2, (f7 g.wk).2.2.2.2]; rw [show turnsOk ((3 : Nat) : Int) ((2 : Nat) : Int) i.t = true from (f8 g.t).2.2.2]; decide)]
theorem Gd.lay (g : Gd i ns) : LayI i := fun p hp => by
  unfold partsD at hp
  simp only [List.mem_cons, List.not_mem_nil, or_false] at hp
  rcases hp with e | e | e | e | e | e | e | e | e <;> rw [e]
  · exact (f0 g.nm).2.2.2.1
  · exact (f1 g.k).2.2.1
  · exact (f1 g.p).2.2.1
  · exact (f3 g.l).2.1
  · exact (f3 g.n4).2.1
  · exact (f5 g.s).2.1
  · exact (f6 g.sl).2.1
  · exact (f7 g.wk).2.1
  · exact (f8 g.t).2.1
/-- with its needs ascending -/
def can (i : Pt) (ns : List Str) : Pt := { i with n := strT (cS ns) }
theorem Gd.can (g : Gd i ns) : Gd (can i ns) (cS ns) := ⟨g.nm, g.k, g.p, g.l, rfl, (fN g.hn).2.2.1, g.s, g.sl, g.wk, g.t⟩
theorem Gd.one (g : Gd i ns) {ss ss' : List Str} (e : i.n = strT ss) (hp : ss'.Perm ss) (hs : sortedS ss' = true) : { i with n := strT ss' } = K04.can i ns := by
  have e1 : ss = ns := strT_inj (e.symm.trans g.n)
  subst e1
  have e2 := sorted_one (hp.trans (fN g.hn).1.symm) hs (fN g.hn).2.1
  subst e2
  rfl
theorem Gd.amt (g : Gd i ns) : ∃ a b : Int, i.k = .int a ∧ i.p = .int b ∧ (1 ≤ a ∧ a ≤ 3) ∧ 1 ≤ b ∧ b ≤ 3 := by
  obtain ⟨a, ea⟩ := amount_int (f1 g.k).2.1
  obtain ⟨b, eb⟩ := amount_int (f1 g.p).2.1
  have h1 := (f1 g.k).2.2.2.2
  have h2 := (f1 g.p).2.2.2.2
  rw [ea] at h1
  rw [eb] at h2
  exact ⟨a, b, ea, eb, h1, h2⟩
/-! ### what is shown -/
def sizeD (i : Pt) : Dt := .int (intOf i.k + intOf i.p)
def shownL (i : Pt) : List Dt := [.str i.nm, i.k, i.p, i.l, i.n, i.s, i.sl, i.wk, i.t, sizeD i]
def shownD (i : Pt) : Dt := .lst (shownL i)
theorem Gd.sh (g : Gd i ns) : ∀ d ∈ shownL i, Sh 3 300 d := fun d hd => by
  unfold shownL at hd
  simp only [List.mem_cons, List.not_mem_nil, or_false] at hd
  rcases hd with e | e | e | e | e | e | e | e | e | e <;> rw [e]
  · exact sh_of (f0 g.nm).2.2.2.2.1
  · exact sh_of (f1 g.k).2.2.2.1
  · exact sh_of (f1 g.p).2.2.2.1
  · exact sh_of (f3 g.l).2.2.1
  · exact sh_of (f3 g.n4).2.2.1
  · exact sh_of (f5 g.s).2.2.1
  · exact sh_of (f6 g.sl).2.2.1
  · exact sh_of (f7 g.wk).2.2.1
  · exact sh_of (f8 g.t).2.2.1
  · have h1 := (f1 g.k).2.2.2.2
    have h2 := (f1 g.p).2.2.2.2
    exact (Sh.int (b := 10) (by show (intOf i.k + intOf i.p).natAbs < 1024; omega) (by decide) (by decide)).mono (by decide) (by decide)
theorem fit_all {r : List Dt} (hl : r.length ≤ 20) (h : ∀ d ∈ r, Sh 3 300 d) : Fit (.lst r) :=
  (Sh.lst ((ShL.all h).mono (Nat.le_refl _) (show (300 + 1) * r.length ≤ 301 * 20 from Nat.mul_le_mul (Nat.le_refl _) hl))).fit (by decide) (by decide)
theorem Gd.fit (g : Gd i ns) : Fit (shownD i) := fit_all (by show 10 ≤ 20; decide) g.sh
/-! ### two that are shown alike -/
def tx (i : Pt) : Str := (shownD i).py.shown
theorem tf_nil (n : Nat) (z : Str) : PySem.textFrom n z [] = z := rfl
theorem tf_one (z x : Str) (xs : List Str) : PySem.textFrom 0 z (x :: xs) = PySem.textFrom 1 (z ++ Str.ofString "" ++ x) xs := rfl
theorem tf_next (n : Nat) (z x : Str) (xs : List Str) : PySem.textFrom (n + 1) z (x :: xs) = PySem.textFrom (n + 2) (z ++ Str.ofString ", " ++ x) xs := rfl
theorem app_l (x y : Str) : (x ++ y).cps.toList = x.cps.toList ++ y.cps.toList := by show (x.cps ++ y.cps).toList = _; rw [Array.toList_append]
theorem k_sep : (Str.ofString ", ").cps.toList = sep := by decide +kernel
theorem k_no : (Str.ofString "").cps.toList = [] := by decide +kernel
theorem k_lb : (Str.ofString "[").cps.toList = [91] := by decide +kernel
theorem k_rb : (Str.ofString "]").cps.toList = [93] := by decide +kernel
theorem sx10 (a b c d e f g h j k : Dt) : qs (.lst [a, b, c, d, e, f, g, h, j, k]) = [91] ++ (qs a ++ (sep ++ (qs b ++ (sep ++ (qs c ++ (sep ++ (qs d ++ (sep ++ (qs e ++ (sep ++ (qs f ++ (sep ++ (qs g ++ (sep ++ (qs h ++ (sep ++ (qs j ++ (sep ++ (qs k ++ [93]))))))))))))))))))) := by
  have e1 : (Dt.lst [a, b, c, d, e, f, g, h, j, k]).py = .list [a.py, b.py, c.py, d.py, e.py, f.py, g.py, h.py, j.py, k.py] := by simp only [Dt.py, pys]
  unfold qs
  rw [e1]
  have e2 : PyData.shownAll [a.py, b.py, c.py, d.py, e.py, f.py, g.py, h.py, j.py, k.py] = [a.py.shown, b.py.shown, c.py.shown, d.py.shown, e.py.shown, f.py.shown, g.py.shown, h.py.shown, j.py.shown, k.py.shown] := by simp only [PyData.shownAll]
  rw [PyData.shown.eq_def]
  show (listText (PyData.shownAll _)).cps.toList = _
  rw [e2]
  unfold PySem.listText
  rw [tf_one, tf_next, tf_next, tf_next, tf_next, tf_next, tf_next, tf_next, tf_next, tf_next, tf_nil]
  simp only [app_l, k_sep, k_no, k_lb, k_rb, List.append_assoc, List.nil_append]
theorem str_inj {x y : Str} (h : x.cps.toList = y.cps.toList) : x = y := by
  cases x; cases y
  simp only [Str.mk.injEq]
  exact Array.ext' h
theorem cancel {S : List Dt} (hp : pfree S = true) {a b : Dt} (ha : a ∈ S) (hb : b ∈ S) {r r' : List Nat} (e : qs a ++ (sep ++ r) = qs b ++ (sep ++ r')) : qs a = qs b ∧ r = r' := by
  have pq : ∀ {x y : Dt}, x ∈ S → y ∈ S → (qs x ++ sep) <+: (qs y ++ sep) → qs x = qs y := fun {x y} hx hy hpre => by
    unfold pfree at hp
    have h1 := List.all_eq_true.mp (List.all_eq_true.mp hp _ (List.mem_map.mpr ⟨x, hx, rfl⟩)) _ (List.mem_map.mpr ⟨y, hy, rfl⟩)
    rcases Bool.or_eq_true_iff.mp h1 with h | h
    · exact beq_iff_eq.mp h
    · have := List.isPrefixOf_iff_prefix.mpr hpre
      rw [this] at h
      cases h
  have e1 : (qs a ++ sep) ++ r = (qs b ++ sep) ++ r' := by rw [List.append_assoc, List.append_assoc]; exact e
  have p1 : (qs a ++ sep) <+: ((qs a ++ sep) ++ r) := List.prefix_append _ _
  have p2 : (qs b ++ sep) <+: ((qs a ++ sep) ++ r) := by rw [e1]; exact List.prefix_append _ _
  have eq : qs a = qs b := by
    rcases List.prefix_or_prefix_of_prefix p1 p2 with h | h
    · exact pq ha hb h
    · exact (pq hb ha h).symm
  rw [eq] at e
  exact ⟨eq, List.append_cancel_left (List.append_cancel_left e)⟩
/-- the parts, one by one -/
def same (i i' : Pt) : Bool := (qs (.str i.nm) == qs (.str i'.nm)) && ((qs i.k == qs i'.k) && ((qs i.p == qs i'.p) && ((qs i.l == qs i'.l) && ((qs i.n == qs i'.n) && ((qs i.s == qs i'.s) && ((qs i.sl == qs i'.sl) && ((qs i.wk == qs i'.wk) && (qs i.t == qs i'.t))))))))
theorem amt_inj {d e : Dt} (hd : d ∈ freshS 1) (he : e ∈ freshS 1) (h : qs d = qs e) : intOf d = intOf e := by
  have all : ((freshS 1).all fun a => (freshS 1).all fun b => !(qs a == qs b) || decide (intOf a = intOf b)) = true := by decide +kernel
  have := mem_ok (mem_ok all hd) he
  rw [h] at this
  simpa using this
theorem tx_same (g : Gd i ns) (g' : Gd i' ns') : decide (tx i = tx i') = same i i' := by
  have eqs : tx i = tx i' ↔ qs (shownD i) = qs (shownD i') := ⟨fun h => by unfold qs; exact congrArg (fun z : Str => z.cps.toList) h, fun h => str_inj h⟩
  by_cases hs : same i i' = true
  · rw [hs]
    refine decide_eq_true (eqs.mpr ?_)
    unfold same at hs
    simp only [Bool.and_eq_true, beq_iff_eq] at hs
    obtain ⟨h1, h2, h3, h4, h5, h6, h7, h8, h9⟩ := hs
    unfold shownD shownL
    rw [sx10, sx10, h1, h2, h3, h4, h5, h6, h7, h8, h9]
    have : sizeD i = sizeD i' := by unfold sizeD; rw [amt_inj g.k g'.k h2, amt_inj g.p g'.p h3]
    rw [this]
  · have hs : same i i' = false := by simpa using hs
    rw [hs]
    refine decide_eq_false fun h => ?_
    have h := eqs.mp h
    unfold shownD shownL at h
    rw [sx10, sx10] at h
    have h := List.append_cancel_left h
    obtain ⟨h1, h⟩ := cancel pf0 g.nm g'.nm h
    obtain ⟨h2, h⟩ := cancel pf1 g.k g'.k h
    obtain ⟨h3, h⟩ := cancel pf1 g.p g'.p h
    obtain ⟨h4, h⟩ := cancel pf3 g.l g'.l h
    obtain ⟨h5, h⟩ := cancel pf3 g.n4 g'.n4 h
    obtain ⟨h6, h⟩ := cancel pf5 g.s g'.s h
    obtain ⟨h7, h⟩ := cancel pf6 g.sl g'.sl h
    obtain ⟨h8, h⟩ := cancel pf7 g.wk g'.wk h
    obtain ⟨h9, h⟩ := cancel pf8 g.t g'.t h
    have : same i i' = true := by
      unfold same
      simp only [Bool.and_eq_true, beq_iff_eq]
      exact ⟨h1, h2, h3, h4, h5, h6, h7, h8, h9⟩
    rw [this] at hs
    cases hs
theorem eqv_qs {S : List Dt} (h : eqvOk S = true) {a b : Dt} (ha : a ∈ S) (hb : b ∈ S) : PyData.eqv a.py b.py = (qs a == qs b) := beq_iff_eq.mp (mem_ok (mem_ok h ha) hb)
theorem eq_same (g : Gd i ns) (g' : Gd i' ns') : eqDD (partsD i) (partsD i') = same i i' := by
  have e : eqDD (partsD i) (partsD i') = (PyData.eqv (Dt.str i.nm).py (Dt.str i'.nm).py && (PyData.eqv i.k.py i'.k.py && (PyData.eqv i.p.py i'.p.py && (PyData.eqv i.l.py i'.l.py && (PyData.eqv i.n.py i'.n.py && (PyData.eqv i.s.py i'.s.py && (PyData.eqv i.sl.py i'.sl.py && (PyData.eqv i.wk.py i'.wk.py && (PyData.eqv i.t.py i'.t.py && true))))))))) := rfl
  rw [e, Bool.and_true]
  unfold same
  rw [eqv_qs ev0 g.nm g'.nm, eqv_qs ev1 g.k g'.k, eqv_qs ev1 g.p g'.p, eqv_qs ev3 g.l g'.l, eqv_qs ev3 g.n4 g'.n4, eqv_qs ev5 g.s g'.s, eqv_qs ev6 g.sl g'.sl, eqv_qs ev7 g.wk g'.wk, eqv_qs ev8 g.t g'.t]
theorem same_refl (i : Pt) : same i i = true := by
  unfold same
  simp only [beq_self_eq_true, Bool.and_true]
end
end K04

set_option maxHeartbeats 4000000
namespace K04
open PySem PySem.Spec PyProof.Rows L2 DL
variable [Tb]
abbrev sMade : Stmt := topS 30
theorem scMade : FnScope ["_law_some"] ["_law_some"] (defScope sMade) := ⟨rfl, rfl, rfl, by decide +kernel, rfl, by decide +kernel, by decide +kernel⟩
abbrev sShown : Stmt := topS 31
theorem scShown : FnScope ["_law_isle", "_law_some"] ["_law_isle"] (defScope sShown) := ⟨rfl, rfl, rfl, by decide +kernel, rfl, by decide +kernel, by decide +kernel⟩
abbrev sSwapped : Stmt := topS 32
theorem scSwapped : FnScope ["_law_isle", "_law_at", "_law_one"] ["_law_isle", "_law_at", "_law_one"] (defScope sSwapped) := ⟨rfl, rfl, rfl, by decide +kernel, rfl, by decide +kernel, by decide +kernel⟩
/-! ### the isle's parts, asked -/
def WGet (C : Addr) (key : Str) : List Dt → (Dt → Prop) → Prop := fun ds Φ => ∃ a b i d, ds = [isleD C a b i] ∧ valD (partsD i) (.inr key) = some d ∧ Φ d
def WSize (C : Addr) : List Dt → (Dt → Prop) → Prop := fun ds Φ => ∃ a b i m n, ds = [isleD C a b i] ∧ i.k = .int m ∧ i.p = .int n ∧ Φ (.int (m + n))
structure GetI (K : PySem.W.Frag) (C : Addr) (mg : Str → Option Value) (x : Str) (W : List Dt → (Dt → Prop) → Prop) : Prop where
  ex : ∃ (p g : Addr) (fd : FuncData), PropOf K C x p g ∧ Binds K fd ["self"] [] ∧ ∀ (P : Program) (w : World) (base : Heap), FnOk P w K mg base CX0 1 g fd ["self"] (spP K W)
section
variable {K : PySem.W.Frag} {mg : Str → Option Value} {C : Addr} {x : Str} {W : List Dt → (Dt → Prop) → Prop} {X : Cx} {e : Expr} {ta : TE} {pos : Pos}
theorem GetI.pe (G : GetI K C mg x W) (T : IsleK K mg C) (hK : X.K = K) (hr : Room 2 X.A) (he : PE X e ta) (hm : X.mg = mg := by rfl) (hab : attributeBase e x X.env (eval e X.env) = eval e X.env := by rfl) : PE X (.Attribute e x pos) (tProp C (spP K W) [] E0 ta) := by
  subst hK hm
  obtain ⟨p, g, fd, h1, h2, F⟩ := G.ex
  exact pe_prop he T.cl h1 (F _ _ _) hr h2 .nil pass0 hab
end
structure Gts (K : PySem.W.Frag) (C : Addr) (mg : Str → Option Value) : Prop where
  gnam : GetI K C mg "name" (WGet C "name")
  gkep : GetI K C mg "kept" (WGet C "kept")
  gpla : GetI K C mg "plain" (WGet C "plain")
  glea : GetI K C mg "leash" (WGet C "leash")
  gnee : GetI K C mg "needs" (WGet C "needs")
  gsls : GetI K C mg "sleeps" (WGet C "sleeps")
  gsle : GetI K C mg "sleep" (WGet C "sleep")
  gwak : GetI K C mg "wake" (WGet C "wake")
  gtur : GetI K C mg "turns" (WGet C "turns")
  siz : GetI K C mg "size" (WSize C)
section
variable {K : PySem.W.Frag} {pf : Bool} {ρ : List Sl} {Φ : Dt → List Sl → Prop} {C : Addr} {ta : TE} {key : Str}
theorem w_getI (h : Wp K pf ta ρ fun d ρ1 => ∃ a b i x, d = isleD C a b i ∧ valD (partsD i) (.inr key) = some x ∧ Φ x ρ1) : Wp K pf (tProp C (spP K (WGet C key)) [] E0 ta) ρ Φ :=
  w_prop (h.imp fun d ρ1 ⟨a, b, i, x, e, l, q⟩ => by subst e; exact ⟨⟨a, _, _, rfl⟩, a, b, i, x, rfl, l, q⟩)
theorem w_sizeI (h : Wp K pf ta ρ fun d ρ1 => ∃ a b i m n, d = isleD C a b i ∧ i.k = .int m ∧ i.p = .int n ∧ Φ (.int (m + n)) ρ1) : Wp K pf (tProp C (spP K (WSize C)) [] E0 ta) ρ Φ :=
  w_prop (h.imp fun d ρ1 ⟨a, b, i, m, n, e, e1, e2, q⟩ => by subst e; exact ⟨⟨a, _, _, rfl⟩, a, b, i, m, n, rfl, e1, e2, q⟩)
end
/-! ### the class called, the method called -/
abbrev kIsle : List Str := ["kept", "plain", "leash", "needs", "sleeps", "sleep", "wake", "turns"]
structure MkI (K : PySem.W.Frag) (mg : Str → Option Value) (C cN cI : Addr) (ks : List Str) (gV : List V → List V → List V) : Prop where
  ex : ∃ (f : Addr) (fd : FuncData) (g : List Value → List Value → List Value), Mk K C f ∧ mg "Isle" = some (.ref C) ∧ KBn K fd PIsle 2 ks g gV ∧
    ∀ (P : Program) (w : World) (base : Heap), FnOk P w K mg base (L2.CX P w) 6 f fd PIsle (spMkX K C (WI cN cI))
structure MkD (K : PySem.W.Frag) (mg : Str → Option Value) (C cN cI : Addr) (dv : List V) : Prop where
  ex : ∃ (f : Addr) (fd : FuncData) (ds : List Value), Mk K C f ∧ mg "Isle" = some (.ref C) ∧ Vals dv ds ∧ Binds K fd PIsle ds ∧
    ∀ (P : Program) (w : World) (base : Heap), FnOk P w K mg base (L2.CX P w) 6 f fd PIsle (spMkX K C (WI cN cI))
structure MoC (K : PySem.W.Frag) (mg : Str → Option Value) (C cN cI cP : Addr) (ks : List Str) : Prop where
  ex : ∃ f : Addr, Meth K C "changed" f ∧ ∀ (P : Program) (w : World) (base : Heap), FnKw P w K mg base (L2.CX P w) 8 f 1 ks (spX K (WCh C cN cI cP))
section
variable {K : PySem.W.Frag} {mg : Str → Option Value} {C cN cI cP : Addr} {dv : List V} {ks : List Str} {gV : List V → List V → List V} {X : Cx} {e o : Expr} {es : List Expr} {kws : List Keyword} {p pos apos : Pos} {t tk : TA} {ta : TE} {E : XK} {pl : Sem Bool}
theorem MkI.pe (m : MkI K mg C cN cI ks gV) (hK : X.K = K) (hm : X.mg = mg) (hr : Room 7 X.A) (hg : Gl X "Isle") (hx : Passes (L2.CX X.prog X.w) X E) (ha : PA X (e :: es) t) (hkw : PK X kws tk)
    (hall : (backToKw pos (keywordEach kws X.env)).all (·.1.isSome) = true := by rfl) (hks : (backToKw pos (keywordEach kws X.env)).filterMap (·.1) = ks := by rfl) (hdb : (("Isle" : Str) == ("__debug__" : Str)) = false := by decide)
    (he : starEach (e :: es) X.env = (false, eval e X.env) :: starEach es X.env := by rfl) (hpl : ((backTo pos (starEach (e :: es) X.env)).any (·.1) || (backToKw pos (keywordEach kws X.env)).any (·.1.isNone)) = false := by rfl) :
    PE X (.Call (.Name "Isle" p) (e :: es) kws pos) (tMakeK C 1 ks.length (spMkX K C (WI cN cI)) gV E t tk) := by
  subst hK hm
  obtain ⟨f, fd, g, h1, h2, h3, F⟩ := m.ex
  exact pe_makeK h1 (F _ _ _) hr hg h2 h3 hx ha hkw hall hks hdb he hpl
theorem MkD.pe (m : MkD K mg C cN cI dv) (hK : X.K = K) (hm : X.mg = mg) (hr : Room 7 X.A) (hg : Gl X "Isle") (hx : Passes (L2.CX X.prog X.w) X E) (ha : PA X (e :: es) t)
    (he : starEach (e :: es) X.env = (false, eval e X.env) :: starEach es X.env := by rfl) (hpl : (backTo pos (starEach es X.env)).any (·.1) = false := by rfl) :
    PE X (.Call (.Name "Isle" p) (e :: es) [] pos) (tMake C (spMkX K C (WI cN cI)) dv E t) := by
  subst hK hm
  obtain ⟨f, fd, ds, h1, h2, h4, h5, F⟩ := m.ex
  exact pe_make h1 (F _ _ _) hr hg h2 h5 h4 hx ha (by decide) he hpl
theorem MoC.pe (m : MoC K mg C cN cI cP ks) (T : IsleK K mg C) (hK : X.K = K) (hm : X.mg = mg) (hr : Room 8 X.A) (hx : Passes (L2.CX X.prog X.w) X E) (he : PE X o ta) (hkw : PK X kws tk)
    (hall : (backToKw pos (keywordEach kws X.env)).all (·.1.isSome) = true := by rfl) (hks : (backToKw pos (keywordEach kws X.env)).filterMap (·.1) = ks := by rfl)
    (hpl : ((backTo pos (starEach [] X.env)).any (·.1) || (backToKw pos (keywordEach kws X.env)).any (·.1.isNone)) = false := by rfl)
    (ht : eval (.Call (.Attribute o "changed" apos) [] kws pos) X.env = (do
      let ov ← eval o X.env
      standAt apos.atName
      let (f, first) ← holding [ov] (getMethod ov "changed" pl)
      callWith pos f first (backTo pos (starEach [] X.env)) (backToKw pos (keywordEach kws X.env))) := by rfl) :
    PE X (.Call (.Attribute o "changed" apos) [] kws pos) (tMethKw C "changed" ks (spX K (WCh C cN cI cP)) E ta tk) := by
  subst hK hm
  obtain ⟨f, h1, F⟩ := m.ex
  exact pe_methKw he T.cl h1 (F _ _ _) hr hx hkw hall hks hpl ht
end
theorem told_good {C cN cI : Addr} {i : Pt} {ns : List Str} {Φ : Dt → Prop} {Ξ : Addr → List Str → List Dt → Prop} (g : Gd i ns) (q : ∀ a b, Φ (isleD C a b (can i ns))) : Told C cN cI (.str i.nm) i Φ Ξ :=
  ⟨g.short, g.ok, fun _ => rfl, fun h => absurd (h.symm.trans g.own) (by decide), fun _ z hz => (by rw [g.fault] at hz; cases hz), fun _ _ a b ss ss' e hp hs => by rw [g.one e hp hs]; exact q a b⟩
def rowL (i : Pt) : List Dt := [.str i.nm, i.k, i.p, i.l, i.n, i.s, i.sl, i.wk, i.t]
def setPt (i : Pt) (at_ : Nat) (d : Dt) : Pt := match at_ with
  | 0 => { i with nm := strOf d }
  | 1 => { i with k := d }
  | 2 => { i with p := d }
  | 3 => { i with l := d }
  | 4 => { i with n := d }
  | 5 => { i with s := d }
  | 6 => { i with sl := d }
  | 7 => { i with wk := d }
  | _ => { i with t := d }
theorem needs_str {d : Dt} (h : d ∈ freshS 4) : ∃ ns ∈ freshN, d = strT ns := by
  rw [freshS4] at h
  obtain ⟨ns, h1, h2⟩ := List.mem_map.mp h
  exact ⟨ns, h1, h2.symm⟩
theorem name_str {d : Dt} (h : d ∈ freshS 0) : d = .str (strOf d) := by
  have := (f0 h).1
  cases d with
  | str z => rfl
  | _ => cases this
theorem Gd.set {i : Pt} {ns : List Str} (g : Gd i ns) {at_ : Nat} {d : Dt} (h : at_ < 9) (hd : d ∈ freshS at_) : ∃ ns', Gd (setPt i at_ d) ns' ∧ (at_ ≠ 4 → ns' = ns) ∧ (at_ = 4 → d = strT ns') := by
  obtain rfl | rfl | rfl | rfl | rfl | rfl | rfl | rfl | rfl : at_ = 0 ∨ at_ = 1 ∨ at_ = 2 ∨ at_ = 3 ∨ at_ = 4 ∨ at_ = 5 ∨ at_ = 6 ∨ at_ = 7 ∨ at_ = 8 := by omega
  · refine ⟨ns, ⟨?_, g.k, g.p, g.l, g.n, g.hn, g.s, g.sl, g.wk, g.t⟩, fun _ => rfl, fun z => by cases z⟩
    show Dt.str (strOf d) ∈ freshS 0
    rw [← name_str hd]; exact hd
  · exact ⟨ns, ⟨g.nm, hd, g.p, g.l, g.n, g.hn, g.s, g.sl, g.wk, g.t⟩, fun _ => rfl, fun z => by cases z⟩
  · exact ⟨ns, ⟨g.nm, g.k, hd, g.l, g.n, g.hn, g.s, g.sl, g.wk, g.t⟩, fun _ => rfl, fun z => by cases z⟩
  · exact ⟨ns, ⟨g.nm, g.k, g.p, hd, g.n, g.hn, g.s, g.sl, g.wk, g.t⟩, fun _ => rfl, fun z => by cases z⟩
  · obtain ⟨ns', h1, h2⟩ := needs_str hd
    exact ⟨ns', ⟨g.nm, g.k, g.p, g.l, h2, h1, g.s, g.sl, g.wk, g.t⟩, fun z => absurd rfl z, fun _ => h2⟩
  · exact ⟨ns, ⟨g.nm, g.k, g.p, g.l, g.n, g.hn, hd, g.sl, g.wk, g.t⟩, fun _ => rfl, fun z => by cases z⟩
  · exact ⟨ns, ⟨g.nm, g.k, g.p, g.l, g.n, g.hn, g.s, hd, g.wk, g.t⟩, fun _ => rfl, fun z => by cases z⟩
  · exact ⟨ns, ⟨g.nm, g.k, g.p, g.l, g.n, g.hn, g.s, g.sl, hd, g.t⟩, fun _ => rfl, fun z => by cases z⟩
  · exact ⟨ns, ⟨g.nm, g.k, g.p, g.l, g.n, g.hn, g.s, g.sl, g.wk, hd⟩, fun _ => rfl, fun z => by cases z⟩
section
variable {P : Program} {w : World} {K : PySem.W.Frag} {mg : Str → Option Value} {base : Heap} {C cN cI cP : Addr} {f : Addr} {fd : FuncData}
/-! ### _law_made -/
def WMade (C : Addr) : List Dt → (Dt → Prop) → Prop := fun ds Φ => ∃ i ns, ds = [.lst (rowL i)] ∧ Gd i ns ∧ ∀ a b, Φ (isleD C a b (can i ns))
theorem ok_made (F : Fun K "_law_made" "_law_made" sMade f fd) (m : MkI K mg C cN cI kIsle gApp) : FnG P w K mg base CX0 8 f fd ["_law_some"] (spP K (WMade C)) := by
  refine defP F scMade (fun ds Φ ⟨i, ns, e, _⟩ => by rw [e]; rfl) (by decide) fun cdv A outer s H E hr hg => ?_
  refine ⟨_, pss_one (ps_ret (m.pe (E := fun _ _ _ => False) rfl rfl hr (by rfl) passN (pa_cons (pe_ix (ixK K rfl) (pv 0) pe_int (fun _ _ => rfl)) pa_nil)
      (pk_cons (pe_ix (ixK K rfl) (pv 0) pe_int (fun _ _ => rfl)) (pk_cons (pe_ix (ixK K rfl) (pv 0) pe_int (fun _ _ => rfl)) (pk_cons (pe_ix (ixK K rfl) (pv 0) pe_int (fun _ _ => rfl)) (pk_cons (pe_ix (ixK K rfl) (pv 0) pe_int (fun _ _ => rfl)) (pk_cons (pe_ix (ixK K rfl) (pv 0) pe_int (fun _ _ => rfl)) (pk_cons (pe_ix (ixK K rfl) (pv 0) pe_int (fun _ _ => rfl)) (pk_cons (pe_ix (ixK K rfl) (pv 0) pe_int (fun _ _ => rfl)) (pk_cons (pe_ix (ixK K rfl) (pv 0) pe_int (fun _ _ => rfl)) pk_nil)))))))))), ?_⟩
  rintro ds Φ ⟨i, ns, rfl, g, q⟩
  show Ws K _ [.dat (.lst (rowL i))] _
  have gx : ∀ {j : Nat} {x : Dt} {pf : Bool} {Ψ : Dt → List Sl → Prop}, (rowL i)[j]? = some x → Ψ x [.dat (.lst (rowL i))] → Wp K pf (tOp (rIx K) (tVar 0) (tC (.int (j : Nat)))) [.dat (.lst (rowL i))] Ψ := fun l z =>
    w_op <| w_var (d := .lst (rowL i)) rfl <| w_c (fun _ => .int _) <| od_ix rfl (atI_nat' l) z
  have app : ∀ (x : Addr) (vs zs : List V) (ds es : List Dt) (H : Hp), vs.length = 1 → zs.length = kIsle.length → DXs K H vs ds → DXs K H zs es → ∃ ws, gApp (V.ref x :: vs) zs = V.ref x :: ws ∧ DXs K H ws (ds ++ es) := fun x vs zs ds es H _ _ h1 h2 => ⟨vs ++ zs, rfl, h1.append h2⟩
  refine ws_ret (pf := false) <| Wpx.wp (xk := fun _ _ _ => False) <| wx_makeK (pf := true) (gD := fun ds es => ds ++ es) app (fun _ _ _ z => z.elim) <| wa_cons <| gx (j := 0) rfl <| wa_nil <| wa_cons <| gx (j := 1) rfl <| wa_cons <| gx (j := 2) rfl <| wa_cons <| gx (j := 3) rfl <| wa_cons <| gx (j := 4) rfl <| wa_cons <| gx (j := 5) rfl <| wa_cons <| gx (j := 6) rfl <| wa_cons <| gx (j := 7) rfl <| wa_cons <| gx (j := 8) rfl <| wa_nil ⟨rfl, rfl, .str i.nm, i, rfl, g.short, g.ok, fun _ => rfl, fun h => absurd (h.symm.trans g.own) (by decide), fun _ => ⟨fun z hz => (by rw [g.fault] at hz; cases hz), fun _ b ss ss' e hp hs a => ?_⟩⟩
  rw [g.one e hp hs]
  exact q a b
/-! ### _law_shown -/
def WShown (C : Addr) : List Dt → (Dt → Prop) → Prop := fun ds Φ => ∃ a b i, ∃ m n : Int, ds = [isleD C a b i] ∧ i.k = .int m ∧ i.p = .int n ∧ Φ (shownD i)
theorem ok_shown (F : Fun K "_law_shown" "_law_shown" sShown f fd) (T : IsleK K mg C) (Gt : Gts K C mg) : FnG P w K mg base CX0 3 f fd ["_law_isle"] (spP K (WShown C)) := by
  refine defP F scShown (fun ds Φ ⟨a, b, i, m, n, e, _⟩ => by rw [e]; rfl) (by decide) fun cdv A outer s H E hr hg => ?_
  refine ⟨_, pss_cons (ps_set (i := 1) scShown.nd rfl (Or.inl rfl) (pe_lst (pa_cons (Gt.gnam.pe T rfl hr (pv 0)) (pa_cons (Gt.gkep.pe T rfl hr (pv 0)) (pa_cons (Gt.gpla.pe T rfl hr (pv 0)) (pa_cons (Gt.glea.pe T rfl hr (pv 0)) (pa_cons (Gt.gnee.pe T rfl hr (pv 0)) (pa_cons (Gt.gsls.pe T rfl hr (pv 0)) (pa_cons (Gt.gsle.pe T rfl hr (pv 0)) (pa_cons (Gt.gwak.pe T rfl hr (pv 0)) pa_nil))))))))))
    <| pss_one (ps_ret (pe_op op_catL (pv 1) (pe_lst (pa_cons (Gt.gtur.pe T rfl hr (pv 0)) (pa_cons (Gt.siz.pe T rfl hr (pv 0)) pa_nil))))), ?_⟩
  rintro ds Φ ⟨a, b, i, m, n, rfl, em, en, q⟩
  show Ws K _ [.dat (isleD C a b i), .any] _
  have gi : ∀ {key : Str} {x : Dt} {pf : Bool} {s1 : Sl} {Φ : Dt → List Sl → Prop}, valD (partsD i) (.inr key) = some x → Φ x [.dat (isleD C a b i), s1] → Wp K pf (tProp C (spP K (WGet C key)) [] E0 (tVar 0)) [.dat (isleD C a b i), s1] Φ := fun l z =>
    w_getI <| w_var (d := isleD C a b i) rfl ⟨a, b, _, _, rfl, l, z⟩
  refine ws_seq <| ws_asg (pf := true) <| w_lst <| wa_cons <| gi rfl <| wa_cons <| gi rfl <| wa_cons <| gi rfl <| wa_cons <| gi rfl <| wa_cons <| gi rfl <| wa_cons <| gi rfl <| wa_cons <| gi rfl <| wa_cons <| gi rfl <| wa_nil ⟨by show 8 ≤ 100000; decide, ?_⟩
  show Ws K _ [.dat (isleD C a b i), .dat (.lst [.str i.nm, i.k, i.p, i.l, i.n, i.s, i.sl, i.wk])] _
  refine ws_ret (pf := true) <| w_op <| w_var (d := .lst [.str i.nm, i.k, i.p, i.l, i.n, i.s, i.sl, i.wk]) rfl <| w_lst <| wa_cons <| gi rfl <| wa_cons <| w_sizeI <| w_var (d := isleD C a b i) rfl ⟨a, b, i, m, n, rfl, em, en, wa_nil ⟨by show 2 ≤ 100000; decide, od_cat (by show 8 + 2 ≤ 100000; decide) ?_⟩⟩
  have e : shownD i = .lst ([.str i.nm, i.k, i.p, i.l, i.n, i.s, i.sl, i.wk] ++ [i.t, .int (m + n)]) := by unfold shownD shownL sizeD; rw [em, en]; rfl
  rw [← e]
  exact q
/-! ### _law_swapped -/
def WSwap (C : Addr) : List Dt → (Dt → Prop) → Prop := fun ds Φ => ∃ a b i ns, ∃ at_ : Nat, ∃ d, ds = [isleD C a b i, .int at_, d] ∧ Gd i ns ∧ at_ < 9 ∧ d ∈ freshS at_ ∧ ∀ a' b' ns', Gd (setPt i at_ d) ns' → Φ (isleD C a' b' (can (setPt i at_ d) ns'))
theorem mg0 (i : Pt) (d : Dt) : mergeD (mergeD [] (partsD i)) [(.inr "name", d)] = partsG d (setPt i 0 d) := by kernel_rfl
theorem mg1 (i : Pt) (d : Dt) : mergeD (mergeD [] (partsD i)) [(.inr "kept", d)] = partsG (.str i.nm) { i with k := d } := by kernel_rfl
theorem mg2 (i : Pt) (d : Dt) : mergeD (mergeD [] (partsD i)) [(.inr "plain", d)] = partsG (.str i.nm) { i with p := d } := by kernel_rfl
theorem mg3 (i : Pt) (d : Dt) : mergeD (mergeD [] (partsD i)) [(.inr "leash", d)] = partsG (.str i.nm) { i with l := d } := by kernel_rfl
theorem mg4 (i : Pt) (d : Dt) : mergeD (mergeD [] (partsD i)) [(.inr "needs", d)] = partsG (.str i.nm) { i with n := d } := by kernel_rfl
theorem mg5 (i : Pt) (d : Dt) : mergeD (mergeD [] (partsD i)) [(.inr "sleeps", d)] = partsG (.str i.nm) { i with s := d } := by kernel_rfl
theorem mg6 (i : Pt) (d : Dt) : mergeD (mergeD [] (partsD i)) [(.inr "sleep", d)] = partsG (.str i.nm) { i with sl := d } := by kernel_rfl
theorem mg7 (i : Pt) (d : Dt) : mergeD (mergeD [] (partsD i)) [(.inr "wake", d)] = partsG (.str i.nm) { i with wk := d } := by kernel_rfl
theorem mg8 (i : Pt) (d : Dt) : mergeD (mergeD [] (partsD i)) [(.inr "turns", d)] = partsG (.str i.nm) { i with t := d } := by kernel_rfl
theorem ok_swapped (F : Fun K "_law_swapped" "_law_swapped" sSwapped f fd) (T : IsleK K mg C) (mo : ∀ k ∈ kAll, MoC K mg C cN cI cP [k]) : FnG P w K mg base CX0 9 f fd ["_law_isle", "_law_at", "_law_one"] (spP K (WSwap C)) := by
  refine defP F scSwapped (fun ds Φ ⟨a, b, i, ns, at_, d, e, _⟩ => by rw [e]; rfl) (by decide) fun cdv A outer s H E hr hg => ?_
  refine ⟨_, pss_cons (ps_if (pt_cmpR op_eq (pv 1) pe_int (nomark _)) (pss_one (ps_ret ((mo "name" (by decide)).pe (E := E0) T rfl rfl hr passO (pv 0) (pk_cons (pv 2) pk_nil)))) pss_nil)
    <| pss_cons (ps_if (pt_cmpR op_eq (pv 1) pe_int (nomark _)) (pss_one (ps_ret ((mo "kept" (by decide)).pe (E := E0) T rfl rfl hr passO (pv 0) (pk_cons (pv 2) pk_nil)))) pss_nil)
    <| pss_cons (ps_if (pt_cmpR op_eq (pv 1) pe_int (nomark _)) (pss_one (ps_ret ((mo "plain" (by decide)).pe (E := E0) T rfl rfl hr passO (pv 0) (pk_cons (pv 2) pk_nil)))) pss_nil)
    <| pss_cons (ps_if (pt_cmpR op_eq (pv 1) pe_int (nomark _)) (pss_one (ps_ret ((mo "leash" (by decide)).pe (E := E0) T rfl rfl hr passO (pv 0) (pk_cons (pv 2) pk_nil)))) pss_nil)
    <| pss_cons (ps_if (pt_cmpR op_eq (pv 1) pe_int (nomark _)) (pss_one (ps_ret ((mo "needs" (by decide)).pe (E := E0) T rfl rfl hr passO (pv 0) (pk_cons (pv 2) pk_nil)))) pss_nil)
    <| pss_cons (ps_if (pt_cmpR op_eq (pv 1) pe_int (nomark _)) (pss_one (ps_ret ((mo "sleeps" (by decide)).pe (E := E0) T rfl rfl hr passO (pv 0) (pk_cons (pv 2) pk_nil)))) pss_nil)
    <| pss_cons (ps_if (pt_cmpR op_eq (pv 1) pe_int (nomark _)) (pss_one (ps_ret ((mo "sleep" (by decide)).pe (E := E0) T rfl rfl hr passO (pv 0) (pk_cons (pv 2) pk_nil)))) pss_nil)
    <| pss_cons (ps_if (pt_cmpR op_eq (pv 1) pe_int (nomark _)) (pss_one (ps_ret ((mo "wake" (by decide)).pe (E := E0) T rfl rfl hr passO (pv 0) (pk_cons (pv 2) pk_nil)))) pss_nil)
    <| pss_one (ps_ret ((mo "turns" (by decide)).pe (E := E0) T rfl rfl hr passO (pv 0) (pk_cons (pv 2) pk_nil))), ?_⟩
  rintro ds Φ ⟨a, b, i, ns, at_, d, rfl, g, hat, hd, q⟩
  show Ws K _ [.dat (isleD C a b i), .dat (.int at_), .dat d] _
  obtain ⟨ns', g', -, -⟩ := g.set hat hd
  have q := fun a' b' => q a' b' ns' g'
  obtain rfl | rfl | rfl | rfl | rfl | rfl | rfl | rfl | rfl : at_ = 0 ∨ at_ = 1 ∨ at_ = 2 ∨ at_ = 3 ∨ at_ = 4 ∨ at_ = 5 ∨ at_ = 6 ∨ at_ = 7 ∨ at_ = 8 := by omega
  · refine ws_seq <| ws_if (pf := true) <| wt_test <| w_op <| w_var (d := .int 0) rfl <| w_c (fun _ => .int 0) <| od_eqi ⟨true, congrArg Dt.bl (by decide +kernel), ifT <| ws_ret (pf := true) <| w_methKw0 <| w_var (d := isleD C a b i) rfl ⟨a, _, _, rfl, by decide, wa_cons <| w_var (d := d) rfl <| wa_nil ⟨rfl, fun p => ⟨a, b, i, p, _, ["name"], rfl, rfl, by decide, .inr ⟨fun z hz => ?_, _, setPt i 0 d, mg0 i d, ?_⟩⟩⟩⟩⟩
    · rw [List.mem_singleton.mp hz]; rfl
    · have e : d = .str (setPt i 0 d).nm := name_str hd
      have := told_good (C := C) (cN := cN) (cI := cI) (Ξ := fun _ _ _ => False) g' q
      rw [← e] at this
      exact this
  · refine ws_seq <| ws_if (pf := true) <| wt_test <| w_op <| w_var (d := .int 1) rfl <| w_c (fun _ => .int 0) <| od_eqi ⟨false, congrArg Dt.bl (by decide +kernel), ifF <| ws_next <| ws_seq <| ws_if (pf := true) <| wt_test <| w_op <| w_var (d := .int 1) rfl <| w_c (fun _ => .int 1) <| od_eqi ⟨true, congrArg Dt.bl (by decide +kernel), ifT <| ws_ret (pf := true) <| w_methKw0 <| w_var (d := isleD C a b i) rfl ⟨a, _, _, rfl, by decide, wa_cons <| w_var (d := d) rfl <| wa_nil ⟨rfl, fun p => ⟨a, b, i, p, _, ["kept"], rfl, rfl, by decide, .inr ⟨fun z hz => ?_, _, setPt i 1 d, mg1 i d, ?_⟩⟩⟩⟩⟩⟩
    · rw [List.mem_singleton.mp hz]; rfl
    · exact told_good g' q
  · refine ws_seq <| ws_if (pf := true) <| wt_test <| w_op <| w_var (d := .int 2) rfl <| w_c (fun _ => .int 0) <| od_eqi ⟨false, congrArg Dt.bl (by decide +kernel), ifF <| ws_next <| ws_seq <| ws_if (pf := true) <| wt_test <| w_op <| w_var (d := .int 2) rfl <| w_c (fun _ => .int 1) <| od_eqi ⟨false, congrArg Dt.bl (by decide +kernel), ifF <| ws_next <| ws_seq <| ws_if (pf := true) <| wt_test <| w_op <| w_var (d := .int 2) rfl <| w_c (fun _ => .int 2) <| od_eqi ⟨true, congrArg Dt.bl (by decide +kernel), ifT <| ws_ret (pf := true) <| w_methKw0 <| w_var (d := isleD C a b i) rfl ⟨a, _, _, rfl, by decide, wa_cons <| w_var (d := d) rfl <| wa_nil ⟨rfl, fun p => ⟨a, b, i, p, _, ["plain"], rfl, rfl, by decide, .inr ⟨fun z hz => ?_, _, setPt i 2 d, mg2 i d, ?_⟩⟩⟩⟩⟩⟩⟩
    · rw [List.mem_singleton.mp hz]; rfl
    · exact told_good g' q
  · refine ws_seq <| ws_if (pf := true) <| wt_test <| w_op <| w_var (d := .int 3) rfl <| w_c (fun _ => .int 0) <| od_eqi ⟨false, congrArg Dt.bl (by decide +kernel), ifF <| ws_next <| ws_seq <| ws_if (pf := true) <| wt_test <| w_op <| w_var (d := .int 3) rfl <| w_c (fun _ => .int 1) <| od_eqi ⟨false, congrArg Dt.bl (by decide +kernel), ifF <| ws_next <| ws_seq <| ws_if (pf := true) <| wt_test <| w_op <| w_var (d := .int 3) rfl <| w_c (fun _ => .int 2) <| od_eqi ⟨false, congrArg Dt.bl (by decide +kernel), ifF <| ws_next <| ws_seq <| ws_if (pf := true) <| wt_test <| w_op <| w_var (d := .int 3) rfl <| w_c (fun _ => .int 3) <| od_eqi ⟨true, congrArg Dt.bl (by decide +kernel), ifT <| ws_ret (pf := true) <| w_methKw0 <| w_var (d := isleD C a b i) rfl ⟨a, _, _, rfl, by decide, wa_cons <| w_var (d := d) rfl <| wa_nil ⟨rfl, fun p => ⟨a, b, i, p, _, ["leash"], rfl, rfl, by decide, .inr ⟨fun z hz => ?_, _, setPt i 3 d, mg3 i d, ?_⟩⟩⟩⟩⟩⟩⟩⟩
    · rw [List.mem_singleton.mp hz]; rfl
    · exact told_good g' q
  · refine ws_seq <| ws_if (pf := true) <| wt_test <| w_op <| w_var (d := .int 4) rfl <| w_c (fun _ => .int 0) <| od_eqi ⟨false, congrArg Dt.bl (by decide +kernel), ifF <| ws_next <| ws_seq <| ws_if (pf := true) <| wt_test <| w_op <| w_var (d := .int 4) rfl <| w_c (fun _ => .int 1) <| od_eqi ⟨false, congrArg Dt.bl (by decide +kernel), ifF <| ws_next <| ws_seq <| ws_if (pf := true) <| wt_test <| w_op <| w_var (d := .int 4) rfl <| w_c (fun _ => .int 2) <| od_eqi ⟨false, congrArg Dt.bl (by decide +kernel), ifF <| ws_next <| ws_seq <| ws_if (pf := true) <| wt_test <| w_op <| w_var (d := .int 4) rfl <| w_c (fun _ => .int 3) <| od_eqi ⟨false, congrArg Dt.bl (by decide +kernel), ifF <| ws_next <| ws_seq <| ws_if (pf := true) <| wt_test <| w_op <| w_var (d := .int 4) rfl <| w_c (fun _ => .int 4) <| od_eqi ⟨true, congrArg Dt.bl (by decide +kernel), ifT <| ws_ret (pf := true) <| w_methKw0 <| w_var (d := isleD C a b i) rfl ⟨a, _, _, rfl, by decide, wa_cons <| w_var (d := d) rfl <| wa_nil ⟨rfl, fun p => ⟨a, b, i, p, _, ["needs"], rfl, rfl, by decide, .inr ⟨fun z hz => ?_, _, setPt i 4 d, mg4 i d, ?_⟩⟩⟩⟩⟩⟩⟩⟩⟩
    · rw [List.mem_singleton.mp hz]; rfl
    · exact told_good g' q
  · refine ws_seq <| ws_if (pf := true) <| wt_test <| w_op <| w_var (d := .int 5) rfl <| w_c (fun _ => .int 0) <| od_eqi ⟨false, congrArg Dt.bl (by decide +kernel), ifF <| ws_next <| ws_seq <| ws_if (pf := true) <| wt_test <| w_op <| w_var (d := .int 5) rfl <| w_c (fun _ => .int 1) <| od_eqi ⟨false, congrArg Dt.bl (by decide +kernel), ifF <| ws_next <| ws_seq <| ws_if (pf := true) <| wt_test <| w_op <| w_var (d := .int 5) rfl <| w_c (fun _ => .int 2) <| od_eqi ⟨false, congrArg Dt.bl (by decide +kernel), ifF <| ws_next <| ws_seq <| ws_if (pf := true) <| wt_test <| w_op <| w_var (d := .int 5) rfl <| w_c (fun _ => .int 3) <| od_eqi ⟨false, congrArg Dt.bl (by decide +kernel), ifF <| ws_next <| ws_seq <| ws_if (pf := true) <| wt_test <| w_op <| w_var (d := .int 5) rfl <| w_c (fun _ => .int 4) <| od_eqi ⟨false, congrArg Dt.bl (by decide +kernel), ifF <| ws_next <| ws_seq <| ws_if (pf := true) <| wt_test <| w_op <| w_var (d := .int 5) rfl <| w_c (fun _ => .int 5) <| od_eqi ⟨true, congrArg Dt.bl (by decide +kernel), ifT <| ws_ret (pf := true) <| w_methKw0 <| w_var (d := isleD C a b i) rfl ⟨a, _, _, rfl, by decide, wa_cons <| w_var (d := d) rfl <| wa_nil ⟨rfl, fun p => ⟨a, b, i, p, _, ["sleeps"], rfl, rfl, by decide, .inr ⟨fun z hz => ?_, _, setPt i 5 d, mg5 i d, ?_⟩⟩⟩⟩⟩⟩⟩⟩⟩⟩
    · rw [List.mem_singleton.mp hz]; rfl
    · exact told_good g' q
  · refine ws_seq <| ws_if (pf := true) <| wt_test <| w_op <| w_var (d := .int 6) rfl <| w_c (fun _ => .int 0) <| od_eqi ⟨false, congrArg Dt.bl (by decide +kernel), ifF <| ws_next <| ws_seq <| ws_if (pf := true) <| wt_test <| w_op <| w_var (d := .int 6) rfl <| w_c (fun _ => .int 1) <| od_eqi ⟨false, congrArg Dt.bl (by decide +kernel), ifF <| ws_next <| ws_seq <| ws_if (pf := true) <| wt_test <| w_op <| w_var (d := .int 6) rfl <| w_c (fun _ => .int 2) <| od_eqi ⟨false, congrArg Dt.bl (by decide +kernel), ifF <| ws_next <| ws_seq <| ws_if (pf := true) <| wt_test <| w_op <| w_var (d := .int 6) rfl <| w_c (fun _ => .int 3) <| od_eqi ⟨false, congrArg Dt.bl (by decide +kernel), ifF <| ws_next <| ws_seq <| ws_if (pf := true) <| wt_test <| w_op <| w_var (d := .int 6) rfl <| w_c (fun _ => .int 4) <| od_eqi ⟨false, congrArg Dt.bl (by decide +kernel), ifF <| ws_next <| ws_seq <| ws_if (pf := true) <| wt_test <| w_op <| w_var (d := .int 6) rfl <| w_c (fun _ => .int 5) <| od_eqi ⟨false, congrArg Dt.bl (by decide +kernel), ifF <| ws_next <| ws_seq <| ws_if (pf := true) <| wt_test <| w_op <| w_var (d := .int 6) rfl <| w_c (fun _ => .int 6) <| od_eqi ⟨true, congrArg Dt.bl (by decide +kernel), ifT <| ws_ret (pf := true) <| w_methKw0 <| w_var (d := isleD C a b i) rfl ⟨a, _, _, rfl, by decide, wa_cons <| w_var (d := d) rfl <| wa_nil ⟨rfl, fun p => ⟨a, b, i, p, _, ["sleep"], rfl, rfl, by decide, .inr ⟨fun z hz => ?_, _, setPt i 6 d, mg6 i d, ?_⟩⟩⟩⟩⟩⟩⟩⟩⟩⟩⟩
    · rw [List.mem_singleton.mp hz]; rfl
    · exact told_good g' q
  · refine ws_seq <| ws_if (pf := true) <| wt_test <| w_op <| w_var (d := .int 7) rfl <| w_c (fun _ => .int 0) <| od_eqi ⟨false, congrArg Dt.bl (by decide +kernel), ifF <| ws_next <| ws_seq <| ws_if (pf := true) <| wt_test <| w_op <| w_var (d := .int 7) rfl <| w_c (fun _ => .int 1) <| od_eqi ⟨false, congrArg Dt.bl (by decide +kernel), ifF <| ws_next <| ws_seq <| ws_if (pf := true) <| wt_test <| w_op <| w_var (d := .int 7) rfl <| w_c (fun _ => .int 2) <| od_eqi ⟨false, congrArg Dt.bl (by decide +kernel), ifF <| ws_next <| ws_seq <| ws_if (pf := true) <| wt_test <| w_op <| w_var (d := .int 7) rfl <| w_c (fun _ => .int 3) <| od_eqi ⟨false, congrArg Dt.bl (by decide +kernel), ifF <| ws_next <| ws_seq <| ws_if (pf := true) <| wt_test <| w_op <| w_var (d := .int 7) rfl <| w_c (fun _ => .int 4) <| od_eqi ⟨false, congrArg Dt.bl (by decide +kernel), ifF <| ws_next <| ws_seq <| ws_if (pf := true) <| wt_test <| w_op <| w_var (d := .int 7) rfl <| w_c (fun _ => .int 5) <| od_eqi ⟨false, congrArg Dt.bl (by decide +kernel), ifF <| ws_next <| ws_seq <| ws_if (pf := true) <| wt_test <| w_op <| w_var (d := .int 7) rfl <| w_c (fun _ => .int 6) <| od_eqi ⟨false, congrArg Dt.bl (by decide +kernel), ifF <| ws_next <| ws_seq <| ws_if (pf := true) <| wt_test <| w_op <| w_var (d := .int 7) rfl <| w_c (fun _ => .int 7) <| od_eqi ⟨true, congrArg Dt.bl (by decide +kernel), ifT <| ws_ret (pf := true) <| w_methKw0 <| w_var (d := isleD C a b i) rfl ⟨a, _, _, rfl, by decide, wa_cons <| w_var (d := d) rfl <| wa_nil ⟨rfl, fun p => ⟨a, b, i, p, _, ["wake"], rfl, rfl, by decide, .inr ⟨fun z hz => ?_, _, setPt i 7 d, mg7 i d, ?_⟩⟩⟩⟩⟩⟩⟩⟩⟩⟩⟩⟩
    · rw [List.mem_singleton.mp hz]; rfl
    · exact told_good g' q
  · refine ws_seq <| ws_if (pf := true) <| wt_test <| w_op <| w_var (d := .int 8) rfl <| w_c (fun _ => .int 0) <| od_eqi ⟨false, congrArg Dt.bl (by decide +kernel), ifF <| ws_next <| ws_seq <| ws_if (pf := true) <| wt_test <| w_op <| w_var (d := .int 8) rfl <| w_c (fun _ => .int 1) <| od_eqi ⟨false, congrArg Dt.bl (by decide +kernel), ifF <| ws_next <| ws_seq <| ws_if (pf := true) <| wt_test <| w_op <| w_var (d := .int 8) rfl <| w_c (fun _ => .int 2) <| od_eqi ⟨false, congrArg Dt.bl (by decide +kernel), ifF <| ws_next <| ws_seq <| ws_if (pf := true) <| wt_test <| w_op <| w_var (d := .int 8) rfl <| w_c (fun _ => .int 3) <| od_eqi ⟨false, congrArg Dt.bl (by decide +kernel), ifF <| ws_next <| ws_seq <| ws_if (pf := true) <| wt_test <| w_op <| w_var (d := .int 8) rfl <| w_c (fun _ => .int 4) <| od_eqi ⟨false, congrArg Dt.bl (by decide +kernel), ifF <| ws_next <| ws_seq <| ws_if (pf := true) <| wt_test <| w_op <| w_var (d := .int 8) rfl <| w_c (fun _ => .int 5) <| od_eqi ⟨false, congrArg Dt.bl (by decide +kernel), ifF <| ws_next <| ws_seq <| ws_if (pf := true) <| wt_test <| w_op <| w_var (d := .int 8) rfl <| w_c (fun _ => .int 6) <| od_eqi ⟨false, congrArg Dt.bl (by decide +kernel), ifF <| ws_next <| ws_seq <| ws_if (pf := true) <| wt_test <| w_op <| w_var (d := .int 8) rfl <| w_c (fun _ => .int 7) <| od_eqi ⟨false, congrArg Dt.bl (by decide +kernel), ifF <| ws_next <| ws_ret (pf := true) <| w_methKw0 <| w_var (d := isleD C a b i) rfl ⟨a, _, _, rfl, by decide, wa_cons <| w_var (d := d) rfl <| wa_nil ⟨rfl, fun p => ⟨a, b, i, p, _, ["turns"], rfl, rfl, by decide, .inr ⟨fun z hz => ?_, _, setPt i 8 d, mg8 i d, ?_⟩⟩⟩⟩⟩⟩⟩⟩⟩⟩⟩⟩
    · rw [List.mem_singleton.mp hz]; rfl
    · exact told_good g' q
end
end K04

set_option maxHeartbeats 4000000
namespace K04
open PySem PySem.Spec PyProof.Rows L2 DL LamX
variable [Tb]
/-! ### _law_heard -/
abbrev sHeard : Stmt := topS 33
abbrev NHeard : List Str := ["_law_ask", "_law_caught", "error"]
theorem scHeard : FnScope NHeard ["_law_ask"] (defScope sHeard) := ⟨rfl, rfl, rfl, by decide +kernel, rfl, by decide +kernel, by decide +kernel⟩
structure ExP (K : PySem.W.Frag) (mg : Str → Option Value) (cP cN cI cD : Addr) : Prop where
  nP : mg "NoPart" = some (.ref cP)
  nN : mg "InvalidName" = some (.ref cN)
  nI : mg "InvalidIsle" = some (.ref cI)
  nD : mg "DuskError" = some (.ref cD)
  xP : XfC K cP
  xN : XfC K cN
  xI : XfC K cI
  fh : PySem.W.findIn K (.ref cP) "which" = some none
  fv : PySem.W.findIn K (.ref cN) "value" = some none
  fw : PySem.W.findIn K (.ref cI) "which" = some none
  fp : PySem.W.findIn K (.ref cI) "part" = some none
  iN : IsxC K cN
  iI : IsxC K cI
  nn : PySem.W.kitOne K (.ref cN) (.ref cN) = some true
  ni : PySem.W.kitOne K (.ref cN) (.ref cI) = some false
  n2 : PySem.W.kitOne K (.ref cI) (.ref cN) = some false
  ii : PySem.W.kitOne K (.ref cI) (.ref cI) = some true
  pp : PySem.W.exmOne K (.ref cP) (.ref cP) = some true
  pn : PySem.W.exmOne K (.ref cN) (.ref cP) = some false
  pi : PySem.W.exmOne K (.ref cI) (.ref cP) = some false
  mN : PySem.W.exmOne K (.ref cN) (.ref cD) = some true
  mI : PySem.W.exmOne K (.ref cI) (.ref cD) = some true
def hear (cP cN cI : Addr) : Addr → List Str → List Dt → (Dt → Prop) → Prop := fun C ns es Φ =>
  (∃ x, C = cP ∧ ns = [("which" : Str)] ∧ es = [x] ∧ Φ (.tup [.str "part", x])) ∨ (∃ x y, C = cI ∧ ns = [("part" : Str), "which"] ∧ es = [y, x] ∧ Φ (.tup [.str "isle", x, y])) ∨ (∃ x, C = cN ∧ ns = [("value" : Str)] ∧ es = [x] ∧ Φ (.tup [.str "name", x]))
/-- what is left behind the suite -/
theorem left_of {K : PySem.W.Frag} {M : Md} {H2 : Hp} {Q : VK} {Φ : Dt → Prop} {ws : List V} {ds : List Dt} {p a : Addr} {o : HO} (m : MOk M H2) (hp : H2 p = none) (na : (upd H2 p (.tup ws)) a = none) (x : DXs K (cut M H2) ws ds) (f : Φ (.tup ds))
    (q : ∀ v H3 d, Same H2 H3 → DX K (cut M H3) v d → Φ d → Q v H3) : Q (.ref p) (upd (upd H2 p (.tup ws)) a o) := by
  have s1 : Same H2 (upd H2 p (.tup ws)) := same_new hp
  have s2 : Same (upd H2 p (.tup ws)) (upd (upd H2 p (.tup ws)) a o) := same_new na
  exact q _ _ _ (s1.trans s2) ((dx_new_t m hp x).mono (cut_same M s2)) f
theorem asks_heard {K : PySem.W.Frag} {mg : Str → Option Value} {cP cN cI cD : Addr} (E : ExP K mg cP cN cI cD) (B : Bt mg) (X : Cx) (hK : X.K = K) (hm : X.mg = mg) (g : Addr) (cdg : Value) (q0 : Str) :
    Asks X NHeard "_law_heard" (defScope sHeard) g cdg (defBody sHeard) "_law_ask" q0 (TTd K (hear cP cN cI)) := by
  subst hK hm
  intro f c' s H Q tl act hc TT
  refine ⟨_, pss_cons (ps_set (i := 1) scHeard.nd rfl (Or.inl rfl) pe_non)
    <| pss_cons (ps_try_keeps (i := 2) rfl rfl scHeard.nd rfl rfl L2.takes0 (fun W pn xe tk _ => pss_one (ps_ret (act W pn xe _ _ tk)))
      (.cons ⟨by rfl, by decide, .inl E.nP⟩ (fun a oe cls d pn hz hf => pss_one (ps_set (i := 1) scHeard.nd rfl (Or.inl rfl) (pe_tup (pa_cons pe_str (pa_cons (pe_xf (C := cP) E.xP E.fh hz hf (pv 2)) pa_nil)))))
      (.cons ⟨by rfl, by decide, .inl E.nD⟩ (fun a oe cls d pn hz hf => pss_cons (ps_set (i := 1) scHeard.nd rfl (Or.inl rfl) (pe_tup (pa_cons pe_str pa_nil)))
        <| pss_cons (ps_if (pt_val (pe_callB (call_isS hz hf) (by rfl) B.isi boot_isinstance (pa_cons (pv 2) (pa_cons (pe_glob (v := .ref cI) (by rfl) E.nI rfl) pa_nil)))) (pss_one (ps_set (i := 1) scHeard.nd rfl (Or.inl rfl) (pe_tup (pa_cons pe_str (pa_cons (pe_xf (C := cI) E.xI E.fw hz hf (pv 2)) (pa_cons (pe_xf (C := cI) E.xI E.fp hz hf (pv 2)) pa_nil)))))) pss_nil)
        <| pss_one (ps_if (pt_val (pe_callB (call_isS hz hf) (by rfl) B.isi boot_isinstance (pa_cons (pv 2) (pa_cons (pe_glob (v := .ref cN) (by rfl) E.nN rfl) pa_nil)))) (pss_one (ps_set (i := 1) scHeard.nd rfl (Or.inl rfl) (pe_tup (pa_cons pe_str (pa_cons (pe_xf (C := cN) E.xN E.fv hz hf (pv 2)) pa_nil))))) pss_nil)) .nil)))
    <| pss_one (ps_ret (pv 1)), ?_⟩
  refine ⟨⟨rfl, hc⟩, TT _ fun C dd H2 hh => ?_⟩
  obtain ⟨M, ns, us, es, Φ, m, hd, hl, nd, xs, hr, q⟩ := hh
  rcases hr with ⟨x, rfl, rfl, rfl, f⟩ | ⟨x, y, rfl, rfl, rfl, f⟩ | ⟨x, rfl, rfl, rfl, f⟩
  · obtain ⟨u, rfl, xu⟩ := one_v xs
    refine ⟨true, E.pp, fun _ a na => ?_, fun z => nomatch z⟩
    refine ⟨_, rfl, ⟨rfl, rfl, dd, _, u, rfl, hd, rfl, ?_⟩⟩
    refine ⟨by show 2 ≤ _; decide, fun p hp na2 => ?_⟩
    exact ⟨_, rfl, left_of m hp na2 (.cons (.str _) (.one xu)) f q⟩
  · obtain ⟨u1, u2, rfl, x1, x2⟩ := two_v xs
    refine ⟨false, E.pi, (fun z => nomatch z), fun _ => ⟨true, E.mI, (fun _ a na => ?_), fun z => nomatch z⟩⟩
    refine ⟨by show 1 ≤ _; decide, fun p1 hp1 => ?_⟩
    have s1 : Same H2 (upd H2 p1 (.tup [.str "odd"])) := same_new hp1
    have hd1 := s1 _ _ hd
    refine ⟨.ref a, rfl, C, dd, _, .ref C, .ref C, true, rfl, rfl, rfl, hd1, E.iI, (fun u z => z), E.ii, true, rfl, ?_⟩
    refine ⟨_, rfl, ⟨rfl, rfl, dd, _, u2, rfl, hd1, rfl, ?_⟩⟩
    refine ⟨_, rfl, ⟨rfl, rfl, dd, _, u1, rfl, hd1, rfl, ?_⟩⟩
    refine ⟨by show 3 ≤ _; decide, fun p2 hp2 => ?_⟩
    refine ⟨.ref a, rfl, C, dd, _, .ref cN, .ref cN, false, rfl, rfl, rfl, same_new hp2 _ _ hd1, E.iI, (fun u z => z), E.n2, false, rfl, ?_⟩
    intro na2
    exact ⟨_, rfl, left_of (m.same s1) hp2 na2 ((DXs.cons (.str _) (.cons x2 (.one x1))).mono (cut_same M s1)) f fun v H3 d sm => q v H3 d (s1.trans sm)⟩
  · obtain ⟨u, rfl, xu⟩ := one_v xs
    refine ⟨false, E.pn, (fun z => nomatch z), fun _ => ⟨true, E.mN, (fun _ a na => ?_), fun z => nomatch z⟩⟩
    refine ⟨by show 1 ≤ _; decide, fun p1 hp1 => ?_⟩
    have s1 : Same H2 (upd H2 p1 (.tup [.str "odd"])) := same_new hp1
    have hd1 := s1 _ _ hd
    refine ⟨.ref a, rfl, C, dd, _, .ref cI, .ref cI, false, rfl, rfl, rfl, hd1, E.iN, (fun u z => z), E.ni, false, rfl, ?_⟩
    refine ⟨.ref a, rfl, C, dd, _, .ref C, .ref C, true, rfl, rfl, rfl, hd1, E.iN, (fun u z => z), E.nn, true, rfl, ?_⟩
    refine ⟨_, rfl, ⟨rfl, rfl, dd, _, u, rfl, hd1, rfl, ?_⟩⟩
    refine ⟨by show 2 ≤ _; decide, fun p2 hp2 na2 => ?_⟩
    exact ⟨_, rfl, left_of (m.same s1) hp2 na2 ((DXs.cons (.str _) (.one xu)).mono (cut_same M s1)) f fun v H3 d sm => q v H3 d (s1.trans sm)⟩
end K04

/-! A def whose code object is known (it makes lambdas). -/
namespace DL
open PySem PySem.Spec PyProof.Rows L2 LamX
variable [Tb]
structure FunL (K : PySem.W.Frag) (x qual : Str) (st : Stmt) (f : Addr) (fd : FuncData) (c : Addr) : Prop where
  ex : ∃ (oc : Value) (od : Option Addr) (kV doc pm : Value) (an : Option Addr) (ct : Value) (osl : Array (Option Value)),
    fd = PySem.W.fnOf x qual (defArgs st) (defBody st) (defScope st) .none kV doc pm an (.ref c) ct ∧ K.lookup f = some ⟨oc, od, .func fd, osl⟩ ∧ PySem.W.codeIn K (.ref c) qual = true
section
variable {P : Program} {w : World} {K : PySem.W.Frag} {mg : Str → Option Value} {base : Heap} {k : Nat} {f c : Addr} {fd : FuncData} {ps N : List Str} {x qual : Str} {st : Stmt}
theorem defNQ {W : Nat → List Dt → (Dt → Nat → Prop) → Prop} (F : FunL K x qual st f fd c) (S : FnScope N ps (defScope st)) (hW : ∀ n ds Φ, W n ds Φ → ds.length + 1 = ps.length) (hN : ps.length ≤ N.length)
    (hb : ∀ (A : Around) (outer : List Env) (s : Shared) (H : Hp) (E : XK), Room k (A.deeper (envOfC qual (defScope st) s.heap.objs.size f (.ref c))) →
      (A.deeper (envOfC qual (defScope st) s.heap.objs.size f (.ref c))).guards = some [] → ∃ t, PSs (cxOf CX0 P w K mg base N qual (defScope st) f (.ref c) A outer s H E).nox (defBody st) t ∧
        ∀ n ds Φ, W n ds Φ → Ws K t (.pen n :: slots ds (N.length - (ds.length + 1))) { nx := fun ρ => ∃ n' s, ρ[0]? = some s ∧ PenS n' s ∧ Φ .non n', rt := fun d ρ => ∃ n' s, ρ[0]? = some s ∧ PenS n' s ∧ Φ d n' }) :
    FnG P w K mg base CX0 (k + 1) f fd ps (spN K W) := by
  have len : ∀ vs H Q E, spN K W vs H Q E → vs.length = ps.length := fun vs H Q E ⟨M, p, n, ws, ds, Φ, e, _, _, _, _, x, w, _⟩ => by
    rw [e, List.length_cons, x.len]; exact hW n ds Φ w
  obtain ⟨oc, od, kV, doc, pm, an, ct, osl, rfl, lk, hcd⟩ := F.ex
  refine fnG_of lk hcd S len ?_
  intro A outer s H vs Q E hr hg h
  obtain ⟨t, h1, h2⟩ := hb A outer s H E hr hg
  exact ⟨t, h1.nox, read_N (E := E) h (by rw [len _ _ _ _ h]; exact hN) fun n ds Φ _ w => h2 n ds Φ w⟩
end
end DL

set_option maxHeartbeats 4000000
namespace K04
open PySem PySem.Spec PyProof.Rows L2 DL LamX
variable [Tb]
abbrev sRefused : Stmt := topS 34
abbrev NRef : List Str := ["_law_pen", "_law_isle", "_law_bad", "_law_some", "_law_told"]
theorem scRefused : FnScope NRef ["_law_pen", "_law_isle"] (defScope sRefused) := ⟨rfl, rfl, rfl, by decide +kernel, rfl, by decide +kernel, by decide +kernel⟩
def qLam : Str := "_law_refused_right.<locals>.<lambda>"
/-! ### a lambda that changes an isle, heard -/
section
variable {K : PySem.W.Frag} {mg : Str → Option Value} {base : Heap} {cP cN cI cD : Addr}
theorem pe_heard {X : Cx} {c P : Addr} {pl : Arguments} {body : Expr} {scope : Scope} {t : XK → TE} {p lpos pos : Pos} (E : ExP K mg cP cN cI cD) (B : Bt mg) (dH : DF K mg "_law_heard" sHeard ["_law_ask"]) (hT : Tb.T = [(P, qLam)]) (hK : X.K = K) (hm : X.mg = mg) (hq : X.env.qual ++ "<lambda>" = qLam) (TB : TabB X.base X.mg c P) (code : X.env.code = .ref c) (room : Room 10 X.A) (gl : Gl X "_law_heard")
    (L : LamS X.env.scope scope) (nodef : defaultsOf pl X.env = ([], []))
    (lbd : ∀ (q : Str) (cl : List (Str × Addr)) (pm cv ctv : Value), bindArgs (PySem.W.kla_fn "<lambda>" q pl body scope cl pm cv ctv) ⟨[], []⟩ = pure [])
    (hb : ∀ (A : Around) (outer : List Env) (s : Shared) (H : Hp) (E : XK) (f c' : Addr), Room 8 (A.deeper (lamEnv X scope s.heap.objs.size f c')) → PE (lamCx X A outer s H E scope f c') body (t E)) :
    PE X (.Call (.Name "_law_heard" p) [.Lambda pl body scope lpos] [] pos) (tLamR Tb.T (TTd K (hear cP cN cI)) t) := by
  subst hK hm
  obtain ⟨oc, od, kV, doc, pm, an, cdv, ct, osl, efd, lk, hcd⟩ := dH.F.ex
  have bd := dH.b
  rw [efd] at lk bd
  exact pe_asked gl dH.g dH.F.kp lk hcd bd scHeard rfl (.inl rfl) (asks_heard E B X rfl rfl _ _ _) TB code (by rw [hT, hq]; exact List.mem_singleton.mpr rfl) (fun q hq2 _ => by rw [hT] at hq2; rw [List.mem_singleton.mp hq2, hq]) room L nodef lbd hb (by decide) (by decide) (by decide)
end
section
variable {K : PySem.W.Frag} {pf : Bool} {ρ : List Sl} {C cP cN cI : Addr} {ta : TE} {tk : TA} {ks : List Str} {n : Nat} {Φ : Dt → List Sl → Prop}
theorem w_hc (e : ρ[0]? = some (.pen n)) (h : Wp K true ta ρ fun d ρ1 => ∃ a b i, d = isleD C a b i ∧ Wa K true tk ρ1 fun fs ρ2 => ρ2 = ρ ∧ fs.length = ks.length ∧ ∀ p, WCh C cN cI cP [isleD C a b i, .dct p ((ks.map Sum.inr).zip fs)] (fun _ => False) (fun C' ns es => hear cP cN cI C' ns es fun d => Φ d ρ)) :
    Wp K false (tLamR Tb.T (TTd K (hear cP cN cI)) (fun E => tMethKw C "changed" ks (spX K (WCh C cN cI cP)) E ta tk)) ρ Φ :=
  w_asked e <| wl_methKw <| h.imp fun d ρ1 ⟨a, b, i, ed, k⟩ => ⟨a, _, _, ed, by decide, fun M σ H S Q q => k M σ H S Q fun vs H2 ds ρ2 s S2 x ⟨eρ, hl, w⟩ => q vs H2 ds ρ2 s S2 x ⟨hl, fun p => by
    obtain ⟨a', b', i', p', kws, zs, e1, e2, e3, h4⟩ := w p
    refine ⟨a', b', i', p', kws, zs, e1, e2, e3, ?_⟩
    rcases h4 with h4 | ⟨h4, d', i2, m, T⟩
    · exact .inl h4
    · exact .inr ⟨h4, d', i2, m, T.short, T.ok, T.nm, T.no, T.bad, fun h1 h2 a b ss ss' h3 h4 h5 => (T.good h1 h2 a b ss ss' h3 h4 h5).elim⟩⟩⟩
/-- the parts are refused -/
theorem ch_bad {a b p : Addr} {i i' : Pt} {kws : List (Key × Dt)} {zs : List Str} {z : Str} {F : Dt → Prop} (e : kws.map (·.1) = zs.map Sum.inr) (hl : zs.length ≤ 9) (ho : ∀ x ∈ zs, odd i x = false) (hm : mergeD (mergeD [] (partsD i)) kws = partsG (.str i'.nm) i')
    (hs : shortD (.str i'.nm) = true) (hw : DL.isOwn (.str i'.nm) = true) (ok : i'.Ok) (hf : faultI i' = some z) (q : F (.tup [.str "isle", .str i'.nm, .str z])) : WCh C cN cI cP [isleD C a b i, .dct p kws] (fun _ => False) (fun C' ns es => hear cP cN cI C' ns es F) :=
  ⟨a, b, i, p, kws, zs, rfl, e, hl, .inr ⟨ho, _, i', hm, hs, ok, fun _ => rfl, fun h => absurd (h.symm.trans hw) (by decide), fun _ z' hz => by
    rw [hf] at hz
    cases hz
    exact .inr (.inl ⟨_, _, rfl, rfl, rfl, q⟩), fun _ h => by rw [hf] at h; cases h⟩⟩
end
/-! ### which parts are wrong -/
theorem Pt.Ok.mk2 {i : Pt} (h : (noTy i.k && (noTy i.p && (thingD i.l && (thingD i.n && (noTy i.s && (thingD i.sl && (thingD i.wk && (turnsD i.t && (layD i.l && (layD i.n && (layD i.sl && (layD i.wk && layD i.t)))))))))))) = true) : i.Ok := by
  simp only [Bool.and_eq_true] at h
  obtain ⟨h1, h2, h3, h4, h5, h6, h7, h8, h9, h10, h11, h12, h13⟩ := h
  exact ⟨h1, h2, h3, h4, h5, h6, h7, h8, h9, h10, h11, h12, h13⟩
section
variable {i : Pt} {ns : List Str}
theorem bad1 (g : Gd i ns) : faultI { i with l := .str "b", t := .non } = some "leash" := by
  have a := f1 g.k
  have b := f1 g.p
  unfold faultI
  rw [if_neg (by rw [a.2.1]; decide), if_neg (by rw [b.2.1]; decide), if_neg (by have := a.2.2.2.2.1; have := b.2.2.2.2.1; show ¬ (intOf i.k + intOf i.p = 0); omega)]
  exact if_pos rfl
theorem ok1' (g : Gd i ns) : ({ i with l := .str "b", t := .non } : Pt).Ok :=
  ⟨g.ok.k, g.ok.p, show thingD (.str "b") = true by decide +kernel, g.ok.n, g.ok.s, g.ok.sl, g.ok.wk, show turnsD .non = true by decide +kernel, show layD (.str "b") = true by decide +kernel, g.ok.ln, g.ok.lsl, g.ok.lwk, show layD .non = true by decide +kernel⟩
theorem bad2 (i : Pt) : faultI { i with k := .int 0, p := .int 0, n := .tup [.str "b", .str "b"] } = some "registers" := by
  unfold faultI
  rw [if_neg (by show ¬ (amountD (.int 0) = false); decide), if_neg (by show ¬ (amountD (.int 0) = false); decide)]
  exact if_pos rfl
theorem ok2' (g : Gd i ns) : ({ i with k := .int 0, p := .int 0, n := .tup [.str "b", .str "b"] } : Pt).Ok :=
  ⟨rfl, rfl, g.ok.l, show thingD (.tup [.str "b", .str "b"]) = true by decide +kernel, g.ok.s, g.ok.sl, g.ok.wk, g.ok.t, g.ok.ll, show layD (.tup [.str "b", .str "b"]) = true by decide +kernel, g.ok.lsl, g.ok.lwk, g.ok.lt⟩
theorem memO : ((freshS 3).all fun l => !memD "other" l) = true := by decide +kernel
theorem bad3 (g : Gd i ns) : faultI { i with nm := "other", s := .int 1 } = some "sleeps" := by
  have a := f1 g.k
  have b := f1 g.p
  have m1 : memD "other" i.l = false := by have h : (!memD "other" i.l) = true := mem_ok memO g.l; simpa using h
  have m2 : memD "other" i.n = false := by have h : (!memD "other" i.n) = true := mem_ok memO g.n4; simpa using h
  unfold faultI
  rw [if_neg (by rw [a.2.1]; decide), if_neg (by rw [b.2.1]; decide), if_neg (by have := a.2.2.2.2.1; have := b.2.2.2.2.1; show ¬ (intOf i.k + intOf i.p = 0); omega), if_neg (by show ¬ ((!isRow i.l 4 || memD "other" i.l) = true); rw [(f3 g.l).2.2.2.1, m1]; decide), if_neg (by show ¬ ((!isRow i.n 7 || memD "other" i.n) = true); rw [(f3 g.n4).2.2.2.2, m2]; decide)]
  exact if_pos rfl
theorem ok3' (g : Gd i ns) : ({ i with nm := "other", s := .int 1 } : Pt).Ok :=
  ⟨g.ok.k, g.ok.p, g.ok.l, g.ok.n, rfl, g.ok.sl, g.ok.wk, g.ok.t, g.ok.ll, g.ok.ln, g.ok.lsl, g.ok.lwk, g.ok.lt⟩
end
def dfl : Pt := ⟨"a", .int 1, .int 1, .tup [], .tup [], .bl true, strT rowSl, strT rowWk, .tup []⟩
def dflD : List Dt := [.int 1, .int 1, .tup [], .tup [], .bl true, strT rowSl, strT rowWk, .tup []]
def iA : Pt := { dfl with t := .tup [.tup [.str "sleep", .int 3, .int 0]] }
def iB : Pt := { dfl with l := strT ["b"] }
def iC : Pt := { dfl with n := strT ["c"] }
def iD : Pt := { dfl with k := .int 0 }
def iA' : Pt := { iA with sl := strT ["dark", "still"] }
def iB' : Pt := { iB with nm := "b" }
def iC' : Pt := { iC with nm := "c" }
def iD' : Pt := { iD with p := .int 0 }
theorem okA : iA.Ok := .mk2 (by decide +kernel)
theorem okB : iB.Ok := .mk2 (by decide +kernel)
theorem okC : iC.Ok := .mk2 (by decide +kernel)
theorem okD : iD.Ok := .mk2 (by decide +kernel)
theorem okA' : iA'.Ok := .mk2 (by decide +kernel)
theorem okB' : iB'.Ok := .mk2 (by decide +kernel)
theorem okC' : iC'.Ok := .mk2 (by decide +kernel)
theorem okD' : iD'.Ok := .mk2 (by decide +kernel)
theorem nfA : faultI iA = none := by decide +kernel
theorem nfB : faultI iB = none := by decide +kernel
theorem nfC : faultI iC = none := by decide +kernel
theorem nfD : faultI iD = none := by decide +kernel
theorem fA : faultI iA' = some "turns" := by decide +kernel
theorem fB : faultI iB' = some "leash" := by decide +kernel
theorem fC : faultI iC' = some "needs" := by decide +kernel
theorem fD : faultI iD' = some "registers" := by decide +kernel
theorem mgA : mergeD (mergeD [] (partsD iA)) [(.inr "sleep", strT ["dark", "still"])] = partsG (.str iA'.nm) iA' := by kernel_rfl
theorem mgB : mergeD (mergeD [] (partsD iB)) [(.inr "name", .str "b")] = partsG (.str iB'.nm) iB' := by kernel_rfl
theorem mgC : mergeD (mergeD [] (partsD iC)) [(.inr "name", .str "c")] = partsG (.str iC'.nm) iC' := by kernel_rfl
theorem mgD : mergeD (mergeD [] (partsD iD)) [(.inr "plain", .int 0)] = partsG (.str iD'.nm) iD' := by kernel_rfl
theorem mgG0 (i : Pt) (d : Dt) : mergeD (mergeD [] (partsD i)) [(.inr "name", d), (.inr "kept", .int (-1))] = partsG d { i with k := .int (-1) } := by kernel_rfl
theorem mgG1 (i : Pt) : mergeD (mergeD [] (partsD i)) [(.inr "turns", .non), (.inr "leash", .str "b")] = partsG (.str i.nm) { i with l := .str "b", t := .non } := by kernel_rfl
theorem mgG2 (i : Pt) : mergeD (mergeD [] (partsD i)) [(.inr "kept", .int 0), (.inr "plain", .int 0), (.inr "needs", .tup [.str "b", .str "b"])] = partsG (.str i.nm) { i with k := .int 0, p := .int 0, n := .tup [.str "b", .str "b"] } := by kernel_rfl
theorem mgG3 (i : Pt) : mergeD (mergeD [] (partsD i)) [(.inr "name", .str "other"), (.inr "sleeps", .int 1)] = partsG (.str "other") { i with nm := "other", s := .int 1 } := by kernel_rfl
def bads : List Dt := [.str "", .str "shore", .non, .int 5]
theorem badOk : (bads.all fun d => !DL.isOwn d && (shortD d && shB (.tup [.str "name", d]))) = true := by decide +kernel
def cmpB (d : Dt) (w : Str) : Bool := layD (.tup [.str "isle", d, .str w]) && PyData.eqv (Dt.tup [.str "isle", d, .str w]).py (Dt.tup [.str "isle", d, .str w]).py
theorem cmp1 : ((freshS 0).all fun d => cmpB d "leash" && cmpB d "registers") = true := by decide +kernel
/-- parts that are nobody's: the least one -/
theorem ch_odd {C cP cN cI a b p : Addr} {i : Pt} {kws : List (Key × Dt)} {zs ts : List Str} {s0 : Str} {r : List Str} {F : Dt → Prop} (e : kws.map (·.1) = zs.map Sum.inr) (hl : zs.length ≤ 9) (hp : ts.Perm zs) (hs : sortedS ts = true) (hf : ts.filter (odd i) = s0 :: r) (q : F (.tup [.str "part", .str s0])) :
    WCh C cN cI cP [isleD C a b i, .dct p kws] (fun _ => False) (fun C' ns es => hear cP cN cI C' ns es F) :=
  ⟨a, b, i, p, kws, zs, rfl, e, hl, .inl fun ss h1 h2 => ⟨s0, r, by rw [sorted_one (h1.trans hp.symm) h2 hs]; exact hf, .inl ⟨_, rfl, rfl, rfl, q⟩⟩⟩
theorem odd_keys (i : Pt) : ∀ z ∈ kAll, odd i z = false := fun z hz => by
  simp only [kAll, List.mem_cons, List.not_mem_nil, or_false] at hz
  rcases hz with e | e | e | e | e | e | e | e | e <;> rw [e] <;> rfl
theorem odd_sub {i : Pt} {zs : List Str} (h : (zs.all fun z => decide (z ∈ kAll)) = true) : ∀ z ∈ zs, odd i z = false := fun z hz => odd_keys i z (of_decide_eq_true (List.all_eq_true.mp h z hz))
end K04

set_option maxHeartbeats 8000000
namespace K04
open PySem PySem.Spec PyProof.Rows L2 DL LamX
variable [Tb]
def ksRef : List (List Str) := [["name", "kept"], ["turns", "leash"], ["kept", "plain", "needs"], ["name", "sleeps"], ["size", "kept"], ["sleep"], ["name"], ["plain"], ["zeta", "name", "alpha"]]
def gS (dv : List V) (j : Nat) : List V → List V → List V := fun vs zs => vs ++ (dv.take j ++ (zs ++ dv.drop (j + 1)))
def gSD (j : Nat) : List Dt → List Dt → List Dt := fun vs zs => vs ++ (dflD.take j ++ (zs ++ dflD.drop (j + 1)))
theorem gS_ok {K : PySem.W.Frag} {dv : List V} (em : ∀ H, DXs K H dv dflD) (j : Nat) (x : Addr) (vs zs : List V) (ds es : List Dt) (H : Hp) (h1 : DXs K H vs ds) (h2 : DXs K H zs es) : ∃ ws, gS dv j (V.ref x :: vs) zs = V.ref x :: ws ∧ DXs K H ws (gSD j ds es) :=
  ⟨_, rfl, h1.append (((em H).take j).append (h2.append ((em H).drop (j + 1))))⟩
section
variable {P : Program} {w : World} {K : PySem.W.Frag} {mg : Str → Option Value} {base : Heap} {C cP cN cI cD : Addr} {f c Pt0 : Addr} {fd : FuncData} {dv : List V}
def WRef (C : Addr) : Nat → List Dt → (Dt → Nat → Prop) → Prop := fun n ds Φ => ∃ a b i ns, ds = [isleD C a b i] ∧ Gd i ns ∧ n < 900000 ∧ Φ (.bl true) (n + 1)
theorem w_mkS {j : Nat} {ks : List Str} {i : Pt} {ss : List Str} {tk : TA} {ρ : List Sl} {Φ : Dt → List Sl → Prop} {x : Str} (em : ∀ H, DXs K H dv dflD) (ok : i.Ok) (hx : i.nm = x) (hs : shortD (.str i.nm) = true) (ho : DL.isOwn (.str i.nm) = true) (hf : faultI i = none) (hn : i.n = strT ss) (hq : ∀ ss' : List Str, ss'.Perm ss → ss' = ss)
    (h : Wa K true tk ρ fun es ρ2 => ρ2 = ρ ∧ es.length = ks.length ∧ gSD j [.str x] es = argsI (.str x) i ∧ ∀ a b, Φ (isleD C a b i) ρ) : Wp K false (tMakeK C 1 ks.length (spMkX K C (WI cN cI)) (gS dv j) (fun _ _ _ => False) (tCons (tC (.str x)) tNil) tk) ρ Φ := by
  subst hx
  refine Wpx.wp (xk := fun _ _ _ => False) <| wx_makeK (pf := true) (gD := gSD j) (fun x vs zs ds es H _ _ h1 h2 => gS_ok em j x vs zs ds es H h1 h2) (fun _ _ _ z => z.elim) <| wa_cons <| w_c (fun _ => .str _) <| wa_nil fun M σ H S Q q => h M σ H S Q fun vs H2 ds ρ2 s S2 x2 ⟨eρ, hl, e, z⟩ => q vs H2 ds ρ2 s S2 x2 ?_
  subst eρ
  refine ⟨rfl, hl, .str i.nm, i, e, hs, ok, fun _ => rfl, fun h => absurd (h.symm.trans ho) (by decide), fun _ => ⟨fun z hz => (by rw [hf] at hz; cases hz), fun _ b s1 s2 e1 hp _ a => ?_⟩⟩
  have e2 : s1 = ss := strT_inj (e1.symm.trans hn)
  subst e2
  rw [hq s2 hp]
  have : ({ i with n := strT s1 } : Pt) = i := by cases i; simp only [Pt.mk.injEq, true_and, and_true]; exact hn.symm
  rw [this]
  exact z a b
theorem perm0 (ss : List Str) (h : ss.Perm []) : ss = [] := h.eq_nil
theorem perm1 (x : Str) (ss : List Str) (h : ss.Perm [x]) : ss = [x] := List.perm_singleton.mp h
theorem ok_refused (F : FunL K "_law_refused_right" "_law_refused_right" sRefused f fd c) (B : Bt mg) (T : IsleK K mg C) (Gt : Gts K C mg) (Ex : ExP K mg cP cN cI cD) (hT : Tb.T = [(Pt0, qLam)]) (TB : TabB base mg c Pt0) (mo : ∀ ks ∈ ksRef, MoC K mg C cN cI cP ks) (em : ∀ H, DXs K H dv dflD)
    (mkA : MkI K mg C cN cI ["turns"] (gS dv 7)) (mkB : MkI K mg C cN cI ["leash"] (gS dv 2)) (mkC : MkI K mg C cN cI ["needs"] (gS dv 3)) (mkD : MkI K mg C cN cI ["kept"] (gS dv 0))
    (dHeard : DF K mg "_law_heard" sHeard ["_law_ask"]) (dPick : DF K mg "_law_pick" sPick ["_law_pen", "_law_some"]) (gPick : FnG P w K mg base CX0 10 dPick.f dPick.fd ["_law_pen", "_law_some"] (spN K WPick)) :
    FnG P w K mg base CX0 11 f fd ["_law_pen", "_law_isle"] (spN K (WRef C)) := by
  refine defNQ F scRefused (fun n ds Φ ⟨a, b, i, ns, e, _⟩ => by rw [e]; rfl) (by decide) fun A outer s H E hr hg => ?_
  refine ⟨_, pss_cons (ps_set (i := 2) scRefused.nd rfl (Or.inr rfl) (pe_callG gPick hr hg (by rfl) dPick.g dPick.F.kp dPick.b .nil pass0 (pa_cons (pv 0) (pa_cons (pe_lst (pa_cons pe_str (pa_cons pe_str (pa_cons pe_non (pa_cons pe_int pa_nil))))) pa_nil))))
    <| pss_cons (ps_if (pt_cmpR op_ne (pe_callB (call_reprX hg hr.units) (by rfl) B.repr boot_repr (pa_cons (pe_heard Ex B dHeard hT rfl rfl rfl TB rfl hr (by rfl) (lamS_by (by rfl)) rfl (fun _ _ _ _ _ => rfl) (fun A1 o1 s1 H1 E1 f1 c1 r1 => (mo ["name", "kept"] (by decide)).pe (E := E1) T rfl rfl r1 (passes_call (takes_of rfl rfl rfl rfl) fun _ _ _ _ h => h) (pv 1) (pk_cons (pv 2) (pk_cons (pe_un un_neg pe_int) pk_nil)))) pa_nil)) (pe_callB (call_reprX hg hr.units) (by rfl) B.repr boot_repr (pa_cons (pe_tup (pa_cons pe_str (pa_cons (pv 2) pa_nil))) pa_nil)) (nomark _)) (pss_one (ps_ret pe_bl)) pss_nil)
    <| pss_cons (ps_if (pt_cmpR (neDK K rfl hr.units) (pe_heard Ex B dHeard hT rfl rfl rfl TB rfl hr (by rfl) (lamS_by (by rfl)) rfl (fun _ _ _ _ _ => rfl) (fun A1 o1 s1 H1 E1 f1 c1 r1 => (mo ["turns", "leash"] (by decide)).pe (E := E1) T rfl rfl r1 (passes_call (takes_of rfl rfl rfl rfl) fun _ _ _ _ h => h) (pv 1) (pk_cons pe_non (pk_cons pe_str pk_nil)))) (pe_tup (pa_cons pe_str (pa_cons (Gt.gnam.pe T rfl (hr.mono (by decide)) (pv 1)) (pa_cons pe_str pa_nil)))) (nomark _)) (pss_one (ps_ret pe_bl)) pss_nil)
    <| pss_cons (ps_if (pt_cmpR (neDK K rfl hr.units) (pe_heard Ex B dHeard hT rfl rfl rfl TB rfl hr (by rfl) (lamS_by (by rfl)) rfl (fun _ _ _ _ _ => rfl) (fun A1 o1 s1 H1 E1 f1 c1 r1 => (mo ["kept", "plain", "needs"] (by decide)).pe (E := E1) T rfl rfl r1 (passes_call (takes_of rfl rfl rfl rfl) fun _ _ _ _ h => h) (pv 1) (pk_cons pe_int (pk_cons pe_int (pk_cons (pe_tup (pa_cons pe_str (pa_cons pe_str pa_nil))) pk_nil))))) (pe_tup (pa_cons pe_str (pa_cons (Gt.gnam.pe T rfl (hr.mono (by decide)) (pv 1)) (pa_cons pe_str pa_nil)))) (nomark _)) (pss_one (ps_ret pe_bl)) pss_nil)
    <| pss_cons (ps_if (pt_cmpR (neDK K rfl hr.units) (pe_heard Ex B dHeard hT rfl rfl rfl TB rfl hr (by rfl) (lamS_by (by rfl)) rfl (fun _ _ _ _ _ => rfl) (fun A1 o1 s1 H1 E1 f1 c1 r1 => (mo ["name", "sleeps"] (by decide)).pe (E := E1) T rfl rfl r1 (passes_call (takes_of rfl rfl rfl rfl) fun _ _ _ _ h => h) (pv 1) (pk_cons pe_str (pk_cons pe_int pk_nil)))) (pe_tup (pa_cons pe_str (pa_cons pe_str (pa_cons pe_str pa_nil)))) (nomark _)) (pss_one (ps_ret pe_bl)) pss_nil)
    <| pss_cons (ps_if (pt_cmpR (neDK K rfl hr.units) (pe_heard Ex B dHeard hT rfl rfl rfl TB rfl hr (by rfl) (lamS_by (by rfl)) rfl (fun _ _ _ _ _ => rfl) (fun A1 o1 s1 H1 E1 f1 c1 r1 => (mo ["size", "kept"] (by decide)).pe (E := E1) T rfl rfl r1 (passes_call (takes_of rfl rfl rfl rfl) fun _ _ _ _ h => h) (pv 1) (pk_cons pe_int (pk_cons (pe_un un_neg pe_int) pk_nil)))) (pe_tup (pa_cons pe_str (pa_cons pe_str pa_nil))) (nomark _)) (pss_one (ps_ret pe_bl)) pss_nil)
    <| pss_cons (ps_set (i := 3) scRefused.nd rfl (Or.inr rfl) (pe_lst (pa_cons ((mkA).pe (E := fun _ _ _ => False) rfl rfl (hr.mono (by decide)) (by rfl) passN (pa_cons pe_str pa_nil) (pk_cons (pe_tup (pa_cons (pe_tup (pa_cons pe_str (pa_cons pe_int (pa_cons pe_int pa_nil)))) pa_nil)) pk_nil)) (pa_cons ((mkB).pe (E := fun _ _ _ => False) rfl rfl (hr.mono (by decide)) (by rfl) passN (pa_cons pe_str pa_nil) (pk_cons (pe_tup (pa_cons pe_str pa_nil)) pk_nil)) (pa_cons ((mkC).pe (E := fun _ _ _ => False) rfl rfl (hr.mono (by decide)) (by rfl) passN (pa_cons pe_str pa_nil) (pk_cons (pe_tup (pa_cons pe_str pa_nil)) pk_nil)) (pa_cons ((mkD).pe (E := fun _ _ _ => False) rfl rfl (hr.mono (by decide)) (by rfl) passN (pa_cons pe_str pa_nil) (pk_cons pe_int pk_nil)) pa_nil))))))
    <| pss_cons (ps_set (i := 4) scRefused.nd rfl (Or.inl rfl) (pe_lst (pa_cons (pe_heard Ex B dHeard hT rfl rfl rfl TB rfl hr (by rfl) (lamS_by (by rfl)) rfl (fun _ _ _ _ _ => rfl) (fun A1 o1 s1 H1 E1 f1 c1 r1 => (mo ["sleep"] (by decide)).pe (E := E1) T rfl rfl r1 (passes_call (takes_of rfl rfl rfl rfl) fun _ _ _ _ h => h) (pe_ix (ixK K rfl) (pv 3) pe_int (fun _ _ => rfl)) (pk_cons (pe_tup (pa_cons pe_str (pa_cons pe_str pa_nil))) pk_nil))) pa_nil)))
    <| pss_cons (ps_expr (pe_bm PySem.F.plainAttrs_list PySem.F.slot_list_append PySem.F.type_list_append mt_append (pv 4) (pa_cons (pe_heard Ex B dHeard hT rfl rfl rfl TB rfl hr (by rfl) (lamS_by (by rfl)) rfl (fun _ _ _ _ _ => rfl) (fun A1 o1 s1 H1 E1 f1 c1 r1 => (mo ["name"] (by decide)).pe (E := E1) T rfl rfl r1 (passes_call (takes_of rfl rfl rfl rfl) fun _ _ _ _ h => h) (pe_ix (ixK K rfl) (pv 3) pe_int (fun _ _ => rfl)) (pk_cons pe_str pk_nil))) pa_nil)))
    <| pss_cons (ps_expr (pe_bm PySem.F.plainAttrs_list PySem.F.slot_list_append PySem.F.type_list_append mt_append (pv 4) (pa_cons (pe_heard Ex B dHeard hT rfl rfl rfl TB rfl hr (by rfl) (lamS_by (by rfl)) rfl (fun _ _ _ _ _ => rfl) (fun A1 o1 s1 H1 E1 f1 c1 r1 => (mo ["name"] (by decide)).pe (E := E1) T rfl rfl r1 (passes_call (takes_of rfl rfl rfl rfl) fun _ _ _ _ h => h) (pe_ix (ixK K rfl) (pv 3) pe_int (fun _ _ => rfl)) (pk_cons pe_str pk_nil))) pa_nil)))
    <| pss_cons (ps_expr (pe_bm PySem.F.plainAttrs_list PySem.F.slot_list_append PySem.F.type_list_append mt_append (pv 4) (pa_cons (pe_heard Ex B dHeard hT rfl rfl rfl TB rfl hr (by rfl) (lamS_by (by rfl)) rfl (fun _ _ _ _ _ => rfl) (fun A1 o1 s1 H1 E1 f1 c1 r1 => (mo ["plain"] (by decide)).pe (E := E1) T rfl rfl r1 (passes_call (takes_of rfl rfl rfl rfl) fun _ _ _ _ h => h) (pe_ix (ixK K rfl) (pv 3) pe_int (fun _ _ => rfl)) (pk_cons pe_int pk_nil))) pa_nil)))
    <| pss_cons (ps_if (pt_cmpR (neDK K rfl hr.units) (pv 4) (pe_lst (pa_cons (pe_tup (pa_cons pe_str (pa_cons pe_str (pa_cons pe_str pa_nil)))) (pa_cons (pe_tup (pa_cons pe_str (pa_cons pe_str (pa_cons pe_str pa_nil)))) (pa_cons (pe_tup (pa_cons pe_str (pa_cons pe_str (pa_cons pe_str pa_nil)))) (pa_cons (pe_tup (pa_cons pe_str (pa_cons pe_str (pa_cons pe_str pa_nil)))) pa_nil))))) (nomark _)) (pss_one (ps_ret pe_bl)) pss_nil)
    <| pss_one (ps_ret (pe_cmpR (eqDK K rfl hr.units) (pe_heard Ex B dHeard hT rfl rfl rfl TB rfl hr (by rfl) (lamS_by (by rfl)) rfl (fun _ _ _ _ _ => rfl) (fun A1 o1 s1 H1 E1 f1 c1 r1 => (mo ["zeta", "name", "alpha"] (by decide)).pe (E := E1) T rfl rfl r1 (passes_call (takes_of rfl rfl rfl rfl) fun _ _ _ _ h => h) (pv 1) (pk_cons pe_int (pk_cons pe_str (pk_cons pe_int pk_nil))))) (pe_tup (pa_cons pe_str (pa_cons pe_str pa_nil))) (nomark _))), ?_⟩
  rintro n ds Φ ⟨a, b, i, ns, rfl, g, hn, q⟩
  show Ws K _ [.pen n, .dat (isleD C a b i), .any, .any, .any] _
  refine ws_seq <| ws_asg (pf := false) <| w_callN (i := 0) rfl <| wa_cons <| w_lst <| wa_cons <| w_c (fun _ => .str _) <| wa_cons <| w_c (fun _ => .str _) <| wa_cons <| w_c (fun _ => .non) <| wa_cons <| w_c (fun _ => .int _) <| wa_nil ⟨by show 4 ≤ 100000; decide, wa_nil ⟨n, rfl, _, bads, rfl, rfl, by show 0 < 4; decide, by show 4 ≤ 1000; decide, by omega, fun bad hb => ?_⟩⟩
  generalize n + 1 = n1 at q ⊢
  show Ws K _ [.pen n1, .dat (isleD C a b i), .dat bad, .any, .any] _
  obtain ⟨nb, hb⟩ := and2 (mem_ok badOk hb)
  obtain ⟨sb, hb⟩ := and2 hb
  have nb : DL.isOwn bad = false := by simpa using nb
  have fitb : Fit (.tup [.str "name", bad]) := (sh_of hb).fit (by decide) (by decide)
  obtain ⟨cl, cr⟩ := and2 (mem_ok cmp1 g.nm)
  obtain ⟨l1, v1⟩ := and2 cl
  obtain ⟨l2, v2⟩ := and2 cr
  -- the name that is none
  refine ws_seq <| ws_if (pf := false) <| wt_test <| w_op <| w_cb <| wa_cons <| w_hc (n := n1) rfl <| w_var (d := isleD C a b i) rfl ⟨a, b, i, rfl, wa_cons <| w_var (d := bad) rfl <| wa_cons <| w_un <| w_c (fun _ => .int 1) <| ud_U <| wa_nil ⟨rfl, rfl, fun p => ⟨a, b, i, p, _, ["name", "kept"], rfl, rfl, by decide, .inr ⟨odd_sub (by decide +kernel), bad, { i with k := .int (-1) }, mgG0 i bad,
    ⟨sb, ⟨rfl, g.ok.p, g.ok.l, g.ok.n, g.ok.s, g.ok.sl, g.ok.wk, g.ok.t, g.ok.ll, g.ok.ln, g.ok.lsl, g.ok.lwk, g.ok.lt⟩, fun h => absurd (h.symm.trans nb) (by decide), fun _ => .inr (.inr ⟨bad, rfl, rfl, rfl, ?_⟩), fun h => absurd (h.symm.trans nb) (by decide), fun h => absurd (h.symm.trans nb) (by decide)⟩⟩⟩⟩⟩
  refine wa_nil <| rd_repr fitb <| w_cb <| wa_cons <| w_tup <| wa_cons <| w_c (fun _ => .str _) <| wa_cons <| w_var (d := bad) rfl <| wa_nil ⟨by show 2 ≤ 100000; decide, wa_nil <| rd_repr fitb <| od_nes ⟨_, rfl, ?_⟩⟩
  rw [decide_eq_true rfl]
  -- turns, leash
  refine ifF <| ws_next <| ws_seq <| ws_if (pf := false) <| wt_test <| w_op <| w_hc (n := n1) rfl <| w_var (d := isleD C a b i) rfl ⟨a, b, i, rfl, wa_cons <| w_c (fun _ => .non) <| wa_cons <| w_c (fun _ => .str _) <| wa_nil ⟨rfl, rfl, fun p => ch_bad (i' := { i with l := .str "b", t := .non }) (zs := ["turns", "leash"]) rfl (by decide) (odd_sub (by decide +kernel)) (mgG1 i) g.short g.own (ok1' g) (bad1 g) ?_⟩⟩
  refine w_tup <| wa_cons <| w_c (fun _ => .str _) <| wa_cons <| w_getI <| w_var (d := isleD C a b i) rfl ⟨a, b, i, .str i.nm, rfl, rfl, wa_cons <| w_c (fun _ => .str _) <| wa_nil ⟨by show 3 ≤ 100000; decide, od_neD l1 l1 ⟨_, rfl, ?_⟩⟩⟩
  rw [v1]
  -- registers
  refine ifF <| ws_next <| ws_seq <| ws_if (pf := false) <| wt_test <| w_op <| w_hc (n := n1) rfl <| w_var (d := isleD C a b i) rfl ⟨a, b, i, rfl, wa_cons <| w_c (fun _ => .int _) <| wa_cons <| w_c (fun _ => .int _) <| wa_cons <| w_tup <| wa_cons <| w_c (fun _ => .str _) <| wa_cons <| w_c (fun _ => .str _) <| wa_nil ⟨by show 2 ≤ 100000; decide, wa_nil ⟨rfl, rfl, fun p => ch_bad (i' := { i with k := .int 0, p := .int 0, n := .tup [.str "b", .str "b"] }) (zs := ["kept", "plain", "needs"]) rfl (by decide) (odd_sub (by decide +kernel)) (mgG2 i) g.short g.own (ok2' g) (bad2 i) ?_⟩⟩⟩
  refine w_tup <| wa_cons <| w_c (fun _ => .str _) <| wa_cons <| w_getI <| w_var (d := isleD C a b i) rfl ⟨a, b, i, .str i.nm, rfl, rfl, wa_cons <| w_c (fun _ => .str _) <| wa_nil ⟨by show 3 ≤ 100000; decide, od_neD l2 l2 ⟨_, rfl, ?_⟩⟩⟩
  rw [v2]
  -- sleeps
  refine ifF <| ws_next <| ws_seq <| ws_if (pf := false) <| wt_test <| w_op <| w_hc (n := n1) rfl <| w_var (d := isleD C a b i) rfl ⟨a, b, i, rfl, wa_cons <| w_c (fun _ => .str _) <| wa_cons <| w_c (fun _ => .int _) <| wa_nil ⟨rfl, rfl, fun p => ch_bad (i' := { i with nm := "other", s := .int 1 }) (zs := ["name", "sleeps"]) rfl (by decide) (odd_sub (by decide +kernel)) (mgG3 i) (show shortD (.str "other") = true by decide +kernel) (show DL.isOwn (.str "other") = true by decide +kernel) (ok3' g) (bad3 g) ?_⟩⟩
  refine w_tup <| wa_cons <| w_c (fun _ => .str _) <| wa_cons <| w_c (fun _ => .str _) <| wa_cons <| w_c (fun _ => .str _) <| wa_nil ⟨by show 3 ≤ 100000; decide, od_neD (by show layD (.tup [.str "isle", .str "other", .str "sleeps"]) = true; decide +kernel) (by decide +kernel) ⟨false, by show Dt.bl (!PyData.eqv (Dt.tup [.str "isle", .str "other", .str "sleeps"]).py (Dt.tup [.str "isle", .str "other", .str "sleeps"]).py) = Dt.bl false; exact congrArg Dt.bl (by decide +kernel), ?_⟩⟩
  -- no such part
  refine ifF <| ws_next <| ws_seq <| ws_if (pf := false) <| wt_test <| w_op <| w_hc (n := n1) rfl <| w_var (d := isleD C a b i) rfl ⟨a, b, i, rfl, wa_cons <| w_c (fun _ => .int _) <| wa_cons <| w_un <| w_c (fun _ => .int 1) <| ud_U <| wa_nil ⟨rfl, rfl, fun p => ch_odd (zs := ["size", "kept"]) (ts := ["kept", "size"]) (s0 := "size") (r := []) rfl (by decide) (by decide +kernel) (by decide +kernel) rfl ?_⟩⟩
  refine w_tup <| wa_cons <| w_c (fun _ => .str _) <| wa_cons <| w_c (fun _ => .str _) <| wa_nil ⟨by show 2 ≤ 100000; decide, od_neD (by show layD (.tup [.str "part", .str "size"]) = true; decide +kernel) (by decide +kernel) ⟨false, by show Dt.bl (!PyData.eqv (Dt.tup [.str "part", .str "size"]).py (Dt.tup [.str "part", .str "size"]).py) = Dt.bl false; exact congrArg Dt.bl (by decide +kernel), ?_⟩⟩
  -- four isles
  refine ifF <| ws_next <| ws_seq <| ws_asg (pf := false) <| w_lst <| wa_cons <| w_mkS (i := iA) (ss := []) em okA rfl (by decide +kernel) (by decide +kernel) nfA rfl perm0 <| wa_cons <| w_tup <| wa_cons <| w_tup <| wa_cons <| w_c (fun _ => .str _) <| wa_cons <| w_c (fun _ => .int _) <| wa_cons <| w_c (fun _ => .int _) <| wa_nil ⟨by show 3 ≤ 100000; decide, wa_nil ⟨by show 1 ≤ 100000; decide, wa_nil ⟨rfl, rfl, rfl, fun a1 b1 => ?_⟩⟩⟩
  refine wa_cons <| w_mkS (i := iB) (ss := []) em okB rfl (by decide +kernel) (by decide +kernel) nfB rfl perm0 <| wa_cons <| w_tup <| wa_cons <| w_c (fun _ => .str _) <| wa_nil ⟨by show 1 ≤ 100000; decide, wa_nil ⟨rfl, rfl, rfl, fun a2 b2 => ?_⟩⟩
  refine wa_cons <| w_mkS (i := iC) (ss := ["c"]) em okC rfl (by decide +kernel) (by decide +kernel) nfC rfl (perm1 "c") <| wa_cons <| w_tup <| wa_cons <| w_c (fun _ => .str _) <| wa_nil ⟨by show 1 ≤ 100000; decide, wa_nil ⟨rfl, rfl, rfl, fun a3 b3 => ?_⟩⟩
  refine wa_cons <| w_mkS (i := iD) (ss := []) em okD rfl (by decide +kernel) (by decide +kernel) nfD rfl perm0 <| wa_cons <| w_c (fun _ => .int _) <| wa_nil ⟨rfl, rfl, rfl, fun a4 b4 => wa_nil ⟨by show 4 ≤ 100000; decide, ?_⟩⟩
  obtain ⟨L, hL⟩ : ∃ L, L = Dt.lst [isleD C a1 b1 iA, isleD C a2 b2 iB, isleD C a3 b3 iC, isleD C a4 b4 iD] := ⟨_, rfl⟩
  show Ws K _ [.pen n1, .dat (isleD C a b i), .dat bad, .dat (.lst [isleD C a1 b1 iA, isleD C a2 b2 iB, isleD C a3 b3 iC, isleD C a4 b4 iD]), .any] _
  rw [← hL]
  have at_ : ∀ {j : Int} {d : Dt} {s4 : Sl} {Ψ : Dt → List Sl → Prop}, L2.atI [isleD C a1 b1 iA, isleD C a2 b2 iB, isleD C a3 b3 iC, isleD C a4 b4 iD] j = some d → Ψ d [.pen n1, .dat (isleD C a b i), .dat bad, .dat L, s4] → Wp K true (tOp (rIx K) (tVar 3) (tC (.int j))) [.pen n1, .dat (isleD C a b i), .dat bad, .dat L, s4] Ψ := fun l z =>
    w_op <| w_var (d := L) rfl <| w_c (fun _ => .int _) <| od_ix (by rw [hL]; rfl) l z
  refine ws_seq <| ws_own (pf := false) <| wl_lst <| wa_cons <| w_hc (n := n1) rfl <| at_ (j := 0) rfl ⟨a1, b1, iA, rfl, wa_cons <| w_tup <| wa_cons <| w_c (fun _ => .str _) <| wa_cons <| w_c (fun _ => .str _) <| wa_nil ⟨by show 2 ≤ 100000; decide, wa_nil ⟨rfl, rfl, fun p => ch_bad (i' := iA') (zs := ["sleep"]) rfl (by decide) (odd_sub (by decide +kernel)) mgA (by decide +kernel) (by decide +kernel) okA' fA ?_⟩⟩⟩
  refine wa_nil ⟨by show 1 ≤ 100000; decide, by show 4 < 5; decide, ?_⟩
  show Ws K _ [.pen n1, .dat (isleD C a b i), .dat bad, .dat L, .own [.tup [.str "isle", .str "a", .str "turns"]]] _
  refine ws_seq <| ws_append (pf := false) (i := 4) (w_hc (n := n1) rfl <| at_ (j := 1) rfl ⟨a2, b2, iB, rfl, wa_cons <| w_c (fun _ => .str _) <| wa_nil ⟨rfl, rfl, fun p => ch_bad (i' := iB') (zs := ["name"]) rfl (by decide) (odd_sub (by decide +kernel)) mgB (by decide +kernel) (by decide +kernel) okB' fB ⟨_, rfl, by show 1 < 100000; decide, ?_⟩⟩⟩) rfl
  show Ws K _ [.pen n1, .dat (isleD C a b i), .dat bad, .dat L, .own [.tup [.str "isle", .str "a", .str "turns"], .tup [.str "isle", .str "b", .str "leash"]]] _
  refine ws_seq <| ws_append (pf := false) (i := 4) (w_hc (n := n1) rfl <| at_ (j := 2) rfl ⟨a3, b3, iC, rfl, wa_cons <| w_c (fun _ => .str _) <| wa_nil ⟨rfl, rfl, fun p => ch_bad (i' := iC') (zs := ["name"]) rfl (by decide) (odd_sub (by decide +kernel)) mgC (by decide +kernel) (by decide +kernel) okC' fC ⟨_, rfl, by show 2 < 100000; decide, ?_⟩⟩⟩) rfl
  show Ws K _ [.pen n1, .dat (isleD C a b i), .dat bad, .dat L, .own [.tup [.str "isle", .str "a", .str "turns"], .tup [.str "isle", .str "b", .str "leash"], .tup [.str "isle", .str "c", .str "needs"]]] _
  refine ws_seq <| ws_append (pf := false) (i := 4) (w_hc (n := n1) rfl <| at_ (j := 3) rfl ⟨a4, b4, iD, rfl, wa_cons <| w_c (fun _ => .int _) <| wa_nil ⟨rfl, rfl, fun p => ch_bad (i' := iD') (zs := ["plain"]) rfl (by decide) (odd_sub (by decide +kernel)) mgD (by decide +kernel) (by decide +kernel) okD' fD ⟨_, rfl, by show 3 < 100000; decide, ?_⟩⟩⟩) rfl
  obtain ⟨TL, hTL⟩ : ∃ TL : List Dt, TL = [.tup [.str "isle", .str "a", .str "turns"], .tup [.str "isle", .str "b", .str "leash"], .tup [.str "isle", .str "c", .str "needs"], .tup [.str "isle", .str "a", .str "registers"]] := ⟨_, rfl⟩
  have lTL : layD (.lst TL) = true := by rw [hTL]; decide +kernel
  have eTL : PyData.eqv (Dt.lst TL).py (Dt.lst TL).py = true := by rw [hTL]; decide +kernel
  show Ws K _ [.pen n1, .dat (isleD C a b i), .dat bad, .dat L, .own [.tup [.str "isle", .str "a", .str "turns"], .tup [.str "isle", .str "b", .str "leash"], .tup [.str "isle", .str "c", .str "needs"], .tup [.str "isle", .str "a", .str "registers"]]] _
  rw [← hTL]
  have t3 : ∀ {ρ : List Sl} {x y z : Str} {Ψ : Dt → List Sl → Prop}, Ψ (.tup [.str x, .str y, .str z]) ρ → Wp K true (tTup (tCons (tC (.str x)) (tCons (tC (.str y)) (tCons (tC (.str z)) tNil)))) ρ Ψ := fun h => w_tup <| wa_cons <| w_c (fun _ => .str _) <| wa_cons <| w_c (fun _ => .str _) <| wa_cons <| w_c (fun _ => .str _) <| wa_nil ⟨by show 3 ≤ 100000; decide, h⟩
  refine ws_seq <| ws_if (pf := true) <| wt_thaw (i := 4) (ds := TL) rfl <| wt_test <| w_op <| w_var (d := .lst TL) rfl <| w_lst <| wa_cons <| t3 <| wa_cons <| t3 <| wa_cons <| t3 <| wa_cons <| t3 <| wa_nil ⟨by show 4 ≤ 100000; decide, ?_⟩
  rw [← hTL]
  refine od_neD lTL lTL ⟨_, rfl, ?_⟩
  rw [eTL]
  -- the least of two that are none
  refine ifF <| ws_next <| ws_ret (pf := false) <| w_op <| w_hc (n := n1) rfl <| w_var (d := isleD C a b i) rfl ⟨a, b, i, rfl, wa_cons <| w_c (fun _ => .int _) <| wa_cons <| w_c (fun _ => .str _) <| wa_cons <| w_c (fun _ => .int _) <| wa_nil ⟨rfl, rfl, fun p => ch_odd (zs := ["zeta", "name", "alpha"]) (ts := ["alpha", "name", "zeta"]) (s0 := "alpha") (r := ["zeta"]) rfl (by decide) (by decide +kernel) (by decide +kernel) rfl ?_⟩⟩
  refine w_tup <| wa_cons <| w_c (fun _ => .str _) <| wa_cons <| w_c (fun _ => .str _) <| wa_nil ⟨by show 2 ≤ 100000; decide, od_eqD (by show layD (.tup [.str "part", .str "alpha"]) = true; decide +kernel) (by decide +kernel) ?_⟩
  rw [show PyData.eqv (Dt.tup [.str "part", .str "alpha"]).py (Dt.tup [.str "part", .str "alpha"]).py = true from by decide +kernel]
  exact ⟨n1, _, rfl, .pen (Nat.le_refl _), q⟩
end
end K04

/-! Data level: xs[::-1]. -/
namespace DL
open PySem PySem.Spec PyProof.Rows L2
variable [Tb]
theorem DXs.reverse {K : PySem.W.Frag} {H : Hp} : ∀ {ds : List Dt} {vs : List V}, DXs K H vs ds → DXs K H vs.reverse ds.reverse
  | [], _, h => by cases h; exact .nil
  | d :: ds, _, h => by
    cases h with
    | cons h1 h2 =>
      rw [List.reverse_cons, List.reverse_cons]
      exact (DXs.reverse h2).append (.one h1)
section
variable {K : PySem.W.Frag} {pf : Bool} {ρ : List Sl} {te : TE} {Φ : Dt → List Sl → Prop}
theorem w_rev (h : Wp K pf te ρ fun d ρ1 => ∃ ds, d = .lst ds ∧ Φ (.lst ds.reverse) ρ1) : Wp K pf (tRevL K te) ρ Φ := fun M σ H S Q q =>
  h M σ H S _ fun v H1 d ρ1 s1 S1 x1 ⟨ds, e, f⟩ => by
    subst e
    cases x1 with
    | lst hs ha => exact ⟨_, _, rfl, (cut_sub M H1).seq hs, fun p hp => q _ _ (.lst _) ρ1 (s1.trans (Tr.same pf M (same_new hp))) (S1.same (same_new hp)) (dx_new_l S1.mok hp ha.reverse) f⟩
end
end DL

set_option maxHeartbeats 4000000
namespace K04
open PySem PySem.Spec PyProof.Rows L2 DL
variable [Tb]
/-! ### nine drawn parts -/
theorem pens_pens (m n : Nat) (ρ : List Sl) : pens m (pens n ρ) = pens m ρ := by
  unfold pens
  rw [List.map_map]
  refine List.map_congr_left fun s _ => ?_
  cases s <;> rfl
theorem pens_set (m j : Nat) (ρ : List Sl) (d : Dt) : pens m (ρ.set j (.dat d)) = (pens m ρ).set j (.dat d) := by
  unfold pens
  rw [List.map_set]
theorem pens_any {m j : Nat} {ρ : List Sl} (e : ρ[j]? = some .any) : (pens m ρ)[j]? = some .any := by
  unfold pens
  rw [List.getElem?_map, e]
  rfl
theorem any_set {ρ : List Sl} {j : Nat} (e : ρ[j]? = some .any) : ρ.set j .any = ρ := by
  refine List.ext_getElem? fun k => ?_
  by_cases c : j = k
  · subst c
    rw [List.getElem?_set_self (List.getElem?_eq_some_iff.mp e).1, e]
  · rw [List.getElem?_set_ne c]
theorem row_good {acc : List Dt} (hl : acc.length = 9) (h : ∀ (t : Nat) (d : Dt), acc[t]? = some d → d ∈ freshS t) : ∃ i ns, acc = rowL i ∧ Gd i ns := by
  match acc, hl, h with
  | [x, k, p, l, n, s, sl, wk, t], _, h =>
    obtain ⟨ns, h1, h2⟩ := needs_str (h 4 n rfl)
    have h0 := h 0 x rfl
    refine ⟨⟨strOf x, k, p, l, n, s, sl, wk, t⟩, ns, ?_, ⟨?_, h 1 k rfl, h 2 p rfl, h 3 l rfl, h2, h1, h 5 s rfl, h 6 sl rfl, h 7 wk rfl, h 8 t rfl⟩⟩
    · unfold rowL
      rw [← name_str h0]
    · rw [← name_str h0]; exact h0
section
variable {K : PySem.W.Frag} {ρ : List Sl} {Φ : Dt → List Sl → Prop} {ip j n : Nat}
theorem w_fresh9 (e : ρ[ip]? = some (.pen n)) (ej : ρ[j]? = some .any) (hp : pens n ρ = ρ) (hn : n < 700000) (h : ∀ i ns n', Gd i ns → n' ≤ n + 180 → Φ (.lst (rowL i)) (pens n' ρ)) :
    Wp K false (tLc (iRng1 (tCons (tC (.int 9)) tNil)) (gName j) tYes (tCall (spN K WFresh) [] E0 (tCons (tVar ip) (tCons (tVar j) tNil))) [j]) ρ Φ := by
  have ne : ip ≠ j := fun z => by rw [z, ej] at e; cases e
  have pa : ∀ m, (pens m ρ)[ip]? = some (.pen m) := fun m => by unfold pens; rw [List.getElem?_map, e]; rfl
  refine w_lc (js := [j]) (fun _ z => z) <| wi_rng1 (pf := false) <| wa_cons <| w_c (fun _ => .int 9) <| wa_nil ⟨9, rfl, by decide, by decide, ?_⟩
  refine ⟨fun i acc ρ2 => ∃ n', n' ≤ n + 20 * i ∧ ρ2 = pens n' ρ ∧ acc.length = i ∧ ∀ (t : Nat) (d : Dt), acc[t]? = some d → d ∈ freshS t, ⟨n, by omega, ?_, rfl, fun t d z => by simp at z⟩, by decide, ?_, ?_⟩
  · show ρ.set j .any = pens n ρ
    rw [any_set ej, hp]
  · rintro i d acc ρ2 hd ⟨n', hn', rfl, hl, hg⟩
    have hi : i < 9 := by have := (List.getElem?_eq_some_iff.mp hd).1; simpa [rangeD_len] using this
    obtain rfl : d = .int (i : Nat) := by
      rw [rangeD_at (by show i < (9 : Int).toNat; exact hi)] at hd
      have := (Option.some.inj hd).symm
      rw [this, Int.zero_add]
    refine wg_name ?_
    refine wt_yes (ifT ?_)
    refine w_callN (i := ip) (n0 := n') (by rw [List.getElem?_set_ne ne.symm]; exact pa n') <| wa_cons <| w_var (d := .int (i : Nat)) (by rw [List.getElem?_set_self (List.getElem?_eq_some_iff.mp (pens_any ej)).1]) <| wa_nil ⟨n', by rw [List.getElem?_set_ne ne.symm]; exact pa n', i, rfl, hi, by omega, fun d hd => ⟨n' + 20, by omega, ?_, by rw [List.length_append, hl]; rfl, fun t d2 z => ?_⟩⟩
    · show (pens (n' + 20) ((pens n' ρ).set j (.dat (.int (i : Nat))))).set j .any = _
      rw [pens_set, pens_pens, List.set_set, any_set (pens_any ej)]
    · by_cases c : t < acc.length
      · rw [List.getElem?_append_left c] at z
        exact hg t d2 z
      · have ht : t = i := by
          have := (List.getElem?_eq_some_iff.mp z).1
          rw [List.length_append] at this
          simp at this
          omega
        subst ht
        rw [List.getElem?_append_right (by omega), hl, Nat.sub_self] at z
        cases Option.some.inj (show some d = some d2 from z)
        exact hd
  · rintro acc ρ2 ⟨n', hn', rfl, hl, hg⟩
    rw [rangeD_len] at hn' hl
    obtain ⟨i, ns, rfl, g⟩ := row_good hl hg
    exact h i ns n' g (by show n' ≤ n + 180; have : Int.toNat 9 = 9 := rfl; omega)
/-- tuple(reversed(..)) of a list -/
theorem w_tupRev {pf : Bool} {te : TE} (h : Wp K pf te ρ fun d ρ1 => ∃ ds, d = .lst ds ∧ Φ (.tup ds.reverse) ρ1) : Wp K pf (RT.tTupRev K te) ρ Φ := fun M σ H S Q q =>
  h M σ H S _ fun v H1 d ρ1 s1 S1 x1 ⟨ds, ed, f⟩ => by
    subst ed
    cases x1 with
    | lst hs ha =>
      refine ⟨_, _, rfl, (cut_sub M H1).seq hs, fun p hp => q _ _ (.tup ds.reverse) ρ1 (s1.trans (Tr.same pf M (same_new hp))) (S1.same (same_new hp)) (dx_new_t S1.mok hp ?_) f⟩
      exact ha.reverse
end
end K04

set_option maxHeartbeats 8000000
namespace K04
open PySem PySem.Spec PyProof.Rows L2 DL
variable [Tb]
abbrev sTwo : Stmt := topS 35
abbrev NTwo : List Str := ["_law_pen", "_law_some", "_law_more", "_law_at", "_law_one", "_law_two", "_law_due"]
theorem scTwo : FnScope NTwo ["_law_pen"] (defScope sTwo) := ⟨rfl, rfl, rfl, by decide +kernel, rfl, by decide +kernel, by decide +kernel⟩
theorem noLen_strs (n : Nat) : ∀ ss : List Str, noLens n (ss.map Dt.str) = true
  | [] => rfl
  | s :: ss => by
    show (noLen n (.str s) && noLens n (ss.map Dt.str)) = true
    rw [noLen_strs n ss]; rfl
theorem row_set {i : Pt} {at_ : Nat} {d : Dt} (h : at_ < 9) (hd : d ∈ freshS at_) : (rowL i).set at_ d = rowL (setPt i at_ d) := by
  obtain rfl | rfl | rfl | rfl | rfl | rfl | rfl | rfl | rfl : at_ = 0 ∨ at_ = 1 ∨ at_ = 2 ∨ at_ = 3 ∨ at_ = 4 ∨ at_ = 5 ∨ at_ = 6 ∨ at_ = 7 ∨ at_ = 8 := by omega
  · show [d, i.k, i.p, i.l, i.n, i.s, i.sl, i.wk, i.t] = [.str (strOf d), i.k, i.p, i.l, i.n, i.s, i.sl, i.wk, i.t]
    rw [← name_str hd]
  all_goals rfl
theorem od_addS {K : PySem.W.Frag} {Ψ : Dt → Prop} {x y : Str} (hz : x.length + y.length ≤ 100000) (h : Ψ (.str (x ++ y))) : OD K (fun x y H Q => ∃ i j, x = .str i ∧ y = .str j ∧ i.length + j.length ≤ sizeLine ∧ Q (.str (i ++ j)) H) (.str x) (.str y) Ψ := fun M H u v m h1 h2 Q q => by
  rw [h1.str_eq, h2.str_eq]
  exact ⟨x, y, rfl, rfl, Nat.le_trans hz (by decide), q _ H _ (Same.refl H) (.str _) h⟩
theorem len_app (x y : Str) : (x ++ y).length = x.length + y.length := by show (x.cps ++ y.cps).size = _; rw [Array.size_append]; rfl
section
variable {P : Program} {w : World} {K : PySem.W.Frag} {mg : Str → Option Value} {base : Heap} {C cP cN cI : Addr} {f : Addr} {fd : FuncData}
def WTwo : Nat → List Dt → (Dt → Nat → Prop) → Prop := fun n ds Φ => ds = [] ∧ n < 600000 ∧ Φ (.bl true) (n + 300)
theorem ok_two (F : Fun K "_law_are_two_right" "_law_are_two_right" sTwo f fd) (B : Bt mg) (hrev : mg "reversed" = none) (T : IsleK K mg C) (Gt : Gts K C mg) (S : IsI K C) (Eq : EqI K mg C) (Re : ReI K mg C)
    (dDraw : DF K mg "_law_draw" sDraw ["_law_pen", "_law_many"]) (gDraw : FnG P w K mg base CX0 10 dDraw.f dDraw.fd ["_law_pen", "_law_many"] (spN K WDraw))
    (dFresh : DF K mg "_law_fresh" sFresh ["_law_pen", "_law_at"]) (gFresh : FnG P w K mg base CX0 10 dFresh.f dFresh.fd ["_law_pen", "_law_at"] (spN K WFresh))
    (dMade : DF K mg "_law_made" sMade ["_law_some"]) (gMade : FnG P w K mg base CX0 10 dMade.f dMade.fd ["_law_some"] (spP K (WMade C)))
    (dShown : DF K mg "_law_shown" sShown ["_law_isle"]) (gShown : FnG P w K mg base CX0 10 dShown.f dShown.fd ["_law_isle"] (spP K (WShown C))) :
    FnG P w K mg base CX0 11 f fd ["_law_pen"] (spN K WTwo) := by
  refine defN F scTwo (fun n ds Φ ⟨e, _⟩ => by rw [e]; rfl) (by decide) fun cdv A outer s H E hr hg => ?_
  have hr1 := hr.mono (show 1 ≤ 10 by decide)
  have hr2 := hr.mono (show 2 ≤ 10 by decide)
  refine ⟨_, pss_cons (ps_setLc (i := 1) (own := [("_law_at", 3)]) (g := gName 3) (tt := tYes) rfl scTwo.nd rfl rfl (sw_true rfl rfl rfl (by decide +kernel)) (pi_range1 (by rfl) B.range (pa_cons pe_int pa_nil)) (blkOk_by (N := NTwo) (sc := defScope sTwo) (by decide +kernel)) (fun _ _ _ _ _ => pg_name (i := 3) scTwo.nd rfl (Or.inl rfl)) (fun _ _ _ _ _ => pts_nil) (fun _ _ _ _ _ => pe_callG gFresh hr hg (by rfl) dFresh.g dFresh.F.kp dFresh.b .nil pass0 (pa_cons (pv 0) (pa_cons (pv 3) pa_nil))))
    <| pss_cons (ps_set (i := 2) scTwo.nd rfl (Or.inl rfl) (pe_callTy (listK K rfl) (by rfl) B.list PyProof.Rows.boot_list (pa_cons (pv 1) pa_nil)))
    <| pss_cons (ps_set (i := 3) scTwo.nd rfl (Or.inl rfl) (pe_callG gDraw hr hg (by rfl) dDraw.g dDraw.F.kp dDraw.b .nil pass0 (pa_cons (pv 0) (pa_cons pe_int pa_nil))))
    <| pss_cons (ps_if (pt_cmpR op_lt (pv 3) pe_int (nomark _))
    (pss_one (ps_asg (pe_callG gFresh hr hg (by rfl) dFresh.g dFresh.F.kp dFresh.b .nil pass0 (pa_cons (pv 0) (pa_cons (pv 3) pa_nil))) (pg_sub (pv 2) (pv 3) set_list)))
    pss_nil)
    <| pss_cons (ps_if (pt_cmpR op_eq (pe_callG gDraw hr hg (by rfl) dDraw.g dDraw.F.kp dDraw.b .nil pass0 (pa_cons (pv 0) (pa_cons pe_int pa_nil))) pe_int (nomark _))
    (pss_one (ps_asg (RT.pe_tupRev rfl (by rfl) B.tuple (by rfl) hrev (pe_callTy (listK K rfl) (by rfl) B.list PyProof.Rows.boot_list (pa_cons (pe_ix (ixK K rfl) (pv 2) pe_int (fun _ _ => rfl)) pa_nil))) (pg_sub (pv 2) pe_int set_list)))
    pss_nil)
    <| pss_cons (ps_par (i := 4) (j := 5) (by rfl) scTwo.nd rfl rfl (by decide) rfl rfl (pa_cons (pe_callG gMade hr hg (by rfl) dMade.g dMade.F.kp dMade.b .nil pass0 (pa_cons (pv 1) pa_nil)) (pa_cons (pe_callG gMade hr hg (by rfl) dMade.g dMade.F.kp dMade.b .nil pass0 (pa_cons (pv 2) pa_nil)) pa_nil)) (by rfl))
    <| pss_cons (ps_set (i := 6) scTwo.nd rfl (Or.inl rfl) (pe_cmpR op_eq (pe_callB (call_reprX hg hr.units) (by rfl) B.repr boot_repr (pa_cons (pe_callG gShown hr hg (by rfl) dShown.g dShown.F.kp dShown.b .nil pass0 (pa_cons (pv 4) pa_nil)) pa_nil)) (pe_callB (call_reprX hg hr.units) (by rfl) B.repr boot_repr (pa_cons (pe_callG gShown hr hg (by rfl) dShown.g dShown.F.kp dShown.b .nil pass0 (pa_cons (pv 5) pa_nil)) pa_nil)) (nomark _)))
    <| pss_cons (ps_if (PW.pt (pw_or (pt_cmpR op_ne (pe_cmpR (Eq.op rfl rfl hr1) (pv 4) (pv 5) (nomark _)) (pv 6) (nomark _)) (pw_or (pt_cmpR op_eq (pe_cmpR (Eq.ne rfl rfl hr2) (pv 4) (pv 5) (nomark _)) (pv 6) (nomark _)) (pw_or (pt_cmpR (Eq.op rfl rfl hr1) (pv 4) (pe_callG gShown hr hg (by rfl) dShown.g dShown.F.kp dShown.b .nil pass0 (pa_cons (pv 4) pa_nil)) (nomark _)) (pw_or1 (pt_cmpR (Eq.op rfl rfl hr1) (pv 4) (Gt.gnam.pe T rfl hr2 (pv 4)) (nomark _)))))))
    (pss_one (ps_ret pe_bl))
    pss_nil)
    <| pss_one (ps_ret (pe_cmpR op_eq (pe_callB (Re.call rfl rfl hr2) (by rfl) B.repr boot_repr (pa_cons (pv 4) pa_nil)) (pe_op op_add_str (pe_op op_add_str pe_str (pe_ix (ixK K rfl) (pv 1) pe_int (fun _ _ => rfl))) pe_str) (nomark _))), ?_⟩
  rintro n ds Φ ⟨rfl, hn, q⟩
  show Ws K _ [.pen n, .any, .any, .any, .any, .any, .any] _
  refine ws_seqI (fun ρ' => ∃ i ns n', Gd i ns ∧ n' ≤ n + 180 ∧ ρ' = [.pen n', .dat (.lst (rowL i)), .any, .any, .any, .any, .any]) ?_ ?_
  · exact ws_asg (pf := false) <| w_fresh9 (ip := 0) (j := 3) rfl rfl rfl (by omega) fun i ns n' g hn' => ⟨i, ns, n', g, hn', rfl⟩
  rintro ρ' ⟨i, ns, n1, g, hn1, rfl⟩
  refine ws_seq <| ws_own (pf := true) <| wl_list <| wa_cons <| w_var (d := .lst (rowL i)) rfl <| wa_nil ⟨_, _, rfl, rfl, by show 2 < 7; decide, ?_⟩
  show Ws K _ [.pen n1, .dat (.lst (rowL i)), .own (rowL i), .any, .any, .any, .any] _
  refine ws_seq <| ws_asg (pf := false) <| w_callN (i := 0) rfl <| wa_cons <| w_c (fun _ => .int 11) <| wa_nil ⟨n1, rfl, 11, rfl, by decide, by decide, by omega, fun r hr => ?_⟩
  show Ws K _ [.pen (n1 + 1), .dat (.lst (rowL i)), .own (rowL i), .dat (.int (r : Nat)), .any, .any, .any] _
  -- perhaps another part
  refine ws_seqI (fun ρ' => ∃ i' ns' n', Gd i' ns' ∧ n' ≤ n + 220 ∧ ρ' = [.pen n', .dat (.lst (rowL i)), .own (rowL i'), .dat (.int (r : Nat)), .any, .any, .any]) ?_ ?_
  · refine ws_if (pf := true) <| wt_test <| w_op <| w_var (d := .int (r : Nat)) rfl <| w_c (fun _ => .int 9) <| od_I0b ⟨_, rfl, ?_⟩
    by_cases c : (r : Int) < 9
    · rw [decide_eq_true c]
      have hr9 : r < 9 := by omega
      refine ifT <| ws_setitem (pf := false) (i := 2) (w_callN (i := 0) rfl <| wa_cons <| w_var (d := .int (r : Nat)) rfl <| wa_nil ⟨n1 + 1, rfl, r, rfl, hr9, by omega, fun d hd => w_var (d := .int (r : Nat)) rfl ⟨rowL i, r, rfl, rfl, hr9, ?_⟩⟩) rfl
      obtain ⟨ns', g', -, -⟩ := g.set hr9 hd
      refine ⟨setPt i r d, ns', n1 + 1 + 20, g', by omega, ?_⟩
      show [Sl.pen (n1 + 1 + 20), .dat (.lst (rowL i)), .own ((rowL i).set r d), .dat (.int (r : Nat)), .any, .any, .any] = _
      rw [row_set hr9 hd]
    · rw [decide_eq_false c]
      exact ifF <| ws_next ⟨i, ns, n1 + 1, g, by omega, rfl⟩
  rintro ρ' ⟨i', ns', n2, g', hn2, rfl⟩
  -- perhaps the needs turned about
  refine ws_seqI (fun ρ' => ∃ i2 ns2 n', Gd i2 ns2 ∧ n' ≤ n + 230 ∧ ρ' = [.pen n', .dat (.lst (rowL i)), .own (rowL i2), .dat (.int (r : Nat)), .any, .any, .any]) ?_ ?_
  · refine ws_if (pf := false) <| wt_test <| w_op <| w_callN (i := 0) rfl <| wa_cons <| w_c (fun _ => .int 2) <| wa_nil ⟨n2, rfl, 2, rfl, by decide, by decide, by omega, fun r2 hr2 => w_c (fun _ => .int 0) <| od_eqi ⟨_, rfl, ?_⟩⟩
    cases decide ((r2 : Int) = 0) with
    | false => exact ifF <| ws_next ⟨i', ns', n2 + 1, g', by omega, rfl⟩
    | true =>
      refine ifT ?_
      show Ws K _ [.pen (n2 + 1), .dat (.lst (rowL i)), .own (rowL i'), .dat (.int (r : Nat)), .any, .any, .any] _
      have hN := (fN g'.hn).2.2.2.1
      have e4 : L2.atI (rowL i') 4 = some (strT ns') := by rw [← g'.n]; rfl
      refine ws_setitem (pf := true) (i := 2) (wp_thawN (i := 2) (ds := rowL i') rfl rfl ⟨.str i'.nm, List.mem_cons_self, fun k z => by cases z⟩ <| w_tupRev <| w_cb <| wa_cons <| w_op <| w_var (d := .lst (rowL i')) rfl <| w_c (fun _ => .int 4) <| od_ix rfl e4 <| wa_nil <| rd_list rfl ⟨_, rfl, n2 + 1, rfl, ?_, w_c (fun _ => .int 4) ⟨rowL i', 4, rfl, rfl, by show 4 < 9; decide, ?_⟩⟩) rfl
      · rw [← List.map_reverse]
        exact noLen_strs _ _
      · refine ⟨{ i' with n := strT ns'.reverse }, ns'.reverse, n2 + 1, ⟨g'.nm, g'.k, g'.p, g'.l, rfl, hN, g'.s, g'.sl, g'.wk, g'.t⟩, by omega, ?_⟩
        rw [← List.map_reverse]
        rfl
  rintro ρ' ⟨i2, ns2, n3, g2, hn3, rfl⟩
  refine ws_freeze (i := 2) (ds := rowL i2) rfl ?_
  show Ws K _ [.pen n3, .dat (.lst (rowL i)), .dat (.lst (rowL i2)), .dat (.int (r : Nat)), .any, .any, .any] _
  refine ws_seq <| ws_par (pf := true) <| wa_cons <| w_call0 <| wa_cons <| w_var (d := .lst (rowL i)) rfl <| wa_nil ⟨i, ns, rfl, g, fun a b => wa_cons <| w_call0 <| wa_cons <| w_var (d := .lst (rowL i2)) rfl <| wa_nil ⟨i2, ns2, rfl, g2, fun a2 b2 => wa_nil ⟨_, _, rfl, ?_⟩⟩⟩
  have gc := g.can
  have gc2 := g2.can
  generalize hi : K04.can i ns = j1 at gc ⊢
  generalize hi2 : K04.can i2 ns2 = j2 at gc2 ⊢
  have enm : j1.nm = i.nm := by rw [← hi]; rfl
  show Ws K _ [.pen n3, .dat (.lst (rowL i)), .dat (.lst (rowL i2)), .dat (.int (r : Nat)), .dat (isleD C a b j1), .dat (isleD C a2 b2 j2), .any] _
  obtain ⟨k1, p1, ek1, ep1, -, -⟩ := gc.amt
  obtain ⟨k2, p2, ek2, ep2, -, -⟩ := gc2.amt
  refine ws_seq <| ws_asg (pf := true) <| w_op <| w_cb <| wa_cons <| w_call0 <| wa_cons <| w_var (d := isleD C a b j1) rfl <| wa_nil ⟨a, b, j1, k1, p1, rfl, ek1, ep1, wa_nil <| rd_repr gc.fit <| w_cb <| wa_cons <| w_call0 <| wa_cons <| w_var (d := isleD C a2 b2 j2) rfl <| wa_nil ⟨a2, b2, j2, k2, p2, rfl, ek2, ep2, wa_nil <| rd_repr gc2.fit <| od_eqs ?_⟩⟩
  rw [show decide ((shownD j1).py.shown = (shownD j2).py.shown) = same j1 j2 from tx_same gc gc2]
  show Ws K _ [.pen n3, .dat (.lst (rowL i)), .dat (.lst (rowL i2)), .dat (.int (r : Nat)), .dat (isleD C a b j1), .dat (isleD C a2 b2 j2), .dat (.bl (same j1 j2))] _
  refine ws_seq <| ws_if (pf := true) <| wt_or <| wt_test <| w_op <| w_op <| w_var (d := isleD C a b j1) rfl <| w_var (d := isleD C a2 b2 j2) rfl <| od_eqI S gc.lay gc2.lay <| w_var (d := .bl (same j1 j2)) rfl <| od_neb ⟨_, rfl, ?_⟩
  rw [eq_same gc gc2, Bool.false_xor, decide_eq_true rfl]
  refine ifF <| wt_or <| wt_test <| w_op <| w_op <| w_var (d := isleD C a b j1) rfl <| w_var (d := isleD C a2 b2 j2) rfl <| od_eqI S gc.lay gc2.lay <| w_var (d := .bl (same j1 j2)) rfl <| od_eqb ⟨_, rfl, ?_⟩
  rw [eq_same gc gc2, Bool.true_xor, decide_eq_false (by cases same j1 j2 <;> decide)]
  refine ifF <| wt_or <| wt_test <| w_op <| w_var (d := isleD C a b j1) rfl <| w_call0 <| wa_cons <| w_var (d := isleD C a b j1) rfl <| wa_nil ⟨a, b, j1, k1, p1, rfl, ek1, ep1, od_eqIL S gc.lay ⟨false, rfl, ifF ?_⟩⟩
  refine wt_test <| w_op <| w_var (d := isleD C a b j1) rfl <| w_getI <| w_var (d := isleD C a b j1) rfl ⟨a, b, j1, .str j1.nm, rfl, rfl, od_eqIS S gc.lay ⟨false, rfl, ifF <| ws_next ?_⟩⟩
  have l8 := gc.len
  refine ws_ret (pf := true) <| w_op <| w_cb <| wa_cons <| w_var (d := isleD C a b j1) rfl <| wa_nil <| rd_reI (by omega) <| w_op <| w_op <| w_c (fun _ => .str _) <| w_op <| w_var (d := .lst (rowL i)) rfl <| w_c (fun _ => .int 0) <| od_ix rfl (d := .str i.nm) rfl ?_
  have l5 : ("Isle(" : Str).length = 5 := by decide +kernel
  have l1 : (")" : Str).length = 1 := by decide +kernel
  have li := g.len
  refine od_addS (by rw [l5]; omega) <| w_c (fun _ => .str _) <| od_addS (by rw [len_app, l5, l1]; omega) <| od_eqs ?_
  rw [show decide (reText j1.nm = ("Isle(" : Str) ++ i.nm ++ (")" : Str)) = true from decide_eq_true (by rw [enm]; rfl)]
  exact ⟨n + 300, _, rfl, .pen (by omega), q⟩
end
end K04

set_option maxHeartbeats 8000000
namespace K04
open PySem PySem.Spec PyProof.Rows L2 DL LamX
variable [Tb]
abbrev sLaw : Stmt := topS 36
abbrev NLaw : List Str := ["_law_script", "_law_pen", "_law_lap", "_law_some", "_law_isle", "_law_before", "_law_turn", "_law_at", "_law_one", "_law_due", "_law_told", "_law_several"]
theorem scLaw : FnScope NLaw ["_law_script"] (defScope sLaw) := ⟨rfl, rfl, rfl, by decide +kernel, rfl, by decide +kernel, by decide +kernel⟩
def spLaw (K : PySem.W.Frag) : Sp := fun vs H Q _ => ∃ (a : Addr) (ns : List Int), vs = [.ref a] ∧ SqL K H a (ns.map V.int) ∧ ns.length ≤ 63 ∧ (∀ t ∈ Tb.T, H t.1 = some (.tbl #[])) ∧ ∀ H', Q (.bl true) H'
theorem can_set {i : Pt} {ns n1 n2 : List Str} {at_ : Nat} {d : Dt} (g : Gd i ns) (h : at_ < 9) (g1 : Gd (setPt (can i ns) at_ d) n1) (g2 : Gd (setPt i at_ d) n2) : can (setPt (can i ns) at_ d) n1 = can (setPt i at_ d) n2 := by
  have cc := (fN g.hn).2.2.2.2.2
  have gn := g.n
  obtain rfl | rfl | rfl | rfl | rfl | rfl | rfl | rfl | rfl : at_ = 0 ∨ at_ = 1 ∨ at_ = 2 ∨ at_ = 3 ∨ at_ = 4 ∨ at_ = 5 ∨ at_ = 6 ∨ at_ = 7 ∨ at_ = 8 := by omega
  case inr.inr.inr.inr.inl =>
    have e1 : n1 = n2 := strT_inj ((show d = strT n1 from g1.n).symm.trans (show d = strT n2 from g2.n))
    subst e1
    rfl
  all_goals
    have e1 : cS ns = n1 := strT_inj (show strT (cS ns) = strT n1 from g1.n)
    have e2 : ns = n2 := strT_inj (gn.symm.trans (show i.n = strT n2 from g2.n))
    subst e1 e2
    unfold can
    rw [cc]
    rfl
theorem can_can {i : Pt} {ns : List Str} (g : Gd i ns) : can (can i ns) (cS ns) = can i ns := by
  unfold can
  rw [(fN g.hn).2.2.2.2.2]
/-! ### several parts changed -/
def many (i : Pt) : Pt := { i with nm := "many", p := .int 3, n := strT ["zz", "b"] }
theorem mgM (i : Pt) : mergeD (mergeD [] (partsD i)) [(.inr "needs", strT ["zz", "b"]), (.inr "plain", .int 3), (.inr "name", .str "many")] = partsG (.str "many") (many i) := by kernel_rfl
theorem mgE (i : Pt) : mergeD (mergeD [] (partsD i)) [] = partsG (.str i.nm) i := by kernel_rfl
theorem memM : ((freshS 3).all fun l => !memD "many" l) = true := by decide +kernel
section
variable {i : Pt} {ns : List Str}
theorem okM (g : Gd i ns) : (many i).Ok :=
  ⟨g.ok.k, rfl, g.ok.l, show thingD (strT ["zz", "b"]) = true by decide +kernel, g.ok.s, g.ok.sl, g.ok.wk, g.ok.t, g.ok.ll, show layD (strT ["zz", "b"]) = true by decide +kernel, g.ok.lsl, g.ok.lwk, g.ok.lt⟩
theorem faultM (g : Gd i ns) : faultI (many i) = none := by
  have a := f1 g.k
  have m1 : memD "many" i.l = false := by have h : (!memD "many" i.l) = true := mem_ok memM g.l; simpa using h
  unfold faultI
  rw [if_neg (by show ¬ (amountD i.k = false); rw [a.2.1]; decide), if_neg (by show ¬ (amountD (.int 3) = false); decide), if_neg (by have := a.2.2.2.2.1; show ¬ (intOf i.k + 3 = 0); omega), if_neg (by show ¬ ((!isRow i.l 4 || memD "many" i.l) = true); rw [(f3 g.l).2.2.2.1, m1]; decide), if_neg (by show ¬ ((!isRow (strT ["zz", "b"]) 7 || memD "many" (strT ["zz", "b"])) = true); decide +kernel),
    if_neg (by show ¬ (isBlD i.s = false); rw [(f5 g.s).2.2.2]; decide), if_neg (by show ¬ (isWords rowSl i.sl = false); rw [(f6 g.sl).2.2.2.1]; decide), if_neg (by show ¬ (isWords rowWk i.wk = false); rw [(f7 g.wk).2.2.2.1]; decide), if_neg (by show ¬ (turnsOk ((lenD i.sl : Nat) : Int) ((lenD i.wk : Nat) : Int) i.t = false); rw [(f6 g.sl).2.2.2.2, (f7 g.wk).2.2.2.2]; rw [show turnsOk ((3 : Nat) : Int) ((2 : Nat) : Int) i.t = true from (f8 g.t).2.2.2]; decide)]
end
theorem sort_zb {ss : List Str} (hp : ss.Perm ["zz", "b"]) (hs : sortedS ss = true) : ss = (["b", "zz"] : List Str) :=
  sorted_one (t := (["b", "zz"] : List Str)) (hp.trans (by decide)) hs (by decide +kernel)
def fiveL (i : Pt) : List Dt := [strT ["b", "zz"], .int 3, .str "many", i.k, i.t]
theorem fit_five {i : Pt} {ns : List Str} (g : Gd i ns) : Fit (.lst (fiveL i)) := fit_all (by show 5 ≤ 20; decide) fun d hd => by
  unfold fiveL at hd
  simp only [List.mem_cons, List.not_mem_nil, or_false] at hd
  rcases hd with e | e | e | e | e <;> rw [e]
  · exact sh_of (by decide +kernel)
  · exact sh_of (by decide +kernel)
  · exact sh_of (by decide +kernel)
  · exact sh_of (f1 g.k).2.2.2.1
  · exact sh_of (f8 g.t).2.2.1
theorem okDf : dfl.Ok := .mk2 (by decide +kernel)
theorem nfDf : faultI dfl = none := by decide +kernel
theorem layDf : LayI dfl := fun p hp => by
  have h : ((partsD dfl).all fun p => layD p.2) = true := by decide +kernel
  exact List.all_eq_true.mp h p hp
theorem eqDf : eqDD (partsD dfl) (partsD dfl) = true := by decide +kernel
section
variable {P : Program} {w : World} {K : PySem.W.Frag} {mg : Str → Option Value} {base : Heap} {C cP cN cI cD : Addr} {f : Addr} {fd : FuncData} {dv : List V}
theorem w_mkD {ρ : List Sl} {Φ : Dt → List Sl → Prop} (em : ∀ H, DXs K H dv dflD) (h : ∀ a b, Φ (isleD C a b dfl) ρ) : Wp K false (tMake C (spMkX K C (WI cN cI)) dv (fun _ _ _ => False) (tCons (tC (.str "a")) tNil)) ρ Φ := by
  refine Wpx.wp (xk := fun _ _ _ => False) <| wx_makeD (pf := true) em (fun _ _ _ z => z.elim) <| wa_cons <| w_c (fun _ => .str _) <| wa_nil ⟨.str "a", dfl, rfl, by decide +kernel, okDf, fun _ => rfl, fun h => absurd (h.symm.trans (show DL.isOwn (.str "a") = true by decide +kernel)) (by decide), fun _ => ⟨fun z hz => (by rw [nfDf] at hz; cases hz), fun _ b s1 s2 e1 hp _ a => ?_⟩⟩
  have e2 : s1 = [] := strT_inj (e1.symm.trans (show dfl.n = strT [] from rfl))
  subst e2
  rw [perm0 s2 hp]
  exact h a b
theorem ok_law (F : Fun K "law" "law" sLaw f fd) (B : Bt mg) (T : IsleK K mg C) (Gt : Gts K C mg) (S : IsI K C) (Eq : EqI K mg C) (em : ∀ H, DXs K H dv dflD) (mk0 : MkD K mg C cN cI dv) (mkA : MkI K mg C cN cI ["turns"] (gS dv 7)) (mo3 : MoC K mg C cN cI cP ["needs", "plain", "name"]) (mo0 : MoC K mg C cN cI cP [])
    (dPenOf : DF K mg "_law_pen_of" sPenOf ["_law_script"]) (gPenOf : FnG P w K mg base CX0 11 dPenOf.f dPenOf.fd ["_law_script"] (spPen K))
    (dDraw : DF K mg "_law_draw" sDraw ["_law_pen", "_law_many"]) (gDraw : FnG P w K mg base CX0 11 dDraw.f dDraw.fd ["_law_pen", "_law_many"] (spN K WDraw))
    (dFresh : DF K mg "_law_fresh" sFresh ["_law_pen", "_law_at"]) (gFresh : FnG P w K mg base CX0 11 dFresh.f dFresh.fd ["_law_pen", "_law_at"] (spN K WFresh))
    (dMade : DF K mg "_law_made" sMade ["_law_some"]) (gMade : FnG P w K mg base CX0 11 dMade.f dMade.fd ["_law_some"] (spP K (WMade C)))
    (dShown : DF K mg "_law_shown" sShown ["_law_isle"]) (gShown : FnG P w K mg base CX0 11 dShown.f dShown.fd ["_law_isle"] (spP K (WShown C)))
    (dSwapped : DF K mg "_law_swapped" sSwapped ["_law_isle", "_law_at", "_law_one"]) (gSwapped : FnG P w K mg base CX0 11 dSwapped.f dSwapped.fd ["_law_isle", "_law_at", "_law_one"] (spP K (WSwap C)))
    (dRefused : DF K mg "_law_refused_right" sRefused ["_law_pen", "_law_isle"]) (gRefused : FnG P w K mg base CX0 11 dRefused.f dRefused.fd ["_law_pen", "_law_isle"] (spN K (WRef C)))
    (dTwo : DF K mg "_law_are_two_right" sTwo ["_law_pen"]) (gTwo : FnG P w K mg base CX0 11 dTwo.f dTwo.fd ["_law_pen"] (spN K WTwo)) :
    FnG P w K mg base CX0 12 f fd ["_law_script"] (spLaw K) := by
  refine okG F scLaw (fun vs H Q E ⟨a, ns, e, _⟩ => by rw [e]; rfl) fun cdv A outer s H vs Q E hr hg h => ?_
  have hr8 := hr.mono (show 8 ≤ 11 by decide)
  have hr7 := hr.mono (show 7 ≤ 11 by decide)
  have hr2 := hr.mono (show 2 ≤ 11 by decide)
  have hr1 := hr.mono (show 1 ≤ 11 by decide)
  refine ⟨_, pss_cons (ps_set (i := 1) scLaw.nd rfl (Or.inr rfl) (pe_callG gPenOf hr hg (by rfl) dPenOf.g dPenOf.F.kp dPenOf.b .nil pass0 (pa_cons (pv 0) pa_nil)))
    <| pss_cons (ps_for PassesOwn.never rfl (pi_range1 (by rfl) B.range (pa_cons (pe_op op_add pe_int (pe_callB (lenK K rfl) (by rfl) B.len PySem.boot_len (pa_cons (pe_slice (slK K rfl) (pv 0) po_none (po_some pe_int)) pa_nil))) pa_nil)) (pg_name (i := 2) scLaw.nd rfl (Or.inl rfl))
    (pss_cons (ps_setLc (i := 3) (own := [("_law_at", 7)]) (g := gName 7) (tt := tYes) rfl scLaw.nd rfl rfl (sw_true rfl rfl rfl (by decide +kernel)) (pi_range1 (by rfl) B.range (pa_cons pe_int pa_nil)) (blkOk_by (N := NLaw) (sc := defScope sLaw) (by decide +kernel)) (fun _ _ _ _ _ => pg_name (i := 7) scLaw.nd rfl (Or.inl rfl)) (fun _ _ _ _ _ => pts_nil) (fun _ _ _ _ _ => pe_callG gFresh hr hg (by rfl) dFresh.g dFresh.F.kp dFresh.b .nil pass0 (pa_cons (pv 1) (pa_cons (pv 7) pa_nil))))
      <| pss_cons (ps_set (i := 4) scLaw.nd rfl (Or.inl rfl) (pe_callG gMade hr hg (by rfl) dMade.g dMade.F.kp dMade.b .nil pass0 (pa_cons (pv 3) pa_nil)))
      <| pss_cons (ps_set (i := 5) scLaw.nd rfl (Or.inl rfl) (pe_callB (call_reprX hg hr.units) (by rfl) B.repr boot_repr (pa_cons (pe_callG gShown hr hg (by rfl) dShown.g dShown.F.kp dShown.b .nil pass0 (pa_cons (pv 4) pa_nil)) pa_nil)))
      <| pss_cons (ps_for PassesOwn.never rfl (pi_range1 (by rfl) B.range (pa_cons pe_int pa_nil)) (pg_name (i := 6) scLaw.nd rfl (Or.inl rfl))
      (pss_cons (ps_set (i := 7) scLaw.nd rfl (Or.inl rfl) (pe_callG gDraw hr hg (by rfl) dDraw.g dDraw.F.kp dDraw.b .nil pass0 (pa_cons (pv 1) (pa_cons pe_int pa_nil))))
        <| pss_cons (ps_set (i := 8) scLaw.nd rfl (Or.inl rfl) (pe_callG gFresh hr hg (by rfl) dFresh.g dFresh.F.kp dFresh.b .nil pass0 (pa_cons (pv 1) (pa_cons (pv 7) pa_nil))))
        <| pss_cons (ps_set (i := 9) scLaw.nd rfl (Or.inl rfl) (pe_callTy (listK K rfl) (by rfl) B.list PyProof.Rows.boot_list (pa_cons (pv 3) pa_nil)))
        <| pss_cons (ps_asg (pv 8) (pg_sub (pv 9) (pv 7) set_list))
        <| pss_cons (ps_set (i := 10) scLaw.nd rfl (Or.inl rfl) (pe_callG gSwapped hr hg (by rfl) dSwapped.g dSwapped.F.kp dSwapped.b .nil pass0 (pa_cons (pv 4) (pa_cons (pv 7) (pa_cons (pv 8) pa_nil)))))
        <| pss_one (ps_if (PW.pt (pw_or (pt_cmpR op_ne (pe_callB (call_reprX hg hr.units) (by rfl) B.repr boot_repr (pa_cons (pe_callG gShown hr hg (by rfl) dShown.g dShown.F.kp dShown.b .nil pass0 (pa_cons (pv 10) pa_nil)) pa_nil)) (pe_callB (call_reprX hg hr.units) (by rfl) B.repr boot_repr (pa_cons (pe_callG gShown hr hg (by rfl) dShown.g dShown.F.kp dShown.b .nil pass0 (pa_cons (pe_callG gMade hr hg (by rfl) dMade.g dMade.F.kp dMade.b .nil pass0 (pa_cons (pv 9) pa_nil)) pa_nil)) pa_nil)) (nomark _)) (pw_or1 (pt_cmpR op_ne (pe_callB (call_reprX hg hr.units) (by rfl) B.repr boot_repr (pa_cons (pe_callG gShown hr hg (by rfl) dShown.g dShown.F.kp dShown.b .nil pass0 (pa_cons (pv 4) pa_nil)) pa_nil)) (pv 5) (nomark _)))))
        (pss_one (ps_ret pe_bl))
        pss_nil)))
      <| pss_cons (ps_set (i := 11) scLaw.nd rfl (Or.inl rfl) (mo3.pe (E := E0) T rfl rfl hr8 passO (pv 4) (pk_cons (pe_tup (pa_cons pe_str (pa_cons pe_str pa_nil))) (pk_cons pe_int (pk_cons pe_str pk_nil)))))
      <| pss_cons (ps_set (i := 10) scLaw.nd rfl (Or.inl rfl) (pe_lst (pa_cons (Gt.gnee.pe T rfl hr2 (pv 11)) (pa_cons (Gt.gpla.pe T rfl hr2 (pv 11)) (pa_cons (Gt.gnam.pe T rfl hr2 (pv 11)) (pa_cons (Gt.gkep.pe T rfl hr2 (pv 11)) (pa_cons (Gt.gtur.pe T rfl hr2 (pv 11)) pa_nil)))))))
      <| pss_cons (ps_if (PW.pt (pw_or (pt_cmpR op_ne (pe_callB (call_reprX hg hr.units) (by rfl) B.repr boot_repr (pa_cons (pv 10) pa_nil)) (pe_callB (call_reprX hg hr.units) (by rfl) B.repr boot_repr (pa_cons (pe_lst (pa_cons (pe_tup (pa_cons pe_str (pa_cons pe_str pa_nil))) (pa_cons pe_int (pa_cons pe_str (pa_cons (pe_ix (ixK K rfl) (pv 3) pe_int (fun _ _ => rfl)) (pa_cons (pe_ix (ixK K rfl) (pv 3) pe_int (fun _ _ => rfl)) pa_nil)))))) pa_nil)) (nomark _)) (pw_or1 (pt_cmpR (Eq.ne rfl rfl hr2) (mo0.pe (E := E0) T rfl rfl hr8 passO (pv 4) pk_nil) (pv 4) (nomark _)))))
      (pss_one (ps_ret pe_bl))
      pss_nil)
      <| pss_one (ps_if (PW.pt (pw_or (pt_not (pt_val (pe_callG gRefused hr hg (by rfl) dRefused.g dRefused.F.kp dRefused.b .nil pass0 (pa_cons (pv 1) (pa_cons (pv 4) pa_nil))))) (pw_or (pt_not (pt_val (pe_callG gTwo hr hg (by rfl) dTwo.g dTwo.F.kp dTwo.b .nil pass0 (pa_cons (pv 1) pa_nil)))) (pw_or1 (pt_cmpR op_ne (pe_callB (call_reprX hg hr.units) (by rfl) B.repr boot_repr (pa_cons (pe_callG gShown hr hg (by rfl) dShown.g dShown.F.kp dShown.b .nil pass0 (pa_cons (pv 4) pa_nil)) pa_nil)) (pv 5) (nomark _))))))
      (pss_one (ps_ret pe_bl))
      pss_nil)))
    <| pss_one (ps_ret (pe_and (pe_cmpR (Eq.op rfl rfl hr1) (mk0.pe (E := fun _ _ _ => False) rfl rfl hr7 (by rfl) passN (pa_cons pe_str pa_nil)) (mkA.pe (E := fun _ _ _ => False) rfl rfl hr7 (by rfl) passN (pa_cons pe_str pa_nil) (pk_cons (pe_tup pa_nil) pk_nil)) (nomark _)) (pe_one (pe_cmpR (Eq.ne rfl rfl hr2) (mk0.pe (E := fun _ _ _ => False) rfl rfl hr7 (by rfl) passN (pa_cons pe_str pa_nil)) pe_str (nomark _))))), ?_⟩
  obtain ⟨a0, zs, rfl, hS, hlen, hTb, q⟩ := h
  refine pen_head (N := NLaw) (k := 10) rfl hTb hS hlen q ?_
  obtain ⟨sc, hsc⟩ : ∃ sc, sc = Dt.lst (zs.map Dt.int) := ⟨_, rfl⟩
  show Ws K _ [.dat (.lst (zs.map Dt.int)), .pen 0, .any, .any, .any, .any, .any, .any, .any, .any, .any, .any] _
  rw [← hsc]
  refine ws_seqI (fun ρ' => ∃ n', ρ' = [.dat sc, .pen n', .any, .any, .any, .any, .any, .any, .any, .any, .any, .any]) ?_ ?_
  · have e40 : (cutD (zs.map Dt.int) none (some (40 : Int))).length ≤ 40 := by
      have := cutD_to (ds := zs.map Dt.int) (n := 40) 40 rfl
      have h2 : (cutD (zs.map Dt.int) none (some ((40 : Nat) : Int))).length ≤ 40 := by rw [this, List.length_take]; omega
      exact h2
    refine ws_for (js := [2]) (fun ds i ρ' => ds.length ≤ 67 ∧ ∃ n', n' ≤ 700 * i ∧ ρ' = [.dat sc, .pen n', .any, .any, .any, .any, .any, .any, .any, .any, .any, .any]) <| wi_rng1 (pf := true) <| wa_cons <| w_op <| w_c (fun _ => .int 4) <| w_cb <| wa_cons <| w_sl <| w_var (d := .lst (zs.map Dt.int)) (by rw [hsc]; rfl) <| wo_none <| wo_some <| w_c (fun _ => .int 40) ⟨40, rfl, sd_list <| wa_nil <| rd_len rfl <| od_I0i <| wa_nil ⟨_, rfl, by omega, by omega, ⟨by rw [rangeD_len]; omega, 0, by omega, rfl⟩, ?_, ?_⟩⟩
    · rintro lap d ρ2 hd ⟨hl, n0, hn0, rfl⟩
      have hi : lap < 67 := by have := (List.getElem?_eq_some_iff.mp hd).1; omega
      refine wg_name ?_
      show Ws K _ [.dat sc, .pen n0, .dat d, .any, .any, .any, .any, .any, .any, .any, .any, .any] _
      refine ws_seqI (fun ρ' => ∃ i ns n', Gd i ns ∧ n' ≤ n0 + 180 ∧ ρ' = [.dat sc, .pen n', .dat d, .dat (.lst (rowL i)), .any, .any, .any, .any, .any, .any, .any, .any]) ?_ ?_
      · exact ws_asg (pf := false) <| w_fresh9 (ip := 1) (j := 7) rfl rfl rfl (by omega) fun i ns n' g hn' => ⟨i, ns, n', g, hn', rfl⟩
      rintro ρ' ⟨i, ns, n1, g, hn1, rfl⟩
      refine ws_seq <| ws_asg (pf := true) <| w_call0 <| wa_cons <| w_var (d := .lst (rowL i)) rfl <| wa_nil ⟨i, ns, rfl, g, fun a b => ?_⟩
      have gc := g.can
      obtain ⟨c, hc⟩ : ∃ c, c = can i ns := ⟨_, rfl⟩
      rw [← hc] at gc ⊢
      obtain ⟨k1, p1, ek1, ep1, -, -⟩ := gc.amt
      show Ws K _ [.dat sc, .pen n1, .dat d, .dat (.lst (rowL i)), .dat (isleD C a b c), .any, .any, .any, .any, .any, .any, .any] _
      refine ws_seq <| ws_asg (pf := true) <| w_cb <| wa_cons <| w_call0 <| wa_cons <| w_var (d := isleD C a b c) rfl <| wa_nil ⟨a, b, c, k1, p1, rfl, ek1, ep1, wa_nil <| rd_repr gc.fit ?_⟩
      generalize hX : (shownD c).py.shown = SX
      show Ws K _ [.dat sc, .pen n1, .dat d, .dat (.lst (rowL i)), .dat (isleD C a b c), .dat (.str SX), .any, .any, .any, .any, .any, .any] _
      refine ws_seqI (fun ρ' => ∃ n', n' ≤ n1 + 90 ∧ ρ' = [.dat sc, .pen n', .dat d, .dat (.lst (rowL i)), .dat (isleD C a b c), .dat (.str SX), .any, .any, .any, .any, .any, .any]) ?_ ?_
      · refine ws_for (js := [6]) (fun ds k ρ' => ds.length ≤ 3 ∧ ∃ n', n' ≤ n1 + 30 * k ∧ ρ' = [.dat sc, .pen n', .dat d, .dat (.lst (rowL i)), .dat (isleD C a b c), .dat (.str SX), .any, .any, .any, .any, .any, .any]) <| wi_rng1 (pf := true) <| wa_cons <| w_c (fun _ => .int 3) <| wa_nil ⟨3, rfl, by decide, by decide, ⟨by rw [rangeD_len]; decide, n1, by omega, rfl⟩, ?_, ?_⟩
        · rintro k dk ρ2 hdk ⟨hl3, n2, hn2, rfl⟩
          have hk3 : k < 3 := by have := (List.getElem?_eq_some_iff.mp hdk).1; omega
          refine wg_name ?_
          show Ws K _ [.dat sc, .pen n2, .dat d, .dat (.lst (rowL i)), .dat (isleD C a b c), .dat (.str SX), .dat dk, .any, .any, .any, .any, .any] _
          refine ws_seq <| ws_asg (pf := false) <| w_callN (i := 1) rfl <| wa_cons <| w_c (fun _ => .int 9) <| wa_nil ⟨n2, rfl, 9, rfl, by decide, by decide, by omega, fun at_ hat => ?_⟩
          have hat9 : at_ < 9 := by omega
          show Ws K _ [.dat sc, .pen (n2 + 1), .dat d, .dat (.lst (rowL i)), .dat (isleD C a b c), .dat (.str SX), .dat dk, .dat (.int (at_ : Nat)), .any, .any, .any, .any] _
          refine ws_seq <| ws_asg (pf := false) <| w_callN (i := 1) rfl <| wa_cons <| w_var (d := .int (at_ : Nat)) rfl <| wa_nil ⟨n2 + 1, rfl, at_, rfl, hat9, by omega, fun one hone => ?_⟩
          show Ws K _ [.dat sc, .pen (n2 + 1 + 20), .dat d, .dat (.lst (rowL i)), .dat (isleD C a b c), .dat (.str SX), .dat dk, .dat (.int (at_ : Nat)), .dat one, .any, .any, .any] _
          refine ws_seq <| ws_own (pf := true) <| wl_list <| wa_cons <| w_var (d := .lst (rowL i)) rfl <| wa_nil ⟨_, _, rfl, rfl, by show 9 < 12; decide, ?_⟩
          show Ws K _ [.dat sc, .pen (n2 + 1 + 20), .dat d, .dat (.lst (rowL i)), .dat (isleD C a b c), .dat (.str SX), .dat dk, .dat (.int (at_ : Nat)), .dat one, .own (rowL i), .any, .any] _
          refine ws_seq <| ws_setitem (pf := true) (i := 9) (w_var (d := one) rfl <| w_var (d := .int (at_ : Nat)) rfl ⟨rowL i, at_, rfl, rfl, hat9, ?_⟩) rfl
          rw [row_set hat9 hone]
          obtain ⟨n3, g3, -, -⟩ := g.set hat9 hone
          obtain ⟨n4, g4, -, -⟩ := gc.set hat9 hone
          refine ws_freeze (i := 9) (ds := rowL (setPt i at_ one)) rfl ?_
          show Ws K _ [.dat sc, .pen (n2 + 1 + 20), .dat d, .dat (.lst (rowL i)), .dat (isleD C a b c), .dat (.str SX), .dat dk, .dat (.int (at_ : Nat)), .dat one, .dat (.lst (rowL (setPt i at_ one))), .any, .any] _
          refine ws_seq <| ws_asg (pf := true) <| w_call0 <| wa_cons <| w_var (d := isleD C a b c) rfl <| wa_cons <| w_var (d := .int (at_ : Nat)) rfl <| wa_cons <| w_var (d := one) rfl <| wa_nil ⟨a, b, c, _, at_, one, rfl, gc, hat9, hone, fun a2 b2 n5 g5 => ?_⟩
          have ec : can (setPt c at_ one) n5 = can (setPt i at_ one) n3 := by rw [hc] at g5 ⊢; exact can_set g hat9 g5 g3
          rw [ec]
          have gd := g3.can
          obtain ⟨j, hj⟩ : ∃ j, j = can (setPt i at_ one) n3 := ⟨_, rfl⟩
          rw [← hj] at gd ⊢
          obtain ⟨k2, p2, ek2, ep2, -, -⟩ := gd.amt
          show Ws K _ [.dat sc, .pen (n2 + 1 + 20), .dat d, .dat (.lst (rowL i)), .dat (isleD C a b c), .dat (.str SX), .dat dk, .dat (.int (at_ : Nat)), .dat one, .dat (.lst (rowL (setPt i at_ one))), .dat (isleD C a2 b2 j), .any] _
          refine ws_wk <| ws_if (pf := true) <| wt_or <| wt_test <| w_op <| w_cb <| wa_cons <| w_call0 <| wa_cons <| w_var (d := isleD C a2 b2 j) rfl <| wa_nil ⟨a2, b2, j, k2, p2, rfl, ek2, ep2, wa_nil <| rd_repr gd.fit <| w_cb <| wa_cons <| w_call0 <| wa_cons <| w_call0 <| wa_cons <| w_var (d := .lst (rowL (setPt i at_ one))) rfl <| wa_nil ⟨setPt i at_ one, n3, rfl, g3, fun a3 b3 => wa_nil ⟨a3, b3, can (setPt i at_ one) n3, k2, p2, rfl, by rw [← hj]; exact ek2, by rw [← hj]; exact ep2, wa_nil <| rd_repr (by rw [← hj]; exact gd.fit) <| od_nes ⟨_, rfl, ?_⟩⟩⟩⟩
          rw [← hj, decide_eq_true rfl]
          refine ifF <| wt_test <| w_op <| w_cb <| wa_cons <| w_call0 <| wa_cons <| w_var (d := isleD C a b c) rfl <| wa_nil ⟨a, b, c, k1, p1, rfl, ek1, ep1, wa_nil <| rd_repr gc.fit <| w_var (d := .str SX) rfl <| od_nes ⟨_, rfl, ?_⟩⟩
          rw [hX, decide_eq_true rfl]
          exact ifF <| ws_next ⟨_, .keep <| .keep <| .keep <| .keep <| .keep <| .keep <| .drop <| .drop <| .drop <| .drop <| .drop <| .drop .nil, hl3, n2 + 1 + 20, by omega, rfl⟩
        · rintro ρ2 ⟨hl3, n2, hn2, rfl⟩
          exact ⟨n2, by rw [rangeD_len] at hn2; have : (3 : Int).toNat = 3 := rfl; omega, rfl⟩
      rintro ρ' ⟨n2, hn2, rfl⟩
      refine ws_seq <| ws_asg (pf := true) <| w_methKw0 <| w_var (d := isleD C a b c) rfl ⟨a, _, _, rfl, by decide, wa_cons <| w_tup <| wa_cons <| w_c (fun _ => .str _) <| wa_cons <| w_c (fun _ => .str _) <| wa_nil ⟨by show 2 ≤ 100000; decide, wa_cons <| w_c (fun _ => .int _) <| wa_cons <| w_c (fun _ => .str _) <| wa_nil ⟨rfl, fun p => ⟨a, b, c, p, _, ["needs", "plain", "name"], rfl, rfl, by decide, .inr ⟨odd_sub (by decide +kernel), _, many c, mgM c,
        ⟨by decide +kernel, okM gc, fun _ => rfl, fun h => absurd (h.symm.trans (show DL.isOwn (.str "many") = true by decide +kernel)) (by decide), fun _ z hz => (by rw [faultM gc] at hz; cases hz), fun _ _ a2 b2 ss ss' e hp hs => ?_⟩⟩⟩⟩⟩⟩
      have e1 : ss = (["zz", "b"] : List Str) := strT_inj (e.symm.trans (show (many c).n = strT ["zz", "b"] from rfl))
      subst e1
      rw [sort_zb hp hs]
      obtain ⟨mI, hmI⟩ : ∃ mI : Pt, mI = { many c with n := strT ["b", "zz"] } := ⟨_, rfl⟩
      rw [← hmI]
      show Ws K _ [.dat sc, .pen n2, .dat d, .dat (.lst (rowL i)), .dat (isleD C a b c), .dat (.str SX), .any, .any, .any, .any, .any, .dat (isleD C a2 b2 mI)] _
      have gi : ∀ {key : Str} {x : Dt} {pf : Bool} {s10 : Sl} {Φ : Dt → List Sl → Prop}, valD (partsD mI) (.inr key) = some x → Φ x [.dat sc, .pen n2, .dat d, .dat (.lst (rowL i)), .dat (isleD C a b c), .dat (.str SX), .any, .any, .any, .any, s10, .dat (isleD C a2 b2 mI)] →
          Wp K pf (tProp C (spP K (WGet C key)) [] E0 (tVar 11)) [.dat sc, .pen n2, .dat d, .dat (.lst (rowL i)), .dat (isleD C a b c), .dat (.str SX), .any, .any, .any, .any, s10, .dat (isleD C a2 b2 mI)] Φ := fun l z =>
        w_getI <| w_var (d := isleD C a2 b2 mI) rfl ⟨a2, b2, mI, _, rfl, l, z⟩
      refine ws_seq <| ws_asg (pf := true) <| w_lst <| wa_cons <| gi (x := strT ["b", "zz"]) (by rw [hmI]; rfl) <| wa_cons <| gi (x := .int 3) (by rw [hmI]; rfl) <| wa_cons <| gi (x := .str "many") (by rw [hmI]; rfl) <| wa_cons <| gi (x := i.k) (by rw [hmI, hc]; rfl) <| wa_cons <| gi (x := i.t) (by rw [hmI, hc]; rfl) <| wa_nil ⟨by show 5 ≤ 100000; decide, ?_⟩
      show Ws K _ [.dat sc, .pen n2, .dat d, .dat (.lst (rowL i)), .dat (isleD C a b c), .dat (.str SX), .any, .any, .any, .any, .dat (.lst (fiveL i)), .dat (isleD C a2 b2 mI)] _
      have gr : ∀ {jj : Nat} {x : Dt} {pf : Bool} {ρ : List Sl} {Φ : Dt → List Sl → Prop}, ρ[3]? = some (.dat (.lst (rowL i))) → (rowL i)[jj]? = some x → Φ x ρ → Wp K pf (tOp (rIx K) (tVar 3) (tC (.int (jj : Nat)))) ρ Φ := fun e l z =>
        w_op <| w_var (d := .lst (rowL i)) e <| w_c (fun _ => .int _) <| od_ix rfl (atI_nat' l) z
      refine ws_seq <| ws_if (pf := true) <| wt_or <| wt_test <| w_op <| w_cb <| wa_cons <| w_var (d := .lst (fiveL i)) rfl <| wa_nil <| rd_repr (fit_five g) <| w_cb <| wa_cons <| w_lst <| wa_cons <| w_tup <| wa_cons <| w_c (fun _ => .str _) <| wa_cons <| w_c (fun _ => .str _) <| wa_nil ⟨by show 2 ≤ 100000; decide, wa_cons <| w_c (fun _ => .int _) <| wa_cons <| w_c (fun _ => .str _) <| wa_cons <| gr (jj := 1) rfl rfl <| wa_cons <| gr (jj := 8) rfl rfl <| wa_nil ⟨by show 5 ≤ 100000; decide, wa_nil <| rd_repr (d := .lst (fiveL i)) (fit_five g) <| od_nes ⟨_, rfl, ?_⟩⟩⟩
      rw [decide_eq_true rfl]
      refine ifF <| wt_test <| w_op <| w_methKw0 <| w_var (d := isleD C a b c) rfl ⟨a, _, _, rfl, by decide, wa_nil ⟨rfl, fun p => ⟨a, b, c, p, [], [], rfl, rfl, by decide, .inr ⟨fun z hz => (nomatch hz), _, c, mgE c, told_good gc fun a3 b3 => ?_⟩⟩⟩⟩
      have cc : can c (cS ns) = c := by rw [hc]; exact can_can g
      rw [cc]
      refine w_var (d := isleD C a b c) rfl <| od_eqI S gc.lay gc.lay ⟨_, rfl, ?_⟩
      rw [eq_same gc gc, same_refl, Bool.true_xor]
      refine ifF <| ws_next ?_
      show Ws K _ [.dat sc, .pen n2, .dat d, .dat (.lst (rowL i)), .dat (isleD C a b c), .dat (.str SX), .any, .any, .any, .any, .dat (.lst (fiveL i)), .dat (isleD C a2 b2 mI)] _
      refine ws_wk <| ws_if (pf := false) <| wt_or <| wt_not <| wt_B <| w_callN (i := 1) rfl <| wa_cons <| w_var (d := isleD C a b c) rfl <| wa_nil ⟨n2, rfl, a, b, c, _, rfl, gc, by omega, _, rfl, ifF ?_⟩
      refine wt_or <| wt_not <| wt_B <| w_callN (i := 1) rfl <| wa_nil ⟨n2 + 1, rfl, rfl, by omega, _, rfl, ifF ?_⟩
      refine Wt.up <| wt_test <| w_op <| w_cb <| wa_cons <| w_call0 <| wa_cons <| w_var (d := isleD C a b c) rfl <| wa_nil ⟨a, b, c, k1, p1, rfl, ek1, ep1, wa_nil <| rd_repr gc.fit <| w_var (d := .str SX) rfl <| od_nes ⟨_, rfl, ?_⟩⟩
      rw [hX, decide_eq_true rfl]
      exact ifF <| ws_next ⟨_, .keep <| .keep <| .drop <| .drop <| .drop <| .drop <| .drop <| .drop <| .drop <| .drop <| .drop <| .drop .nil, hl, n2 + 1 + 300, by omega, rfl⟩
    · rintro ρ2 ⟨hl, n', hn', rfl⟩
      exact ⟨n', rfl⟩
  rintro ρ' ⟨n', rfl⟩
  refine ws_ret (pf := false) <| w_andV <| w_op <| w_mkD em fun a b => w_mkS (j := 7) (ks := ["turns"]) (i := dfl) (ss := []) em okDf rfl (by decide +kernel) (by decide +kernel) nfDf rfl perm0 <| wa_cons <| w_tup <| wa_nil ⟨by decide, wa_nil ⟨rfl, rfl, rfl, fun a2 b2 => od_eqI S layDf layDf ⟨_, rfl, ?_⟩⟩⟩
  rw [eqDf, Bool.false_xor]
  exact ifT <| w_op <| w_mkD em fun a b => w_c (fun _ => .str _) <| od_eqIS S layDf rfl
end
end K04

set_option maxHeartbeats 2000000
/-! Facts of classes: properties, constant tuples of texts, values of a class. -/
namespace DL
open PySem PySem.Spec PyProof.Rows L2 ClX
variable [Tb]
theorem isFn_of {K : PySem.W.Frag} {f : Addr} {od : Option Addr} {g : Data} {sl : Array (Option Value)} (l : K.lookup f = some ⟨.type "function", od, g, sl⟩) : PySem.W.isFn K (.ref f) = true := by
  unfold PySem.W.isFn
  rw [typeIn_ref, l]
  rfl
/-- a property as the top has left it -/
inductive PFac (K : PySem.W.Frag) (C : Addr) (x qual : Str) (st : Stmt) : Prop
  | mk {p g : Addr} {rest : List Value} {od an : Option Addr} {sl : Array (Option Value)} {kV dc pm cd ct : Value} (i : PySem.W.findIn K (.ref C) x = some (some (.ref p)))
      (gt : PySem.W.specialIn K (.ref p) "__get__" = some (some (.builtin "property.__get__"))) (tk : PySem.W.takesIn K (.ref p) = some true) (r : PySem.W.recIn K p "property" = some (.ref g :: rest))
      (l : K.lookup g = some ⟨.type "function", od, .func (PySem.W.fnOf x qual (defArgs st) (defBody st) (defScope st) .none kV dc pm an cd ct), sl⟩) (c : PySem.W.codeIn K cd qual = true) : PFac K C x qual st
theorem PFac.get {K : PySem.W.Frag} {C : Addr} {x qual : Str} {st : Stmt} (h : PFac K C x qual st) (hb : ∀ (kV doc pm : Value) (an : Option Addr) (cdv ct : Value) (us : List Value), us.length = (["self"] : List Str).length → bindArgs (PySem.W.fnOf x qual (defArgs st) (defBody st) (defScope st) .none kV doc pm an cdv ct) ⟨us, []⟩ = pure ((["self"] : List Str).zip us)) :
    ∃ (p g : Addr) (fd : FuncData), PropOf K C x p g ∧ Binds K fd ["self"] [] ∧ Fun K x qual st g fd := by
  cases h with
  | mk i gt tk r l cc =>
    have F := fun_mk (st := st) l cc (keep_fn l)
    exact ⟨_, _, _, ⟨i, gt, tk, _, r⟩, F.binds hb, F⟩
/-- a tuple of texts among the constants -/
inductive Tx (K : PySem.W.Frag) (e : Addr) (ss : List Str) : Prop
  | mk {od : Option Addr} {n : Nat} {sl : Array (Option Value)} {its : Array Value} (l : K.lookup e = some ⟨.type "tuple", od, .seq its n, sl⟩) (z : its.toList.map absV = ss.map fun s => some (V.str s)) : Tx K e ss
theorem abs_str {u : Value} {s : Str} (h : absV u = some (.str s)) : RelV (.str s) u := by
  cases u with
  | str x t => cases h; exact ⟨t, rfl⟩
  | _ => cases h
theorem vals_abs : ∀ {us : List Value} {ss : List Str}, us.map absV = ss.map (fun s => some (V.str s)) → Vals (ss.map V.str) us
  | [], [], _ => .nil
  | [], _ :: _, h => by cases h
  | _ :: _, [], h => by cases h
  | u :: us, s :: ss, h => by
    rw [List.map_cons, List.map_cons] at h
    injection h with h1 h2
    exact .cons (abs_str h1) (vals_abs h2)
theorem Tx.sqT {K : PySem.W.Frag} {e : Addr} {ss : List Str} (h : Tx K e ss) (hn : ss.length ≤ 1000) (H : Hp) : SqT K H e (ss.map V.str) := by
  cases h with
  | @mk od n sl its l z =>
    have zs : its.size = ss.length := by rw [← Array.length_toList, ← List.length_map (f := absV), z, List.length_map]
    exact .inr ⟨_, its, n, l, rfl, rfl, by rw [zs]; exact Nat.le_trans hn (by decide), vals_abs z⟩
theorem Tx.dx {K : PySem.W.Frag} {e : Addr} {ss : List Str} (h : Tx K e ss) (hn : ss.length ≤ 1000) (H : Hp) : DX K H (.ref e) (.tup (ss.map Dt.str)) := .tup (h.sqT hn H) (dxs_strs ss)
/-- values of a class that are tuples of texts -/
inductive VFac (K : PySem.W.Frag) (C : Addr) (x : Str) (a : Addr) : Prop
  | mk (i : PySem.W.findIn K (.ref C) x = some (some (.ref a))) (f : PySem.W.findCls K (.ref C) (.type "type") x = some (.val (.ref a))) : VFac K C x a
theorem VFac.cv {K : PySem.W.Frag} {C a : Addr} {x : Str} (h : VFac K C x a) : CVal K C (.type "type") x (.ref a) (.ref a) := by
  cases h with
  | mk i f => exact ⟨f, rfl⟩
def crq (K : PySem.W.Frag) (C : Addr) : Bool := PySem.W.readsIn K C (.type "type") && PySem.W.specialIn K (.ref C) "__getattribute__" == some (some (.builtin "type.__getattribute__"))
theorem cr_mk {K : PySem.W.Frag} {C : Addr} (h : crq K C = true) : CRead K C (.type "type") := by
  unfold crq at h
  rw [Bool.and_eq_true] at h
  exact ⟨h.1, beq_some h.2⟩
end DL

/-! The head of a law, its defs called with no guard held: what is told of the heap there is the script, and the empty tables of code objects of the defs that make lambdas. -/
namespace DL
open PySem PySem.Spec PyProof.Rows L2 LamX
/-- where a law's call begins; cs: code objects and their tables -/
structure Start (K : PySem.W.Frag) (mg mb : Str → Option Value) (s : Shared) (cs : List (Addr × Addr)) (a : Addr) (vs : List Value) (ns : List Int) : Prop where
  kIn : K.In s.heap
  gl : s.heap.Ns mainGlobals mg
  bl : s.heap.Ns builtinsNs mb
  boot : ∀ x : Str, x ≠ "__name__" → mb x = bootBuiltins x
  lim : s.heap.NoLimit
  gens : s.gens = #[]
  main : ∃ (bm : Addr) (ob : Obj), mg "__builtins__" = some (.ref bm) ∧ bm ≠ builtinsNs ∧ s.heap.get? bm = some ob ∧ ob.cls = .type "module" ∧ ob.dict = some builtinsNs ∧ ob.data = .plain
  arg : s.heap.get? a = some { cls := .type "list", data := .seq vs.toArray }
  nums : IntsAre vs ns
  few : ns.length ≤ sizeLine
  tabs : ∀ q ∈ cs, s.heap.get? q.2 = some { cls := .none, data := .fields #[] } ∧ K.lookup q.2 = none ∧ PySem.W.codeHdIn K q.1 q.2 = true
/-- the script, frozen -/
def scriptO (vs : List Value) (ns : List Int) : HO := .frz { cls := .type "list", data := .seq vs.toArray } (.lst (ns.map V.int))
/-- what is told there: the tables, and the script where it is no object of the top -/
def startH (K : PySem.W.Frag) (cs : List (Addr × Addr)) (a : Addr) (vs : List Value) (ns : List Int) : Hp := fun b =>
  if b ∈ cs.map Prod.snd then some (.tbl #[]) else if (b == a && (K.lookup a).isNone) = true then some (scriptO vs ns) else none
section
variable {P : Program} {w : World} {K : PySem.W.Frag} {mg mb : Str → Option Value} {s : Shared} {cs : List (Addr × Addr)} {a : Addr} {vs : List Value} {ns : List Int}
theorem start_tab {q : Addr × Addr} (h : q ∈ cs) : startH K cs a vs ns q.2 = some (.tbl #[]) := if_pos (List.mem_map_of_mem h)
theorem start_cases {b : Addr} {u : HO} (e : startH K cs a vs ns b = some u) : (u = .tbl #[] ∧ ∃ q ∈ cs, q.2 = b) ∨ (u = scriptO vs ns ∧ b = a ∧ K.lookup a = none) := by
  unfold startH at e
  split at e
  · rename_i h
    exact .inl ⟨(Option.some.inj e).symm, List.mem_map.mp h⟩
  · split at e
    · rename_i h
      rw [Bool.and_eq_true, beq_iff_eq, Option.isNone_iff_eq_none] at h
      exact .inr ⟨(Option.some.inj e).symm, h⟩
    · cases e
/-- each thing told is there -/
theorem Start.ok (S : Start K mg mb s cs a vs ns) : HOk P w (startH K cs a vs ns) s.heap := fun b u e => by
  rcases start_cases e with ⟨rfl, q, hq, rfl⟩ | ⟨rfl, rfl, _⟩
  · exact (S.tabs q hq).1
  · exact ⟨S.arg, by rw [List.length_map]; exact S.few, vs, _, vals_ints S.nums, S.arg⟩
/-- what is neither a table nor a list is not told: it stays below -/
theorem Start.below (S : Start K mg mb s cs a vs ns) {b : Addr} {o : Obj} (e : s.heap.get? b = some o) (h1 : o.data ≠ .fields #[]) (h2 : o.data ≠ .seq vs.toArray) : (hidT s.heap (startH K cs a vs ns)).get? b = some o := by
  refine hidT_get e ?_
  cases c : startH K cs a vs ns b with
  | none => rfl
  | some u =>
    rcases start_cases c with ⟨_, q, hq, rfl⟩ | ⟨_, rfl, _⟩
    · rw [(S.tabs q hq).1] at e
      exact (h1 (Option.some.inj e ▸ rfl)).elim
    · rw [S.arg] at e
      exact (h2 (Option.some.inj e ▸ rfl)).elim
theorem Start.names (S : Start K mg mb s cs a vs ns) {b : Addr} {m : Str → Option Value} (h : s.heap.Ns b m) : (hidT s.heap (startH K cs a vs ns)).Ns b m :=
  h.elim fun o ⟨es, ep, e, d, r⟩ => ⟨o, es, ep, S.below e (by rw [d]; nofun) (by rw [d]; nofun), d, r⟩
theorem Start.top (S : Start K mg mb s cs a vs ns) : K.In (hidT s.heap (startH K cs a vs ns)) := fun b o e => by
  refine hidT_get (S.kIn b o e) ?_
  cases c : startH K cs a vs ns b with
  | none => rfl
  | some u =>
    rcases start_cases c with ⟨_, q, hq, rfl⟩ | ⟨_, rfl, n⟩
    · rw [(S.tabs q hq).2.1] at e; cases e
    · rw [n] at e; cases e
theorem Start.mod (S : Start K mg mb s cs a vs ns) : Mod K mg (hidT s.heap (startH K cs a vs ns)) :=
  ⟨S.top, S.names S.gl, ⟨mb, S.names S.bl, S.boot⟩, S.lim.elim fun mc h => ⟨mc, S.names h.1, h.2⟩⟩
theorem Start.env (S : Start K mg mb s cs a vs ns) : Env0 P w K mg (hidT s.heap (startH K cs a vs ns)) callerA [] s (startH K cs a vs ns) :=
  ⟨rfl, S.mod, fun _ _ => of_hidT, Nat.le_of_eq (hidT_size _ _), trivial, nofun, S.ok, .of_eq S.gens⟩
theorem Start.tabB (S : Start K mg mb s cs a vs ns) {q : Addr × Addr} (hq : q ∈ cs) : TabB (hidT s.heap (startH K cs a vs ns)) mg q.1 q.2 := by
  obtain ⟨t1, _, t3⟩ := S.tabs q hq
  obtain ⟨og, _, _, eg, dg, _⟩ := S.gl
  obtain ⟨bm, ob, b1, b2, b3, b4, b5, b6⟩ := S.main
  have ng : mainGlobals ≠ q.2 := fun z => by
    rw [z, t1] at eg
    rw [← Option.some.inj eg] at dg
    cases dg
  refine ⟨PySem.W.codeHd_of_K S.top t3, ⟨bm, ob, b1, b2, fun z => ?_, fun z => ?_, S.below b3 (by rw [b6]; nofun) (by rw [b6]; nofun), b4, b5, b6⟩, ng⟩
  · rw [z, eg] at b3
    rw [← Option.some.inj b3, dg] at b6
    cases b6
  · rw [z, t1] at b3
    rw [← Option.some.inj b3] at b6
    cases b6
/-- the script as the law sees it -/
theorem Start.script (S : Start K mg mb s cs a vs ns) : SqL K (startH K cs a vs ns) a (ns.map V.int) := by
  cases k : K.lookup a with
  | some o =>
    have e := S.kIn a o k
    rw [S.arg] at e
    cases e
    exact .inr ⟨_, vs.toArray, _, k, rfl, rfl, rfl, by rw [List.size_toArray, S.nums.length]; exact S.few, vals_ints S.nums⟩
  | none =>
    refine .inl (.inr ⟨{ cls := .type "list", data := .seq vs.toArray }, ?_⟩)
    unfold startH
    rw [if_neg fun h => ?_, if_pos (by rw [k, beq_self_eq_true]; rfl)]
    · rfl
    · obtain ⟨q, hq, rfl⟩ := List.mem_map.mp h
      have e := (S.tabs q hq).1
      rw [S.arg] at e
      exact nomatch congrArg Obj.data (Option.some.inj e)
/-- what stood there stands behind the call; the tables have grown -/
theorem Start.old (S : Start K mg mb s cs a vs ns) {H' : Hp} {h' : Heap} (un : Un (frs []) [] (startH K cs a vs ns) H' s.heap h') (ok : HOk P w H' h') : OldK s.heap h' := by
  have grown : ∀ q ∈ cs, ∃ xs : Array Value, h'.get? q.2 = some { cls := .none, data := .fields xs } := fun q hq => (un.tbls q.2 #[] (start_tab hq)).elim fun m e => ⟨_, ok q.2 _ e⟩
  have each : ∀ b o, s.heap.get? b = some o → h'.get? b = some o ∨ ∃ q ∈ cs, q.2 = b := fun b o e => by
    cases c : startH K cs a vs ns b with
    | none => exact .inl (un.keep b o e c nofun nofun)
    | some u =>
      rcases start_cases c with ⟨_, z⟩ | ⟨rfl, rfl, _⟩
      · exact .inr z
      · rw [S.arg] at e
        exact .inl (e ▸ (ok _ _ (un.frzs _ _ _ c)).1)
  refine ⟨fun b o e => ?_, fun b o e => ?_⟩ <;> rcases each b o e with z | ⟨q, hq, rfl⟩
  · exact .inl z
  · obtain ⟨xs, y⟩ := grown q hq
    obtain ⟨t1, _, t3⟩ := S.tabs q hq
    rw [t1] at e
    cases e
    exact .inr (.inl ⟨((PySem.W.codeHd_of_K S.kIn t3).tab t1).isCodeTable, rfl, #[], xs, rfl, by rw [Array.empty_append]; exact y⟩)
  · exact ⟨o, z⟩
  · exact (grown q hq).elim fun _ y => ⟨_, y⟩
/-- the law's def called -/
theorem Start.call (S : Start K mg mb s cs a vs ns) {k : Nat} {fa : Addr} {fd : FuncData} {x : Str} {sp : Sp} (hr : Room k callerA)
    (F : FnG P w K mg (hidT s.heap (startH K cs a vs ns)) CX0 k fa fd [x] sp) (bd : BindsTo s fd ⟨[.ref a], []⟩ [(x, .ref a)])
    (h : sp [.ref a] (startH K cs a vs ns) (fun v _ => v = .bl true) fun _ _ _ => False) :
    codeAny (model P w) callerA (.call (.ref fa) ⟨[.ref a], []⟩) (fun r s' => r = .ok (.ret (.bool true)) ∧ OldK s.heap s'.heap ∧ s'.os = s.os ∧ AllBare s'.gens) s := by
  refine codeAny_mono (F.run callerA [] s _ ⟨[.ref a], []⟩ [.ref a] [.ref a] _ _ hr rfl S.env bd (.cons rfl .nil) h) ?_
  rintro (e | f) s' z
  · exact z.elim
  cases f with
  | ret u =>
    obtain ⟨v, H', os, bare, un, ok, r, rfl⟩ := z
    cases r
    exact ⟨rfl, S.old un ok, os, bare⟩
  | _ => exact z.elim
end
/-- what the top tells of a def that makes lambdas: its code object, its table -/
structure LamAt (K : PySem.W.Frag) (mg : Str → Option Value) (dn : Str) (c P : Addr) : Prop where
  ex : ∃ (f : Addr) (o : Obj) (g : FuncData), mg dn = some (.ref f) ∧ K.lookup f = some o ∧ o.data = .func g ∧ g.code = .ref c
  hd : PySem.W.codeHdIn K c P = true
  out : K.lookup P = none
section
variable {l : PySem.W.OpenLaw} {n k : Nat} {q : Program} {loose : List Str} {XP : (Str → Option Value) → Heap → Prop} {YP : World → Heap → Prop} {d : DefRec} {K : Params → PySem.W.Frag} {x : Str}
theorem walk_ofG {sp : PySem.W.Frag → Sp} (hn : l.most = some n) (hn2 : n ≤ sizeLine) (hdf : d.params.defaults = []) (hr : Room k callerA) (hY : ∀ (w : World) (h : Heap), YP w h → (K w.params).In h)
    (F : ∀ (w : World) (mg : Str → Option Value) (fa : Addr) (h : Heap), (K w.params).In h → h.Ns mainGlobals mg → mg d.name = some (.ref fa) →
      ∃ fd : FuncData, (∀ (s : Shared) (u : Value), BindsTo s fd ⟨[u], []⟩ [(x, u)]) ∧
        ∀ base : Heap, (K w.params).In base → base.Ns mainGlobals mg → FnG l.prog w (K w.params) mg base CX0 k fa fd [x] (sp (K w.params)))
    (hsp : ∀ (K : PySem.W.Frag) (H : Hp) (a : Addr) (ns : List Int), ns.length ≤ n → Only H → SqL K H a (ns.map V.int) → sp K [.ref a] H (fun v _ => v = .bl true) fun _ _ _ => False) :
    PySem.W.WalkO q loose XP YP l.row.toRowW d [] (fun f vs => PySem.call f vs) := by
  refine Att.attach_call hn hdf fun w s0 s1 mg mb fa o pm cd doc a vs ns G Y ho hd hcd hmg hobj hints hlen hg => ?_
  have S : Start (K w.params) mg mb s1 [] a vs ns := ⟨hY w _ Y, G.T.g, G.T.b, G.T.builtins, G.T.nolimit, hg, G.T.bmain, hobj, hints, Nat.le_trans hlen hn2, nofun⟩
  obtain ⟨fd, bd, hF⟩ := F w mg fa _ S.kIn S.gl hmg
  refine S.call hr (hF _ S.top (S.names S.gl)) (bd s1 (.ref a)) (hsp _ _ a ns hlen (fun b => ?_) S.script)
  cases c : startH (K w.params) [] a vs ns b with
  | none => exact .inl rfl
  | some u =>
    rcases start_cases c with ⟨_, q, z, _⟩ | ⟨rfl, _⟩
    · cases z
    · exact .inr ⟨_, _, rfl⟩
theorem walk_ofGT {dn : Str} {sp : PySem.W.Frag → Addr → Sp}
    (hn : l.most = some n) (hn2 : n ≤ sizeLine) (hdf : d.params.defaults = []) (hr : Room k callerA) (hdn : ((recsOf q).any fun e => e.name == dn) = true) (hY : ∀ (w : World) (h : Heap), YP w h → (K w.params).In h)
    (F : ∀ (w : World) (mg : Str → Option Value) (fa : Addr) (h : Heap), (K w.params).In h → h.Ns mainGlobals mg → mg d.name = some (.ref fa) →
      ∃ (c P : Addr) (fd : FuncData), LamAt (K w.params) mg dn c P ∧ (∀ (s : Shared) (u : Value), BindsTo s fd ⟨[u], []⟩ [(x, u)]) ∧
        ∀ base : Heap, (K w.params).In base → base.Ns mainGlobals mg → TabB base mg c P → FnG l.prog w (K w.params) mg base CX0 k fa fd [x] (sp (K w.params) P))
    (hsp : ∀ (K : PySem.W.Frag) (P : Addr) (H : Hp) (a : Addr) (ns : List Int), ns.length ≤ n → H P = some (.tbl #[]) → SqL K H a (ns.map V.int) → sp K P [.ref a] H (fun v _ => v = .bl true) fun _ _ _ => False) :
    PySem.W.WalkO q loose XP YP l.row.toRowW d [] (fun f vs => PySem.call f vs) := by
  refine Att.attach_call hn hdf fun w s0 s1 mg mb fa o pm cd doc a vs ns G Y ho hd hcd hmg hobj hints hlen hg => ?_
  have KX := hY w _ Y
  obtain ⟨c, P, fd, ⟨⟨f, o2, g, k1, k2, k3, k4⟩, k5, k6⟩, bd, hF⟩ := F w mg fa _ KX G.T.g hmg
  have em : s1.heap.get? P = some { cls := .none, data := .fields #[] } := by
    obtain ⟨e, he, hne⟩ := List.any_eq_true.mp hdn
    obtain ⟨_, _, _, _, _, z1, z2, z3, z4, _, ⟨_, _, y1, _, y3, y4⟩, y5⟩ := G.T.tab e he
    rw [beq_iff_eq.mp hne, k1] at z1
    cases z1
    rw [KX _ _ k2] at z2
    cases z2
    rw [k3] at z3
    cases z3
    rw [k4] at z4
    cases z4
    obtain ⟨_, _, _, _, _, _, _, _, _, x1, _, x3, x4, _⟩ := PySem.W.codeHd_of_K KX k5
    rw [x1] at y1
    cases y1
    rw [x3] at y3
    cases y3
    rw [x4] at y4
    cases y4
    exact y5
  have S : Start (K w.params) mg mb s1 [(c, P)] a vs ns := ⟨KX, G.T.g, G.T.b, G.T.builtins, G.T.nolimit, hg, G.T.bmain, hobj, hints, Nat.le_trans hlen hn2, fun q hq => List.mem_singleton.mp hq ▸ ⟨em, k6, k5⟩⟩
  exact S.call hr (hF _ S.top (S.names S.gl) (S.tabB (.head _))) (bd s1 (.ref a)) (hsp _ P _ a ns hlen (start_tab (q := (c, P)) (.head _)) S.script)
end
end DL

set_option maxHeartbeats 4000000
namespace K04
open PySem PySem.Spec PyProof.Rows L2 DL LamX
abbrev iInvalidName : Stmt := inClass (topS 3) 0
theorem scInvalidName : FnScope ["self", "value"] ["self", "value"] (defScope iInvalidName) := ⟨rfl, rfl, rfl, by decide +kernel, rfl, by decide +kernel, by decide +kernel⟩
abbrev iInvalidIsle : Stmt := inClass (topS 4) 0
theorem scInvalidIsle : FnScope ["self", "which", "part"] ["self", "which", "part"] (defScope iInvalidIsle) := ⟨rfl, rfl, rfl, by decide +kernel, rfl, by decide +kernel, by decide +kernel⟩
abbrev iNoPart : Stmt := inClass (topS 5) 0
theorem scNoPart : FnScope ["self", "which"] ["self", "which"] (defScope iNoPart) := ⟨rfl, rfl, rfl, by decide +kernel, rfl, by decide +kernel, by decide +kernel⟩
abbrev sP_name : Stmt := inClass (topS 19) 3
theorem scP_name : FnScope ["self"] ["self"] (defScope sP_name) := ⟨rfl, rfl, rfl, by decide +kernel, rfl, by decide +kernel, by decide +kernel⟩
abbrev sP_kept : Stmt := inClass (topS 19) 4
theorem scP_kept : FnScope ["self"] ["self"] (defScope sP_kept) := ⟨rfl, rfl, rfl, by decide +kernel, rfl, by decide +kernel, by decide +kernel⟩
abbrev sP_plain : Stmt := inClass (topS 19) 5
theorem scP_plain : FnScope ["self"] ["self"] (defScope sP_plain) := ⟨rfl, rfl, rfl, by decide +kernel, rfl, by decide +kernel, by decide +kernel⟩
abbrev sP_leash : Stmt := inClass (topS 19) 7
theorem scP_leash : FnScope ["self"] ["self"] (defScope sP_leash) := ⟨rfl, rfl, rfl, by decide +kernel, rfl, by decide +kernel, by decide +kernel⟩
abbrev sP_needs : Stmt := inClass (topS 19) 8
theorem scP_needs : FnScope ["self"] ["self"] (defScope sP_needs) := ⟨rfl, rfl, rfl, by decide +kernel, rfl, by decide +kernel, by decide +kernel⟩
abbrev sP_sleeps : Stmt := inClass (topS 19) 9
theorem scP_sleeps : FnScope ["self"] ["self"] (defScope sP_sleeps) := ⟨rfl, rfl, rfl, by decide +kernel, rfl, by decide +kernel, by decide +kernel⟩
abbrev sP_sleep : Stmt := inClass (topS 19) 10
theorem scP_sleep : FnScope ["self"] ["self"] (defScope sP_sleep) := ⟨rfl, rfl, rfl, by decide +kernel, rfl, by decide +kernel, by decide +kernel⟩
abbrev sP_wake : Stmt := inClass (topS 19) 11
theorem scP_wake : FnScope ["self"] ["self"] (defScope sP_wake) := ⟨rfl, rfl, rfl, by decide +kernel, rfl, by decide +kernel, by decide +kernel⟩
abbrev sP_turns : Stmt := inClass (topS 19) 12
theorem scP_turns : FnScope ["self"] ["self"] (defScope sP_turns) := ⟨rfl, rfl, rfl, by decide +kernel, rfl, by decide +kernel, by decide +kernel⟩
section
variable [Tb]
theorem iniInvalidName {K : PySem.W.Frag} {mg : Str → Option Value} {B C : Addr} {nid : String} {tl : List Value} (m : Er K mg "InvalidName" ["value"] B nid tl C) (f : IFac K C "InvalidName.__init__" iInvalidName) : Ini K C 1 (W1 "value") := by
  cases f with
  | mk i l c =>
    have F := fun_mk (st := iInvalidName) l c (keep_fn l)
    exact ⟨_, _, _, i, by rw [typeIn_ref, l]; rfl, F.binds (fun _ _ _ _ _ _ us hl => match us, hl with | [_, _], _ => rfl), fun P w mg base => ok_ex1B F scInvalidName rfl rfl rfl rfl rfl m.T (m.no _ (by simp))⟩
theorem iniInvalidIsle {K : PySem.W.Frag} {mg : Str → Option Value} {B C : Addr} {nid : String} {tl : List Value} (m : Er K mg "InvalidIsle" ["which", "part"] B nid tl C) (f : IFac K C "InvalidIsle.__init__" iInvalidIsle) : Ini K C 2 (W2 "which" "part") := by
  cases f with
  | mk i l c =>
    have F := fun_mk (st := iInvalidIsle) l c (keep_fn l)
    exact ⟨_, _, _, i, by rw [typeIn_ref, l]; rfl, F.binds (fun _ _ _ _ _ _ us hl => match us, hl with | [_, _, _], _ => rfl), fun P w mg base => ok_ex2B F scInvalidIsle rfl rfl rfl rfl rfl rfl rfl rfl m.T (m.no _ (by simp)) (m.no _ (by simp))⟩
theorem iniNoPart {K : PySem.W.Frag} {mg : Str → Option Value} {B C : Addr} {nid : String} {tl : List Value} (m : Er K mg "NoPart" ["which"] B nid tl C) (f : IFac K C "NoPart.__init__" iNoPart) : Ini K C 1 (W1 "which") := by
  cases f with
  | mk i l c =>
    have F := fun_mk (st := iNoPart) l c (keep_fn l)
    exact ⟨_, _, _, i, by rw [typeIn_ref, l]; rfl, F.binds (fun _ _ _ _ _ _ us hl => match us, hl with | [_, _], _ => rfl), fun P w mg base => ok_ex1B F scNoPart rfl rfl rfl rfl rfl m.T (m.no _ (by simp))⟩
end
/-- Isle.__init__ with its defaults, as the top has left it -/
inductive CII (K : PySem.W.Frag) (C e1 e2 eS eW e3 : Addr) : Prop
  | mk {f D : Addr} {t1 t2 : Tok} {od an : Option Addr} {sl : Array (Option Value)} {dc pm cd ct : Value} (i : PySem.W.findIn K (.ref C) "__init__" = some (some (.ref f)))
      (l : K.lookup f = some ⟨.type "function", od, .func (PySem.W.fnOf "__init__" "Isle.__init__" (defArgs sIsleI) (defBody sIsleI) (defScope sIsleI) .none (.ref D) dc pm an cd ct), sl⟩) (c : PySem.W.codeIn K cd "Isle.__init__" = true)
      (n1 : PySem.W.nsIn K D "kept" = some (some (.int 1 t1)))
      (n2 : PySem.W.nsIn K D "plain" = some (some (.int 1 t2)))
      (n3 : PySem.W.nsIn K D "leash" = some (some (.ref e1)))
      (n4 : PySem.W.nsIn K D "needs" = some (some (.ref e2)))
      (n5 : PySem.W.nsIn K D "sleeps" = some (some (.bool true)))
      (n6 : PySem.W.nsIn K D "sleep" = some (some (.ref eS)))
      (n7 : PySem.W.nsIn K D "wake" = some (some (.ref eW)))
      (n8 : PySem.W.nsIn K D "turns" = some (some (.ref e3)))
      (x1 : Tx K e1 []) (x2 : Tx K e2 []) (x6 : Tx K eS rowSl) (x7 : Tx K eW rowWk) (x8 : Tx K e3 []) : CII K C e1 e2 eS eW e3
/-- a method -/
inductive CFn (K : PySem.W.Frag) (C : Addr) (m qual : Str) (st : Stmt) : Prop
  | mk {f : Addr} {od an : Option Addr} {sl : Array (Option Value)} {kV dc pm cd ct : Value} (i : PySem.W.findIn K (.ref C) m = some (some (.ref f)))
      (l : K.lookup f = some ⟨.type "function", od, .func (PySem.W.fnOf m qual (defArgs st) (defBody st) (defScope st) .none kV dc pm an cd ct), sl⟩) (c : PySem.W.codeIn K cd qual = true) : CFn K C m qual st
/-- a def of the top that makes lambdas: its code object at c, the table of that at P -/
inductive LFac (K : PySem.W.Frag) (x : Str) (st : Stmt) (c P : Addr) : Prop
  | mk {f : Addr} {od an dd : Option Addr} {sl slc : Array (Option Value)} {oc kV dc pm ct tc : Value} {vs : Array Value} (a : PySem.W.nsIn K mainGlobals x = some (some (.ref f)))
      (l : K.lookup f = some ⟨oc, od, .func (PySem.W.fnOf x x (defArgs st) (defBody st) (defScope st) .none kV dc pm an (.ref c) ct), sl⟩) (cc : PySem.W.codeIn K (.ref c) x = true) (k : PySem.W.keepIn K (.ref f) = true)
      (lc : K.lookup c = some ⟨tc, dd, .fields vs, slc⟩) (p : vs[11]? = some (.ref P)) (hd : PySem.W.codeHdIn K c P = true) (out : K.lookup P = none) : LFac K x st c P
theorem LFac.df {K : PySem.W.Frag} {x : Str} {st : Stmt} {c P : Addr} {h : Heap} {mg : Str → Option Value} {ps : List Str} (F : LFac K x st c P) (X : K.In h) (G : h.Ns mainGlobals mg)
    (hb : ∀ (kV doc pm : Value) (an : Option Addr) (cdv ct : Value) (us : List Value), us.length = ps.length → bindArgs (PySem.W.fnOf x x (defArgs st) (defBody st) (defScope st) .none kV doc pm an cdv ct) ⟨us, []⟩ = pure (ps.zip us)) : ∃ d : DF K mg x st ps, FunL K x x st d.f d.fd c ∧ LamAt K mg x c P := by
  cases F with
  | @mk f od an dd sl slc oc kV dc pm ct tc vs a l cc k lc p hd out =>
    have F := fun_mk (st := st) l cc k
    exact ⟨⟨_, _, F, F.binds hb, PySem.W.mg_of X G a⟩, ⟨_, _, _, _, _, _, _, _, rfl, l, cc⟩, ⟨⟨_, _, _, PySem.W.mg_of X G a, l, rfl, rfl⟩, hd, out⟩⟩
/-- what is looked up of the classes side by side -/
def stq (K : PySem.W.Frag) (C cP cN cI cD : Addr) : Bool :=
  ([(cN, cN, true), (cN, cI, false), (cI, cN, false), (cI, cI, true)].all fun t => PySem.W.kitOne K (.ref t.1) (.ref t.2.1) == some t.2.2)
    && (([(cP, cP, true), (cN, cP, false), (cI, cP, false), (cN, cD, true), (cI, cD, true)].all fun t => PySem.W.exmOne K (.ref t.1) (.ref t.2.1) == some t.2.2)
    && ((PySem.W.kitOne K (.ref C) (.ref C) == some true) && ((PySem.W.kitOne K (.type "list") (.ref C) == some false) && ((PySem.W.kitOne K (.type "str") (.ref C) == some false)
    && (PySem.W.notFirst K C (.ref C) && (PySem.W.notFirst K C (.type "list") && PySem.W.notFirst K C (.type "str")))))))
def spLaw0 (K : PySem.W.Frag) (P : Addr) : Sp := @spLaw ⟨[(P, qLam)]⟩ K
section
variable {l : PySem.W.OpenLaw} {w : World} {K : PySem.W.Frag} {h : Heap} {mg : Str → Option Value} {fa C cN cI cP cD B0 B1 e1 e2 eS eW e3 aS aW c Pt0 : Addr} {t1 t2 t3 t4 t5 : Tok}
theorem all_mk (X : K.In h) (G : h.Ns mainGlobals mg) (hfa : mg "law" = some (.ref fa)) (gq : glq K = true)
    (m1 : PySem.W.nsIn K mainGlobals "MOST_LETTERS" = some (some (.int 8 t1))) (m2 : PySem.W.nsIn K mainGlobals "MOST_IN_LEAD" = some (some (.int 4 t2))) (m3 : PySem.W.nsIn K mainGlobals "MOST_REGISTERS" = some (some (.int 3 t3))) (m4 : PySem.W.nsIn K mainGlobals "MOST_NEEDS" = some (some (.int 7 t4))) (m5 : PySem.W.nsIn K mainGlobals "MOST_TURNS" = some (some (.int 6 t5)))
    (nC : PySem.W.nsIn K mainGlobals "Isle" = some (some (.ref C))) (nD : PySem.W.nsIn K mainGlobals "DuskError" = some (some (.ref cD)))
    (fN : CFac K "InvalidName" ["value"] B0 "ValueError.__new__" tlV cN) (gN : IFac K cN "InvalidName.__init__" iInvalidName)
    (fI : CFac K "InvalidIsle" ["which", "part"] B0 "ValueError.__new__" tlV cI) (gI : IFac K cI "InvalidIsle.__init__" iInvalidIsle)
    (fP : CFac K "NoPart" ["which"] B1 "LookupError.__new__" tlL cP) (gP : IFac K cP "NoPart.__init__" iNoPart)
    (q0 : clq K C ["_parts"] = true) (cr : crq K C = true) (vS : VFac K C "SLEEP" aS) (xS : Tx K aS rowSl) (vW : VFac K C "WAKE" aW) (xW : Tx K aW rowWk) (sq : stq K C cP cN cI cD = true)
    (ene : PySem.W.findIn K (.ref C) "__ne__" = some (some (.builtin "object.__ne__"))) (eob : PySem.W.mroIn K C (.type "object") = some true) (fE : CFn K C "__eq__" "Isle.__eq__" sIsleEq) (fR : CFn K C "__repr__" "Isle.__repr__" sIsleRe) (fCh : CFn K C "changed" "Isle.changed" sChanged)
    (i0 : CII K C e1 e2 eS eW e3) (fLm : LFac K "_law_refused_right" sRefused c Pt0)
    (p_name : PFac K C "name" "Isle.name" sP_name) (p_kept : PFac K C "kept" "Isle.kept" sP_kept) (p_plain : PFac K C "plain" "Isle.plain" sP_plain) (p_leash : PFac K C "leash" "Isle.leash" sP_leash) (p_needs : PFac K C "needs" "Isle.needs" sP_needs) (p_sleeps : PFac K C "sleeps" "Isle.sleeps" sP_sleeps) (p_sleep : PFac K C "sleep" "Isle.sleep" sP_sleep) (p_wake : PFac K C "wake" "Isle.wake" sP_wake) (p_turns : PFac K C "turns" "Isle.turns" sP_turns) (p_size : PFac K C "size" "Isle.size" sSize)
    (zmin : PySem.W.nsIn K mainGlobals "min" = some none) (zrev : PySem.W.nsIn K mainGlobals "reversed" = some none) (z0 : PySem.W.nsIn K mainGlobals "isinstance" = some none) (z1 : PySem.W.nsIn K mainGlobals "int" = some none) (z2 : PySem.W.nsIn K mainGlobals "bool" = some none) (z3 : PySem.W.nsIn K mainGlobals "str" = some none) (z4 : PySem.W.nsIn K mainGlobals "tuple" = some none) (z5 : PySem.W.nsIn K mainGlobals "list" = some none) (z6 : PySem.W.nsIn K mainGlobals "len" = some none) (z7 : PySem.W.nsIn K mainGlobals "all" = some none) (z8 : PySem.W.nsIn K mainGlobals "set" = some none) (z9 : PySem.W.nsIn K mainGlobals "range" = some none) (z10 : PySem.W.nsIn K mainGlobals "abs" = some none) (z11 : PySem.W.nsIn K mainGlobals "repr" = some none) (z12 : PySem.W.nsIn K mainGlobals "enumerate" = some none) (z13 : PySem.W.nsIn K mainGlobals "sorted" = some none)
    (f0 : Fac K "is_integer" sInt) (f1 : Fac K "is_name" sNam) (f2 : Fac K "is_own_name" sOwn) (f3 : Fac K "is_name_row" sRow) (f4 : Fac K "is_lead" sLead) (f5 : Fac K "is_words" sWords) (f6 : Fac K "_wrong_part" sWrong) (f7 : Fac K "_is_amount" sAmount) (f8 : Fac K "_are_turns" sAreTurns) (f9 : Fac K "_is_turn" sIsTurn) (f10 : Fac K "_law_pen_of" sPenOf) (f11 : Fac K "_law_draw" sDraw) (f12 : Fac K "_law_pick" sPick) (f13 : Fac K "_law_different" sDifferent) (f14 : Fac K "_law_fresh" sFresh) (f15 : Fac K "_law_made" sMade) (f16 : Fac K "_law_shown" sShown) (f17 : Fac K "_law_swapped" sSwapped) (f18 : Fac K "_law_heard" sHeard) (f19 : Fac K "_law_are_two_right" sTwo) (fL : Fac K "law" sLaw) :
    ∃ (c P : Addr) (fd : FuncData), LamAt K mg "_law_refused_right" c P ∧ (∀ (s : Shared) (v : Value), BindsTo s fd ⟨[v], []⟩ [("_law_script", v)]) ∧ ∀ base : Heap, K.In base → base.Ns mainGlobals mg → TabB base mg c P → FnG l.prog w K mg base CX0 12 fa fd ["_law_script"] (spLaw0 K P) := by
  letI TT : Tb := ⟨[(Pt0, qLam)]⟩
  have B : Bt mg := ⟨PySem.W.mg_none_of X G z0, PySem.W.mg_none_of X G z1, PySem.W.mg_none_of X G z2, PySem.W.mg_none_of X G z3, PySem.W.mg_none_of X G z4, PySem.W.mg_none_of X G z5, PySem.W.mg_none_of X G z6, PySem.W.mg_none_of X G z7, PySem.W.mg_none_of X G z8, PySem.W.mg_none_of X G z9, PySem.W.mg_none_of X G z10, PySem.W.mg_none_of X G z11, PySem.W.mg_none_of X G z12, PySem.W.mg_none_of X G z13⟩
  obtain ⟨d0⟩ := f0.df (ps := ["value"]) X G fun _ _ _ _ _ _ us hl => match us, hl with | [_], _ => rfl
  obtain ⟨d1⟩ := f1.df (ps := ["value"]) X G fun _ _ _ _ _ _ us hl => match us, hl with | [_], _ => rfl
  obtain ⟨d2⟩ := f2.df (ps := ["value"]) X G fun _ _ _ _ _ _ us hl => match us, hl with | [_], _ => rfl
  obtain ⟨d3⟩ := f3.df (ps := ["value", "most"]) X G fun _ _ _ _ _ _ us hl => match us, hl with | [_, _], _ => rfl
  obtain ⟨d4⟩ := f4.df (ps := ["value"]) X G fun _ _ _ _ _ _ us hl => match us, hl with | [_], _ => rfl
  obtain ⟨d5⟩ := f5.df (ps := ["value", "words"]) X G fun _ _ _ _ _ _ us hl => match us, hl with | [_, _], _ => rfl
  obtain ⟨d6⟩ := f6.df (ps := ["parts"]) X G fun _ _ _ _ _ _ us hl => match us, hl with | [_], _ => rfl
  obtain ⟨d7⟩ := f7.df (ps := ["value"]) X G fun _ _ _ _ _ _ us hl => match us, hl with | [_], _ => rfl
  obtain ⟨d8⟩ := f8.df (ps := ["value", "sleep", "wake"]) X G fun _ _ _ _ _ _ us hl => match us, hl with | [_, _, _], _ => rfl
  obtain ⟨d9⟩ := f9.df (ps := ["value", "sleep", "wake"]) X G fun _ _ _ _ _ _ us hl => match us, hl with | [_, _, _], _ => rfl
  obtain ⟨d10⟩ := f10.df (ps := ["_law_script"]) X G fun _ _ _ _ _ _ us hl => match us, hl with | [_], _ => rfl
  obtain ⟨d11⟩ := f11.df (ps := ["_law_pen", "_law_many"]) X G fun _ _ _ _ _ _ us hl => match us, hl with | [_, _], _ => rfl
  obtain ⟨d12⟩ := f12.df (ps := ["_law_pen", "_law_some"]) X G fun _ _ _ _ _ _ us hl => match us, hl with | [_, _], _ => rfl
  obtain ⟨d13⟩ := f13.df (ps := ["_law_pen", "_law_menu", "_law_many"]) X G fun _ _ _ _ _ _ us hl => match us, hl with | [_, _, _], _ => rfl
  obtain ⟨d14⟩ := f14.df (ps := ["_law_pen", "_law_at"]) X G fun _ _ _ _ _ _ us hl => match us, hl with | [_, _], _ => rfl
  obtain ⟨d15⟩ := f15.df (ps := ["_law_some"]) X G fun _ _ _ _ _ _ us hl => match us, hl with | [_], _ => rfl
  obtain ⟨d16⟩ := f16.df (ps := ["_law_isle"]) X G fun _ _ _ _ _ _ us hl => match us, hl with | [_], _ => rfl
  obtain ⟨d17⟩ := f17.df (ps := ["_law_isle", "_law_at", "_law_one"]) X G fun _ _ _ _ _ _ us hl => match us, hl with | [_, _, _], _ => rfl
  obtain ⟨d18⟩ := f18.df (ps := ["_law_ask"]) X G fun _ _ _ _ _ _ us hl => match us, hl with | [_], _ => rfl
  obtain ⟨d19⟩ := f19.df (ps := ["_law_pen"]) X G fun _ _ _ _ _ _ us hl => match us, hl with | [_], _ => rfl
  obtain ⟨dR, fR1, lamAt⟩ := fLm.df (ps := ["_law_pen", "_law_isle"]) X G fun _ _ _ _ _ _ us hl => match us, hl with | [_, _], _ => rfl
  have T0 := inst_mk q0 gq
  unfold stq at sq
  simp only [List.all_cons, List.all_nil, Bool.and_true, Bool.and_eq_true, beq_iff_eq] at sq
  obtain ⟨⟨kNN, kNI, kIN, kII⟩, ⟨xPP, xNP, xIP, xND, xID⟩, kCC, kLC, kSC, nfC, nfL, nfS⟩ := sq
  have T : IsleK K mg C := ⟨T0.c, T0.no _ (by simp), PySem.W.mg_of X G nC, .type "type", aS, aW, cr_mk cr, vS.cv, vW.cv, xS.sqT (by decide), xW.sqT (by decide)⟩
  have S : IsI K C := ⟨T0.i, kCC, kLC, kSC, nfC, nfL, nfS⟩
  have erN := CFac.er (k := 0) fN X G gq
  have inN := iniInvalidName erN gN
  have erI := CFac.er (k := 0) fI X G gq
  have inI := iniInvalidIsle erI gI
  have erP := CFac.er (k := 1) fP X G gq
  have inP := iniNoPart erP gP
  have eX : ExP K mg cP cN cI cD := ⟨erP.g, erN.g, erI.g, PySem.W.mg_of X G nD, erP.X, erN.X, erI.X, erP.no _ (by simp), erN.no _ (by simp), erI.no _ (by simp), erI.no _ (by simp), erN.I, erI.I, kNN, kNI, kIN, kII, xPP, xNP, xIP, xND, xID⟩
  have Gt : Gts K C mg := by
    refine ⟨?_, ?_, ?_, ?_, ?_, ?_, ?_, ?_, ?_, ?_⟩
    · obtain ⟨p, g, fd, h1, h2, F⟩ := p_name.get fun _ _ _ _ _ _ us hl => match us, hl with | [_], _ => rfl
      exact ⟨p, g, fd, h1, h2, fun P w base => ok_get F scP_name rfl rfl T⟩
    · obtain ⟨p, g, fd, h1, h2, F⟩ := p_kept.get fun _ _ _ _ _ _ us hl => match us, hl with | [_], _ => rfl
      exact ⟨p, g, fd, h1, h2, fun P w base => ok_get F scP_kept rfl rfl T⟩
    · obtain ⟨p, g, fd, h1, h2, F⟩ := p_plain.get fun _ _ _ _ _ _ us hl => match us, hl with | [_], _ => rfl
      exact ⟨p, g, fd, h1, h2, fun P w base => ok_get F scP_plain rfl rfl T⟩
    · obtain ⟨p, g, fd, h1, h2, F⟩ := p_leash.get fun _ _ _ _ _ _ us hl => match us, hl with | [_], _ => rfl
      exact ⟨p, g, fd, h1, h2, fun P w base => ok_get F scP_leash rfl rfl T⟩
    · obtain ⟨p, g, fd, h1, h2, F⟩ := p_needs.get fun _ _ _ _ _ _ us hl => match us, hl with | [_], _ => rfl
      exact ⟨p, g, fd, h1, h2, fun P w base => ok_get F scP_needs rfl rfl T⟩
    · obtain ⟨p, g, fd, h1, h2, F⟩ := p_sleeps.get fun _ _ _ _ _ _ us hl => match us, hl with | [_], _ => rfl
      exact ⟨p, g, fd, h1, h2, fun P w base => ok_get F scP_sleeps rfl rfl T⟩
    · obtain ⟨p, g, fd, h1, h2, F⟩ := p_sleep.get fun _ _ _ _ _ _ us hl => match us, hl with | [_], _ => rfl
      exact ⟨p, g, fd, h1, h2, fun P w base => ok_get F scP_sleep rfl rfl T⟩
    · obtain ⟨p, g, fd, h1, h2, F⟩ := p_wake.get fun _ _ _ _ _ _ us hl => match us, hl with | [_], _ => rfl
      exact ⟨p, g, fd, h1, h2, fun P w base => ok_get F scP_wake rfl rfl T⟩
    · obtain ⟨p, g, fd, h1, h2, F⟩ := p_turns.get fun _ _ _ _ _ _ us hl => match us, hl with | [_], _ => rfl
      exact ⟨p, g, fd, h1, h2, fun P w base => ok_get F scP_turns rfl rfl T⟩
    · obtain ⟨p, g, fd, h1, h2, F⟩ := p_size.get fun _ _ _ _ _ _ us hl => match us, hl with | [_], _ => rfl
      exact ⟨p, g, fd, h1, h2, fun P w base => ok_size F T⟩
  have aI : ∀ (P : Program) (w : World) (base : Heap), FnOk P w K mg base CX0 1 d0.f d0.fd ["value"] (spP K WInt) := fun P w base => ok_int d0.F B
  have aN : ∀ (P : Program) (w : World) (base : Heap), FnOk P w K mg base CX0 1 d1.f d1.fd ["value"] (spP K WNam) := fun P w base => ok_nam d1.F B (PySem.W.mg_of X G m1)
  have aO : ∀ (P : Program) (w : World) (base : Heap), FnOk P w K mg base CX0 2 d2.f d2.fd ["value"] (spP K WOwn) := fun P w base => ok_own d2.F d1.F d1.b d1.g (aN P w base)
  have aR : ∀ (P : Program) (w : World) (base : Heap), FnOk P w K mg base CX0 3 d3.f d3.fd ["value", "most"] (spP K WRow) := fun P w base => ok_row d3.F d2.F d2.b d2.g B (aO P w base)
  have aL : ∀ (P : Program) (w : World) (base : Heap), FnOk P w K mg base CX0 4 d4.f d4.fd ["value"] (spP K WLead) := fun P w base => ok_lead d4.F d3.F d3.b d3.g (PySem.W.mg_of X G m2) (aR P w base)
  have aWd : ∀ (P : Program) (w : World) (base : Heap), FnOk P w K mg base CX0 1 d5.f d5.fd ["value", "words"] (spP K WWords) := fun P w base => ok_words d5.F B
  have aT : ∀ (P : Program) (w : World) (base : Heap), FnOk P w K mg base CX0 2 d9.f d9.fd ["value", "sleep", "wake"] (spP K WTurn) := fun P w base => ok_isTurn d9.F B d0 (aI P w base)
  have aTs : ∀ (P : Program) (w : World) (base : Heap), FnOk P w K mg base CX0 3 d8.f d8.fd ["value", "sleep", "wake"] (spP K WTurns) := fun P w base => ok_areTurns d8.F B d9 (aT P w base) (PySem.W.mg_of X G m5)
  have aA : ∀ (P : Program) (w : World) (base : Heap), FnOk P w K mg base CX0 2 d7.f d7.fd ["value"] (spP K WAmount) := fun P w base => ok_amount d7.F d0 (PySem.W.mg_of X G m3) (aI P w base)
  have aW : ∀ (P : Program) (w : World) (base : Heap), FnOk P w K mg base CX0 5 d6.f d6.fd ["parts"] (spP K WWrong) := fun P w base => ok_wrong d6.F B T d7 ((aA P w base).mono (by decide)) d4 ((aL P w base).mono (by decide)) d3 ((aR P w base).mono (by decide)) d5 ((aWd P w base).mono (by decide)) d8 ((aTs P w base).mono (by decide)) (PySem.W.mg_of X G m4)
  have MI : (MkD K mg C cN cI [.int 1, .int 1, .ref e1, .ref e2, .bl true, .ref eS, .ref eW, .ref e3] ∧ MkA K mg C cN cI ∧ MkI K mg C cN cI kIsle gApp ∧ MkI K mg C cN cI ["turns"] (gS [.int 1, .int 1, .ref e1, .ref e2, .bl true, .ref eS, .ref eW, .ref e3] 7) ∧ MkI K mg C cN cI ["leash"] (gS [.int 1, .int 1, .ref e1, .ref e2, .bl true, .ref eS, .ref eW, .ref e3] 2) ∧ MkI K mg C cN cI ["needs"] (gS [.int 1, .int 1, .ref e1, .ref e2, .bl true, .ref eS, .ref eW, .ref e3] 3) ∧ MkI K mg C cN cI ["kept"] (gS [.int 1, .int 1, .ref e1, .ref e2, .bl true, .ref eS, .ref eW, .ref e3] 0)) ∧ ∀ H, DXs K H [.int 1, .int 1, .ref e1, .ref e2, .bl true, .ref eS, .ref eW, .ref e3] dflD := by
    cases i0 with
    | @mk f D t1 t2 od an sl dc pm cd ct i l cc n1 n2 n3 n4 n5 n6 n7 n8 x1 x2 x6 x7 x8 =>
      have F := fun_mk (st := sIsleI) l cc (keep_fn l)
      have okI := fun (P : Program) (w : World) (base : Heap) => ok_isleI (base := base) (k := 3) F B T d2 ((aO P w base).mono (by decide)) d6 (aW P w base) erN inN erI inI
      have M : Mk K C f := ⟨T0.makes, i, isFn_of l, T0.kp⟩
      have gI := PySem.W.mg_of X G nC
      have hks : ∀ q ∈ ([("kept", .int 1 t1), ("plain", .int 1 t2), ("leash", .ref e1), ("needs", .ref e2), ("sleeps", .bool true), ("sleep", .ref eS), ("wake", .ref eW), ("turns", .ref e3)] : List (Str × Value)), PySem.W.nsIn K D q.1 = some (some q.2) := fun q hq => by
        simp only [List.mem_cons, List.not_mem_nil, or_false] at hq
        rcases hq with rfl | rfl | rfl | rfl | rfl | rfl | rfl | rfl
        · exact n1
        · exact n2
        · exact n3
        · exact n4
        · exact n5
        · exact n6
        · exact n7
        · exact n8
      refine ⟨⟨⟨_, _, [.int 1 t1, .int 1 t2, .ref e1, .ref e2, .bool true, .ref eS, .ref eW, .ref e3], M, gI, .cons (show L2.RelV (.int 1) (.int 1 t1) from ⟨t1, rfl⟩) (.cons (show L2.RelV (.int 1) (.int 1 t2) from ⟨t2, rfl⟩) (.cons (show L2.RelV (.ref e1) (.ref e1) from rfl) (.cons (show L2.RelV (.ref e2) (.ref e2) from rfl) (.cons (show L2.RelV (.bl true) (.bool true) from rfl) (.cons (show L2.RelV (.ref eS) (.ref eS) from rfl) (.cons (show L2.RelV (.ref eW) (.ref eW) from rfl) (.cons (show L2.RelV (.ref e3) (.ref e3) from rfl) (.nil)))))))), fun s us hK hl => ?b0, okI⟩, ⟨_, _, fun us ws => us ++ ws, M, gI, ⟨fun s us ws _ h1 h2 => ?b1, fun r rz => r.append rz⟩, okI⟩, ⟨_, _, fun us ws => us ++ ws, M, gI, ⟨fun s us ws _ h1 h2 => ?b2, fun r rz => r.append rz⟩, okI⟩,
        ⟨_, _, fun us ws => us ++ (([.int 1 t1, .int 1 t2, .ref e1, .ref e2, .bool true, .ref eS, .ref eW] : List Value) ++ (ws ++ ([] : List Value))), M, gI, ⟨fun s us ws hK h1 h2 => ?c0, fun r rz => r.append ((show Vals ([.int 1, .int 1, .ref e1, .ref e2, .bl true, .ref eS, .ref eW] : List V) ([.int 1 t1, .int 1 t2, .ref e1, .ref e2, .bool true, .ref eS, .ref eW] : List Value) from .cons (show L2.RelV (.int 1) (.int 1 t1) from ⟨t1, rfl⟩) (.cons (show L2.RelV (.int 1) (.int 1 t2) from ⟨t2, rfl⟩) (.cons (show L2.RelV (.ref e1) (.ref e1) from rfl) (.cons (show L2.RelV (.ref e2) (.ref e2) from rfl) (.cons (show L2.RelV (.bl true) (.bool true) from rfl) (.cons (show L2.RelV (.ref eS) (.ref eS) from rfl) (.cons (show L2.RelV (.ref eW) (.ref eW) from rfl) (.nil)))))))).append (rz.append (show Vals ([] : List V) ([] : List Value) from .nil)))⟩, okI⟩,
        ⟨_, _, fun us ws => us ++ (([.int 1 t1, .int 1 t2] : List Value) ++ (ws ++ ([.ref e2, .bool true, .ref eS, .ref eW, .ref e3] : List Value))), M, gI, ⟨fun s us ws hK h1 h2 => ?c1, fun r rz => r.append ((show Vals ([.int 1, .int 1] : List V) ([.int 1 t1, .int 1 t2] : List Value) from .cons (show L2.RelV (.int 1) (.int 1 t1) from ⟨t1, rfl⟩) (.cons (show L2.RelV (.int 1) (.int 1 t2) from ⟨t2, rfl⟩) (.nil))).append (rz.append (show Vals ([.ref e2, .bl true, .ref eS, .ref eW, .ref e3] : List V) ([.ref e2, .bool true, .ref eS, .ref eW, .ref e3] : List Value) from .cons (show L2.RelV (.ref e2) (.ref e2) from rfl) (.cons (show L2.RelV (.bl true) (.bool true) from rfl) (.cons (show L2.RelV (.ref eS) (.ref eS) from rfl) (.cons (show L2.RelV (.ref eW) (.ref eW) from rfl) (.cons (show L2.RelV (.ref e3) (.ref e3) from rfl) (.nil))))))))⟩, okI⟩,
        ⟨_, _, fun us ws => us ++ (([.int 1 t1, .int 1 t2, .ref e1] : List Value) ++ (ws ++ ([.bool true, .ref eS, .ref eW, .ref e3] : List Value))), M, gI, ⟨fun s us ws hK h1 h2 => ?c2, fun r rz => r.append ((show Vals ([.int 1, .int 1, .ref e1] : List V) ([.int 1 t1, .int 1 t2, .ref e1] : List Value) from .cons (show L2.RelV (.int 1) (.int 1 t1) from ⟨t1, rfl⟩) (.cons (show L2.RelV (.int 1) (.int 1 t2) from ⟨t2, rfl⟩) (.cons (show L2.RelV (.ref e1) (.ref e1) from rfl) (.nil)))).append (rz.append (show Vals ([.bl true, .ref eS, .ref eW, .ref e3] : List V) ([.bool true, .ref eS, .ref eW, .ref e3] : List Value) from .cons (show L2.RelV (.bl true) (.bool true) from rfl) (.cons (show L2.RelV (.ref eS) (.ref eS) from rfl) (.cons (show L2.RelV (.ref eW) (.ref eW) from rfl) (.cons (show L2.RelV (.ref e3) (.ref e3) from rfl) (.nil)))))))⟩, okI⟩,
        ⟨_, _, fun us ws => us ++ (([] : List Value) ++ (ws ++ ([.int 1 t2, .ref e1, .ref e2, .bool true, .ref eS, .ref eW, .ref e3] : List Value))), M, gI, ⟨fun s us ws hK h1 h2 => ?c3, fun r rz => r.append ((show Vals ([] : List V) ([] : List Value) from .nil).append (rz.append (show Vals ([.int 1, .ref e1, .ref e2, .bl true, .ref eS, .ref eW, .ref e3] : List V) ([.int 1 t2, .ref e1, .ref e2, .bool true, .ref eS, .ref eW, .ref e3] : List Value) from .cons (show L2.RelV (.int 1) (.int 1 t2) from ⟨t2, rfl⟩) (.cons (show L2.RelV (.ref e1) (.ref e1) from rfl) (.cons (show L2.RelV (.ref e2) (.ref e2) from rfl) (.cons (show L2.RelV (.bl true) (.bool true) from rfl) (.cons (show L2.RelV (.ref eS) (.ref eS) from rfl) (.cons (show L2.RelV (.ref eW) (.ref eW) from rfl) (.cons (show L2.RelV (.ref e3) (.ref e3) from rfl) (.nil))))))))))⟩, okI⟩⟩, fun H => ?e⟩
      case b0 =>
        have h2 : us.length = 2 := by
          have e : us.length + 8 = 10 := (List.length_append (as := us)).symm.trans hl
          omega
        match us, h2 with
        | [_, _], _ => exact BindsTo.of_looks fun M => KwChain.looks (D := D) (l := [("kept", .int 1 t1), ("plain", .int 1 t2), ("leash", .ref e1), ("needs", .ref e2), ("sleeps", .bool true), ("sleep", .ref eS), ("wake", .ref eW), ("turns", .ref e3)]) hK hks ⟨_, _, _, _, _, _, rfl, rfl, ⟨_, _, _, _, _, _, rfl, rfl, ⟨_, _, _, _, _, _, rfl, rfl, ⟨_, _, _, _, _, _, rfl, rfl, ⟨_, _, _, _, _, _, rfl, rfl, ⟨_, _, _, _, _, _, rfl, rfl, ⟨_, _, _, _, _, _, rfl, rfl, ⟨_, _, _, _, _, _, rfl, rfl, rfl⟩⟩⟩⟩⟩⟩⟩⟩
      case b1 =>
        match us, ws, h1, h2 with
        | [_], [_, _, _, _, _, _, _, _, _], _, _ => exact .of_eq rfl
      case b2 =>
        match us, ws, h1, h2 with
        | [_, _], [_, _, _, _, _, _, _, _], _, _ => exact .of_eq rfl
      case c0 =>
        have hk2 : ∀ q ∈ ([("kept", .int 1 t1), ("plain", .int 1 t2), ("leash", .ref e1), ("needs", .ref e2), ("sleeps", .bool true), ("sleep", .ref eS), ("wake", .ref eW)] : List (Str × Value)), PySem.W.nsIn K D q.1 = some (some q.2) := fun q hq => by
          simp only [List.mem_cons, List.not_mem_nil, or_false] at hq
          rcases hq with rfl | rfl | rfl | rfl | rfl | rfl | rfl
          · exact n1
          · exact n2
          · exact n3
          · exact n4
          · exact n5
          · exact n6
          · exact n7
        match us, ws, h1, h2 with
        | [_, _], [_], _, _ => exact BindsTo.of_looks fun M => KwChain.looks (D := D) (l := [("kept", .int 1 t1), ("plain", .int 1 t2), ("leash", .ref e1), ("needs", .ref e2), ("sleeps", .bool true), ("sleep", .ref eS), ("wake", .ref eW)]) hK hk2 ⟨_, _, _, _, _, _, rfl, rfl, ⟨_, _, _, _, _, _, rfl, rfl, ⟨_, _, _, _, _, _, rfl, rfl, ⟨_, _, _, _, _, _, rfl, rfl, ⟨_, _, _, _, _, _, rfl, rfl, ⟨_, _, _, _, _, _, rfl, rfl, ⟨_, _, _, _, _, _, rfl, rfl, rfl⟩⟩⟩⟩⟩⟩⟩
      case c1 =>
        have hk2 : ∀ q ∈ ([("kept", .int 1 t1), ("plain", .int 1 t2), ("needs", .ref e2), ("sleeps", .bool true), ("sleep", .ref eS), ("wake", .ref eW), ("turns", .ref e3)] : List (Str × Value)), PySem.W.nsIn K D q.1 = some (some q.2) := fun q hq => by
          simp only [List.mem_cons, List.not_mem_nil, or_false] at hq
          rcases hq with rfl | rfl | rfl | rfl | rfl | rfl | rfl
          · exact n1
          · exact n2
          · exact n4
          · exact n5
          · exact n6
          · exact n7
          · exact n8
        match us, ws, h1, h2 with
        | [_, _], [_], _, _ => exact BindsTo.of_looks fun M => KwChain.looks (D := D) (l := [("kept", .int 1 t1), ("plain", .int 1 t2), ("needs", .ref e2), ("sleeps", .bool true), ("sleep", .ref eS), ("wake", .ref eW), ("turns", .ref e3)]) hK hk2 ⟨_, _, _, _, _, _, rfl, rfl, ⟨_, _, _, _, _, _, rfl, rfl, ⟨_, _, _, _, _, _, rfl, rfl, ⟨_, _, _, _, _, _, rfl, rfl, ⟨_, _, _, _, _, _, rfl, rfl, ⟨_, _, _, _, _, _, rfl, rfl, ⟨_, _, _, _, _, _, rfl, rfl, rfl⟩⟩⟩⟩⟩⟩⟩
      case c2 =>
        have hk2 : ∀ q ∈ ([("kept", .int 1 t1), ("plain", .int 1 t2), ("leash", .ref e1), ("sleeps", .bool true), ("sleep", .ref eS), ("wake", .ref eW), ("turns", .ref e3)] : List (Str × Value)), PySem.W.nsIn K D q.1 = some (some q.2) := fun q hq => by
          simp only [List.mem_cons, List.not_mem_nil, or_false] at hq
          rcases hq with rfl | rfl | rfl | rfl | rfl | rfl | rfl
          · exact n1
          · exact n2
          · exact n3
          · exact n5
          · exact n6
          · exact n7
          · exact n8
        match us, ws, h1, h2 with
        | [_, _], [_], _, _ => exact BindsTo.of_looks fun M => KwChain.looks (D := D) (l := [("kept", .int 1 t1), ("plain", .int 1 t2), ("leash", .ref e1), ("sleeps", .bool true), ("sleep", .ref eS), ("wake", .ref eW), ("turns", .ref e3)]) hK hk2 ⟨_, _, _, _, _, _, rfl, rfl, ⟨_, _, _, _, _, _, rfl, rfl, ⟨_, _, _, _, _, _, rfl, rfl, ⟨_, _, _, _, _, _, rfl, rfl, ⟨_, _, _, _, _, _, rfl, rfl, ⟨_, _, _, _, _, _, rfl, rfl, ⟨_, _, _, _, _, _, rfl, rfl, rfl⟩⟩⟩⟩⟩⟩⟩
      case c3 =>
        have hk2 : ∀ q ∈ ([("plain", .int 1 t2), ("leash", .ref e1), ("needs", .ref e2), ("sleeps", .bool true), ("sleep", .ref eS), ("wake", .ref eW), ("turns", .ref e3)] : List (Str × Value)), PySem.W.nsIn K D q.1 = some (some q.2) := fun q hq => by
          simp only [List.mem_cons, List.not_mem_nil, or_false] at hq
          rcases hq with rfl | rfl | rfl | rfl | rfl | rfl | rfl
          · exact n2
          · exact n3
          · exact n4
          · exact n5
          · exact n6
          · exact n7
          · exact n8
        match us, ws, h1, h2 with
        | [_, _], [_], _, _ => exact BindsTo.of_looks fun M => KwChain.looks (D := D) (l := [("plain", .int 1 t2), ("leash", .ref e1), ("needs", .ref e2), ("sleeps", .bool true), ("sleep", .ref eS), ("wake", .ref eW), ("turns", .ref e3)]) hK hk2 ⟨_, _, _, _, _, _, rfl, rfl, ⟨_, _, _, _, _, _, rfl, rfl, ⟨_, _, _, _, _, _, rfl, rfl, ⟨_, _, _, _, _, _, rfl, rfl, ⟨_, _, _, _, _, _, rfl, rfl, ⟨_, _, _, _, _, _, rfl, rfl, ⟨_, _, _, _, _, _, rfl, rfl, rfl⟩⟩⟩⟩⟩⟩⟩
      case e => exact .cons (.int _) (.cons (.int _) (.cons (x1.dx (by decide) H) (.cons (x2.dx (by decide) H) (.cons (.bl _) (.cons (x6.dx (by decide) H) (.cons (x7.dx (by decide) H) (.cons (x8.dx (by decide) H) .nil)))))))
  obtain ⟨⟨mk0, mA, mkI, mkT, mkL, mkN, mkK⟩, em⟩ := MI
  have MO : (∀ k ∈ kAll, MoC K mg C cN cI cP [k]) ∧ (∀ ks ∈ ksRef, MoC K mg C cN cI cP ks) ∧ MoC K mg C cN cI cP ["needs", "plain", "name"] ∧ MoC K mg C cN cI cP [] := by
    cases fCh with
    | @mk f od an sl kV dc pm cd ct i l cc =>
      have M := fun (ks : List Str) (h1 : ks.Nodup) (h2 : ks.length ≤ 15) hb => (⟨⟨f, ⟨i, isFn_of l, keep_fn l⟩, fun P w base => ok_changed (ks := ks) l cc B T mA erP inP h1 h2 hb⟩⟩ : MoC K mg C cN cI cP ks)
      refine ⟨fun k hk => ?_, fun ks hk => ?_, ?_, ?_⟩
      · simp only [kAll, List.mem_cons, List.not_mem_nil, or_false] at hk
        rcases hk with rfl | rfl | rfl | rfl | rfl | rfl | rfl | rfl | rfl
        · exact M ["name"] (by decide) (by decide) fun us ws h1 h2 => match us, ws, h1, h2 with | [_], [_], _, _ => rfl
        · exact M ["kept"] (by decide) (by decide) fun us ws h1 h2 => match us, ws, h1, h2 with | [_], [_], _, _ => rfl
        · exact M ["plain"] (by decide) (by decide) fun us ws h1 h2 => match us, ws, h1, h2 with | [_], [_], _, _ => rfl
        · exact M ["leash"] (by decide) (by decide) fun us ws h1 h2 => match us, ws, h1, h2 with | [_], [_], _, _ => rfl
        · exact M ["needs"] (by decide) (by decide) fun us ws h1 h2 => match us, ws, h1, h2 with | [_], [_], _, _ => rfl
        · exact M ["sleeps"] (by decide) (by decide) fun us ws h1 h2 => match us, ws, h1, h2 with | [_], [_], _, _ => rfl
        · exact M ["sleep"] (by decide) (by decide) fun us ws h1 h2 => match us, ws, h1, h2 with | [_], [_], _, _ => rfl
        · exact M ["wake"] (by decide) (by decide) fun us ws h1 h2 => match us, ws, h1, h2 with | [_], [_], _, _ => rfl
        · exact M ["turns"] (by decide) (by decide) fun us ws h1 h2 => match us, ws, h1, h2 with | [_], [_], _, _ => rfl
      · simp only [ksRef, List.mem_cons, List.not_mem_nil, or_false] at hk
        rcases hk with rfl | rfl | rfl | rfl | rfl | rfl | rfl | rfl | rfl
        · exact M ["name", "kept"] (by decide) (by decide) fun us ws h1 h2 => match us, ws, h1, h2 with | [_], [_, _], _, _ => rfl
        · exact M ["turns", "leash"] (by decide) (by decide) fun us ws h1 h2 => match us, ws, h1, h2 with | [_], [_, _], _, _ => rfl
        · exact M ["kept", "plain", "needs"] (by decide) (by decide) fun us ws h1 h2 => match us, ws, h1, h2 with | [_], [_, _, _], _, _ => rfl
        · exact M ["name", "sleeps"] (by decide) (by decide) fun us ws h1 h2 => match us, ws, h1, h2 with | [_], [_, _], _, _ => rfl
        · exact M ["size", "kept"] (by decide) (by decide) fun us ws h1 h2 => match us, ws, h1, h2 with | [_], [_, _], _, _ => rfl
        · exact M ["sleep"] (by decide) (by decide) fun us ws h1 h2 => match us, ws, h1, h2 with | [_], [_], _, _ => rfl
        · exact M ["name"] (by decide) (by decide) fun us ws h1 h2 => match us, ws, h1, h2 with | [_], [_], _, _ => rfl
        · exact M ["plain"] (by decide) (by decide) fun us ws h1 h2 => match us, ws, h1, h2 with | [_], [_], _, _ => rfl
        · exact M ["zeta", "name", "alpha"] (by decide) (by decide) fun us ws h1 h2 => match us, ws, h1, h2 with | [_], [_, _, _], _, _ => rfl
      · exact M ["needs", "plain", "name"] (by decide) (by decide) fun us ws h1 h2 => match us, ws, h1, h2 with | [_], [_, _, _], _, _ => rfl
      · exact M [] (by decide) (by decide) fun us ws h1 h2 => match us, ws, h1, h2 with | [_], [], _, _ => rfl
  obtain ⟨mo, moR, mo3, mo0⟩ := MO
  have mE : EqI K mg C := by
    cases fE with
    | @mk f od an sl kV dc pm cd ct i l cc =>
      have F := fun_mk (st := sIsleEq) l cc (keep_fn l)
      exact ⟨_, _, ⟨i, isFn_of l, ene, eob⟩, F.binds (fun _ _ _ _ _ _ us hl => match us, hl with | [_, _], _ => rfl), fun P w base => ok_isleEq F B T S⟩
  have mR : ReI K mg C := by
    cases fR with
    | @mk f od an sl kV dc pm cd ct i l cc =>
      have F := fun_mk (st := sIsleRe) l cc (keep_fn l)
      exact ⟨_, _, ⟨i, isFn_of l⟩, F.binds (fun _ _ _ _ _ _ us hl => match us, hl with | [_], _ => rfl), fun P w base => ok_isleRe F T⟩
  cases fL with
  | @mk f od an sl oc kV dc pm cd ct aL2 lL cL kL =>
    have e := hfa.symm.trans (PySem.W.mg_of X G aL2)
    cases e
    have FL := fun_mk (st := sLaw) lL cL kL
    refine ⟨c, Pt0, PySem.W.fnOf "law" "law" (defArgs sLaw) (defBody sLaw) (defScope sLaw) .none kV dc pm an cd ct, lamAt, fun s v => .of_eq rfl, fun base _ _ TB => ?_⟩
    show FnG l.prog w K mg base CX0 12 fa _ ["_law_script"] (@spLaw TT K)
    have y1 := ok_penOf (P := l.prog) (w := w) (base := base) d10.F B
    have y2 := ok_draw (P := l.prog) (w := w) (base := base) d11.F B
    have y3 := ok_pick d12.F d11.F d11.b d11.g B y2
    have y4 := ok_different d13.F B (PySem.W.mg_none_of X G zmin) d11 y2
    have y5 := ok_fresh d14.F d11 (y2.mono (show 1 ≤ 2 by decide)) d12 y3 d13 y4
    have y6 := ok_made (P := l.prog) (w := w) (base := base) d15.F mkI
    have y7 := ok_shown (P := l.prog) (w := w) (base := base) d16.F T Gt
    have y8 := ok_swapped (P := l.prog) (w := w) (base := base) d17.F T mo
    have y9 := ok_refused (P := l.prog) (w := w) (base := base)  fR1 B T Gt eX rfl TB moR em mkT mkL mkN mkK d18 d12 (y3.mono (by decide))
    have y10 := ok_two d19.F B (PySem.W.mg_none_of X G zrev) T Gt S mE mR d11 (y2.mono (by decide)) d14 (y5.mono (by decide)) d15 (y6.mono (by decide)) d16 (y7.mono (by decide))
    exact ok_law FL B T Gt S mE em mk0 mkT mo3 mo0 d10 (y1.mono (by decide)) d11 (y2.mono (by decide)) d14 (y5.mono (by decide)) d15 (y6.mono (by decide)) d16 (y7.mono (by decide)) d17 (y8.mono (by decide)) dR y9 d19 y10
end
end K04

open PySem PySem.W PyProof.Rows
set_option maxHeartbeats 0 in
theorem PySem.Challenge.cw_duskisles_k04_isles_changed_holds : PySem.Challenge.rw_duskisles_k04_isles_changed.Holds := by
  w_on; o_law; k_head; (case hw => w_witness2)
  k_fill
  refine DL.walk_ofGT (l := PySem.Challenge.rw_duskisles_k04_isles_changed) (n := 63) (k := 12) (x := "_law_script") (dn := "_law_refused_right") (sp := fun K P => K04.spLaw0 K P) rfl (by decide) rfl ⟨rfl, by decide, by decide⟩ (by decide +kernel) (fun w h Y => PySem.W.km_in_of Y) ?F (fun K P H a ns hl hP hS => ⟨a, ns, rfl, hS, hl, (fun t ht => by rw [List.mem_singleton.mp ht]; exact hP), fun _ => rfl⟩)
  case F =>
    intro w mg fa h KX G hmg
    refine' K04.all_mk KX G hmg ?Xgq ?Xm1 ?Xm2 ?Xm3 ?Xm4 ?Xm5 ?XnC ?XnD ?XfN ?XgN ?XfI ?XgI ?XfP ?XgP ?Xq0 ?Xcr ?XvS ?XxS ?XvW ?XxW ?Xsq ?Xene ?Xeob ?XfE ?XfR ?XfCh ?Xi0 ?XfLm ?Xp_name ?Xp_kept ?Xp_plain ?Xp_leash ?Xp_needs ?Xp_sleeps ?Xp_sleep ?Xp_wake ?Xp_turns ?Xp_size ?Xzmin ?Xzrev ?Xz0 ?Xz1 ?Xz2 ?Xz3 ?Xz4 ?Xz5 ?Xz6 ?Xz7 ?Xz8 ?Xz9 ?Xz10 ?Xz11 ?Xz12 ?Xz13 ?Xf0 ?Xf1 ?Xf2 ?Xf3 ?Xf4 ?Xf5 ?Xf6 ?Xf7 ?Xf8 ?Xf9 ?Xf10 ?Xf11 ?Xf12 ?Xf13 ?Xf14 ?Xf15 ?Xf16 ?Xf17 ?Xf18 ?Xf19 ?XfL
    (case Xgq => kernel_rfl)
    (case Xm1 => k_is)
    (case Xm2 => k_is)
    (case Xm3 => k_is)
    (case Xm4 => k_is)
    (case Xm5 => k_is)
    (case XnC => k_is)
    (case XnD => k_is)
    (case XfN => (refine' DL.CFac.mk ?xa ?xl ?xb; (case xa => k_is); (case xl => k_is); (case xb => kernel_rfl)))
    (case XgN => (refine' DL.IFac.mk ?xi ?xl ?xc; (case xi => k_is); (case xl => k_is); (case xc => k_is)))
    (case XfI => (refine' DL.CFac.mk ?xa ?xl ?xb; (case xa => k_is); (case xl => k_is); (case xb => kernel_rfl)))
    (case XgI => (refine' DL.IFac.mk ?xi ?xl ?xc; (case xi => k_is); (case xl => k_is); (case xc => k_is)))
    (case XfP => (refine' DL.CFac.mk ?xa ?xl ?xb; (case xa => k_is); (case xl => k_is); (case xb => kernel_rfl)))
    (case XgP => (refine' DL.IFac.mk ?xi ?xl ?xc; (case xi => k_is); (case xl => k_is); (case xc => k_is)))
    (case Xq0 => kernel_rfl); (case Xcr => kernel_rfl)
    (case XvS => (refine' DL.VFac.mk ?xi ?xf; (case xi => k_is); (case xf => kernel_rfl)))
    (case XvW => (refine' DL.VFac.mk ?xi ?xf; (case xi => k_is); (case xf => kernel_rfl)))
    (case XxS => (refine' DL.Tx.mk ?tl ?tz; (case tl => k_is); (case tz => rfl)))
    (case XxW => (refine' DL.Tx.mk ?tl ?tz; (case tl => k_is); (case tz => rfl)))
    (case Xsq => kernel_rfl); (case Xene => k_is); (case Xeob => kernel_rfl)
    (case XfE => (refine' K04.CFn.mk ?xi ?xl ?xc; (case xi => k_is); (case xl => k_is); (case xc => k_is)))
    (case XfR => (refine' K04.CFn.mk ?xi ?xl ?xc; (case xi => k_is); (case xl => k_is); (case xc => k_is)))
    (case XfCh => (refine' K04.CFn.mk ?xi ?xl ?xc; (case xi => k_is); (case xl => k_is); (case xc => k_is)))
    (case Xi0 => (refine' K04.CII.mk ?xi ?xl ?xc ?n1 ?n2 ?n3 ?n4 ?n5 ?n6 ?n7 ?n8 ?x1 ?x2 ?x6 ?x7 ?x8; (case xi => k_is); (case xl => k_is); (case xc => k_is); (case n1 => k_is); (case n2 => k_is); (case n3 => k_is); (case n4 => k_is); (case n5 => k_is); (case n6 => k_is); (case n7 => k_is); (case n8 => k_is); (case x1 => (refine' DL.Tx.mk ?tl ?tz; (case tl => k_is); (case tz => rfl))); (case x2 => (refine' DL.Tx.mk ?tl ?tz; (case tl => k_is); (case tz => rfl))); (case x6 => (refine' DL.Tx.mk ?tl ?tz; (case tl => k_is); (case tz => rfl))); (case x7 => (refine' DL.Tx.mk ?tl ?tz; (case tl => k_is); (case tz => rfl))); (case x8 => (refine' DL.Tx.mk ?tl ?tz; (case tl => k_is); (case tz => rfl)))))
    (case XfLm => (refine' K04.LFac.mk ?ya ?yl ?yc ?yk ?ylc ?yp ?yh ?yo; (case ya => k_is); (case yl => k_is); (case yc => k_is); (case yk => k_is); (case ylc => k_is); (case yp => rfl); (case yh => kernel_rfl); (case yo => kernel_rfl)))
    (case Xp_name => (refine' DL.PFac.mk ?xi ?xg ?xt ?xr ?xl ?xc; (case xi => k_is); (case xg => k_is); (case xt => k_is); (case xr => k_is); (case xl => k_is); (case xc => k_is)))
    (case Xp_kept => (refine' DL.PFac.mk ?xi ?xg ?xt ?xr ?xl ?xc; (case xi => k_is); (case xg => k_is); (case xt => k_is); (case xr => k_is); (case xl => k_is); (case xc => k_is)))
    (case Xp_plain => (refine' DL.PFac.mk ?xi ?xg ?xt ?xr ?xl ?xc; (case xi => k_is); (case xg => k_is); (case xt => k_is); (case xr => k_is); (case xl => k_is); (case xc => k_is)))
    (case Xp_leash => (refine' DL.PFac.mk ?xi ?xg ?xt ?xr ?xl ?xc; (case xi => k_is); (case xg => k_is); (case xt => k_is); (case xr => k_is); (case xl => k_is); (case xc => k_is)))
    (case Xp_needs => (refine' DL.PFac.mk ?xi ?xg ?xt ?xr ?xl ?xc; (case xi => k_is); (case xg => k_is); (case xt => k_is); (case xr => k_is); (case xl => k_is); (case xc => k_is)))
    (case Xp_sleeps => (refine' DL.PFac.mk ?xi ?xg ?xt ?xr ?xl ?xc; (case xi => k_is); (case xg => k_is); (case xt => k_is); (case xr => k_is); (case xl => k_is); (case xc => k_is)))
    (case Xp_sleep => (refine' DL.PFac.mk ?xi ?xg ?xt ?xr ?xl ?xc; (case xi => k_is); (case xg => k_is); (case xt => k_is); (case xr => k_is); (case xl => k_is); (case xc => k_is)))
    (case Xp_wake => (refine' DL.PFac.mk ?xi ?xg ?xt ?xr ?xl ?xc; (case xi => k_is); (case xg => k_is); (case xt => k_is); (case xr => k_is); (case xl => k_is); (case xc => k_is)))
    (case Xp_turns => (refine' DL.PFac.mk ?xi ?xg ?xt ?xr ?xl ?xc; (case xi => k_is); (case xg => k_is); (case xt => k_is); (case xr => k_is); (case xl => k_is); (case xc => k_is)))
    (case Xp_size => (refine' DL.PFac.mk ?xi ?xg ?xt ?xr ?xl ?xc; (case xi => k_is); (case xg => k_is); (case xt => k_is); (case xr => k_is); (case xl => k_is); (case xc => k_is)))
    (case Xzmin => k_is); (case Xzrev => k_is); (case Xz0 => k_is); (case Xz1 => k_is); (case Xz2 => k_is); (case Xz3 => k_is); (case Xz4 => k_is); (case Xz5 => k_is); (case Xz6 => k_is); (case Xz7 => k_is); (case Xz8 => k_is); (case Xz9 => k_is); (case Xz10 => k_is); (case Xz11 => k_is); (case Xz12 => k_is); (case Xz13 => k_is)
    all_goals (refine' DL.Fac.mk ?a ?l ?c ?k; (case a => k_is); (case l => k_is); (case c => k_is); (case k => k_is))

