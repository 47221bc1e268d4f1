import PyProof.Rows.All
import Wide.All
import OpenK.AllK
import Wide.FinOn
import HandS.ForMost
import HandS.Wide
import HandS.WideBits
import HandS.Zip
import HandS.Rev
import HandS.Conv
import HandS.IsInst
import HandS.TupAny
import HandS.TupMul
import HandS.SortInts
import HandS.RaiseMore
import KE.KMathG
import HandS.Strs
import PyProof.ReprLen
import PyProof.P3Eq
import KE.GoesZip
import KE.GoesMore
import HandS.Style
import KE.GoesEnum
import HandS.Deep
import HandS.SetBool
import PyProof.TupleOfSeq
import HandS.ExcInit
import HandS.ExcOwn
import HandS.ExcField
import KE.KExcIs
import HandS.ExcIs
import KE.DataMinMax
import PyProof.Rows.RowBridgeK
import KE.KDictZip
import PyProof.TupleOfGen
import HandS.MapObj
import PyProof.Rows.StrOr
import KE.DataFind
import PySem.Challenge.RW_fewthrows_k45_whole_shares_of_several_ta
set_option Elab.async false
set_option linter.all false
set_option maxRecDepth 100000
set_option autoImplicit false
section
set_option maxHeartbeats 4000000
/-! A law's run by plain values: what an expression, a statement, a def is worth, over the hand layer. -/
namespace Dn
open PySem PySem.Spec PyProof.Rows L2

/-! ### data -/
inductive D where
  | non | bl (b : Bool) | int (i : Int) | str (x : Str) | lst (xs : List D) | tup (xs : List D) | frl (xs : List D) | ty (n : String)

/-- more is told -/
def Ex (H H' : Hp) : Prop := ∀ a o, H a = some o → H' a = some o
theorem Ex.refl (H : Hp) : Ex H H := fun _ _ h => h
theorem Ex.trans {H H1 H2 : Hp} (a : Ex H H1) (b : Ex H1 H2) : Ex H H2 := fun x o h => b x o (a x o h)
theorem Ex.new {H : Hp} {p : Addr} {o : HO} (h : H p = none) : Ex H (upd H p o) := fun a u e => by
  rw [upd_ne (ne_of_none e h)]
  exact e
theorem Ex.upd {F H : Hp} {p : Addr} {o : HO} (e : Ex F H) : Ex (upd F p o) (upd H p o) := fun a u h => by
  by_cases q : a = p
  · subst q
    rw [upd_same] at h ⊢
    exact h
  · rw [upd_ne q] at h ⊢
    exact e a u h
/-- what F does not know may change -/
theorem Ex.mut {F H : Hp} {p : Addr} {o : HO} (e : Ex F H) (h : F p = none) : Ex F (L2.upd H p o) := fun a u ha => by
  rw [upd_ne (ne_of_none ha h)]
  exact e a u ha
theorem Ex.free {H H' : Hp} {p : Addr} (e : Ex H H') (h : H' p = none) : H p = none := by
  cases h1 : H p with
  | none => rfl
  | some o =>
    rw [e p o h1] at h
    cases h
theorem Ex.rd {H H' : Hp} {a : Addr} {u : HO} (e : Ex H H') (h : Rd H a u) : Rd H' a u := by
  rcases h with h | ⟨o, h⟩
  · exact .inl (e a _ h)
  · exact .inr ⟨o, e a _ h⟩
theorem Ex.l {K : PySem.W.Frag} {H H' : Hp} {a : Addr} {xs : List V} (e : Ex H H') (h : SqL K H a xs) : SqL K H' a xs := by
  rcases h with h | h
  · exact .inl (e.rd h)
  · exact .inr h
theorem Ex.t {K : PySem.W.Frag} {H H' : Hp} {a : Addr} {xs : List V} (e : Ex H H') (h : SqT K H a xs) : SqT K H' a xs := by
  rcases h with h | h
  · exact .inl (e.rd h)
  · exact .inr h

mutual
/-- a value stands for a datum -/
inductive Rp (K : PySem.W.Frag) (F : Hp) : V → D → Prop
  | non : Rp K F .non .non
  | bl (b : Bool) : Rp K F (.bl b) (.bl b)
  | int (i : Int) : Rp K F (.int i) (.int i)
  | str (x : Str) : Rp K F (.str x) (.str x)
  | lst {a : Addr} {xs : List V} {ds : List D} : F a = some (.lst xs) → RpA K F xs ds → Rp K F (.ref a) (.lst ds)
  | tup {a : Addr} {xs : List V} {ds : List D} : SqT K F a xs → RpA K F xs ds → Rp K F (.ref a) (.tup ds)
  | frl {a : Addr} {xs : List V} {ds : List D} : SqL K F a xs → RpA K F xs ds → Rp K F (.ref a) (.frl ds)
  | ty (n : String) : Rp K F (.ty n) (.ty n)
inductive RpA (K : PySem.W.Frag) (F : Hp) : List V → List D → Prop
  | nil : RpA K F [] []
  | cons {v : V} {vs : List V} {d : D} {ds : List D} : Rp K F v d → RpA K F vs ds → RpA K F (v :: vs) (d :: ds)
end
section
variable {K : PySem.W.Frag} {F F' : Hp}
theorem Rp.mono (e : Ex F F') {v : V} {d : D} (h : Rp K F v d) : Rp K F' v d :=
  Rp.rec (motive_1 := fun v d _ => Rp K F' v d) (motive_2 := fun vs ds _ => RpA K F' vs ds) .non .bl .int .str (fun s _ i => .lst (e _ _ s) i) (fun s _ i => .tup (e.t s) i) (fun s _ i => .frl (e.l s) i) .ty .nil (fun _ _ a b => .cons a b) h
theorem RpA.mono (e : Ex F F') {vs : List V} {ds : List D} (h : RpA K F vs ds) : RpA K F' vs ds :=
  RpA.rec (motive_1 := fun v d _ => Rp K F' v d) (motive_2 := fun vs ds _ => RpA K F' vs ds) .non .bl .int .str (fun s _ i => .lst (e _ _ s) i) (fun s _ i => .tup (e.t s) i) (fun s _ i => .frl (e.l s) i) .ty .nil (fun _ _ a b => .cons a b) h
theorem RpA.length : ∀ {vs : List V} {ds : List D}, RpA K F vs ds → vs.length = ds.length
  | _, _, .nil => rfl
  | _, _, .cons _ t => by rw [List.length_cons, List.length_cons, RpA.length t]
theorem RpA.get : ∀ {vs : List V} {ds : List D} {i : Nat} {d : D}, RpA K F vs ds → ds[i]? = some d → ∃ v, vs[i]? = some v ∧ Rp K F v d
  | _, _, _, _, .nil, h => by simp at h
  | _, _, 0, _, .cons a _, h => by
    simp at h
    subst h
    exact ⟨_, rfl, a⟩
  | _, _, i + 1, d, .cons _ t, h => by
    obtain ⟨v, h1, h2⟩ := RpA.get (i := i) (d := d) t (by simpa using h)
    exact ⟨v, by simpa using h1, h2⟩
theorem RpA.getV : ∀ {vs : List V} {ds : List D} {i : Nat} {v : V}, RpA K F vs ds → vs[i]? = some v → ∃ d, ds[i]? = some d ∧ Rp K F v d
  | _, _, _, _, .nil, h => by simp at h
  | _, _, 0, _, .cons a _, h => by
    simp at h
    subst h
    exact ⟨_, rfl, a⟩
  | _, _, i + 1, v, .cons _ t, h => by
    obtain ⟨d, h1, h2⟩ := RpA.getV (i := i) (v := v) t (by simpa using h)
    exact ⟨d, by simpa using h1, h2⟩
theorem RpA.append : ∀ {vs ws : List V} {ds es : List D}, RpA K F vs ds → RpA K F ws es → RpA K F (vs ++ ws) (ds ++ es)
  | _, _, _, _, .nil, h => h
  | _, _, _, _, .cons a t, h => .cons a (RpA.append t h)
theorem RpA.take : ∀ {vs : List V} {ds : List D} (n : Nat), RpA K F vs ds → RpA K F (vs.take n) (ds.take n)
  | _, _, 0, _ => .nil
  | _, _, _ + 1, .nil => .nil
  | _, _, n + 1, .cons a t => .cons a (RpA.take n t)
theorem RpA.drop : ∀ {vs : List V} {ds : List D} (n : Nat), RpA K F vs ds → RpA K F (vs.drop n) (ds.drop n)
  | _, _, 0, h => h
  | _, _, _ + 1, .nil => .nil
  | _, _, n + 1, .cons _ t => RpA.drop n t
theorem RpA.set {v : V} {d : D} (r : Rp K F v d) : ∀ {vs : List V} {ds : List D} (i : Nat), RpA K F vs ds → RpA K F (vs.set i v) (ds.set i d)
  | _, _, _, .nil => .nil
  | _, _, 0, .cons _ t => .cons r t
  | _, _, i + 1, .cons a t => .cons a (RpA.set r i t)
theorem RpA.erase : ∀ {vs : List V} {ds : List D} (i : Nat), RpA K F vs ds → RpA K F (vs.eraseIdx i) (ds.eraseIdx i)
  | _, _, _, .nil => .nil
  | _, _, 0, .cons _ t => t
  | _, _, i + 1, .cons a t => .cons a (RpA.erase i t)
theorem RpA.reverse : ∀ {vs : List V} {ds : List D}, RpA K F vs ds → RpA K F vs.reverse ds.reverse
  | _, _, .nil => .nil
  | _, _, .cons a t => by
    rw [List.reverse_cons, List.reverse_cons]
    exact RpA.append (RpA.reverse t) (.cons a .nil)
theorem RpA.rep {vs : List V} {ds : List D} (h : RpA K F vs ds) : ∀ n : Nat, RpA K F (List.replicate n vs).flatten (List.replicate n ds).flatten
  | 0 => .nil
  | n + 1 => by
    rw [List.replicate_succ, List.replicate_succ, List.flatten_cons, List.flatten_cons]
    exact RpA.append h (RpA.rep h n)
theorem RpA.ints : ∀ {vs : List V} {ns : List Int}, RpA K F vs (ns.map D.int) → vs = ns.map V.int
  | _, [], .nil => rfl
  | _, n :: ns, .cons a t => by
    cases a
    rw [List.map_cons, RpA.ints t]
theorem RpA.ofInts : ∀ {ns : List Int}, RpA K F (ns.map V.int) (ns.map D.int)
  | [] => .nil
  | _ :: _ => .cons (.int _) RpA.ofInts
theorem RpA.bools : ∀ {vs : List V} {bs : List Bool}, RpA K F vs (bs.map D.bl) → vs = bs.map V.bl
  | _, [], .nil => rfl
  | _, n :: ns, .cons a t => by
    cases a
    rw [List.map_cons, RpA.bools t]
end

/-! ### the state -/
/-- a slot: nothing known | a datum that stays | a list of one's own (with the parameter's number, if it is one) -/
inductive Sl where
  | un | fz (d : D) | ow (t : Option Nat) (ds : List D)
structure Wd where
  F : Hp
  H : Hp
  al : Nat → Addr
  ρ : List Sl
def Own (w : Wd) (b : Addr) : Prop := ∃ (i : Nat) (t : Option Nat) (ds : List D), w.ρ[i]? = some (.ow t ds) ∧ w.al i = b
structure Rel (K : PySem.W.Frag) (pa : Nat → Addr) (w : Wd) (σ : L2.St) : Prop where
  ex : Ex w.F w.H
  len : w.ρ.length = σ.length
  fz : ∀ (i : Nat) (d : D), w.ρ[i]? = some (.fz d) → ∃ v, σ[i]? = some (some v) ∧ Rp K w.F v d
  ow : ∀ (i : Nat) (t : Option Nat) (ds : List D), w.ρ[i]? = some (.ow t ds) → σ[i]? = some (some (.ref (w.al i))) ∧ w.F (w.al i) = none ∧ (∃ vs, w.H (w.al i) = some (.lst vs) ∧ RpA K w.F vs ds) ∧ ∀ j, t = some j → w.al i = pa j
  inj : ∀ (i j : Nat) (t u : Option Nat) (ds es : List D), w.ρ[i]? = some (.ow t ds) → w.ρ[j]? = some (.ow u es) → w.al i = w.al j → i = j
structure Step (w w' : Wd) : Prop where
  ex : Ex w.F w'.F
  fr : ∀ b o, w.H b = some o → ¬ Own w b → w'.H b = some o
  ff : ∀ b o, w.H b = some o → ¬ Own w b → w.F b = none → w'.F b = none
  ow : ∀ b, Own w' b → Own w b ∨ w.H b = none
  st : ∀ b, w'.H b = none → w.H b = none
theorem Step.refl (w : Wd) : Step w w := ⟨Ex.refl _, fun _ _ h _ => h, fun _ _ _ _ h => h, fun _ h => .inl h, fun _ h => h⟩
theorem Step.trans {w w1 w2 : Wd} (a : Step w w1) (b : Step w1 w2) : Step w w2 := by
  have no : ∀ c o, w.H c = some o → ¬ Own w c → ¬ Own w1 c := fun c o h n z => by
    rcases a.ow c z with q | q
    · exact n q
    · rw [h] at q; cases q
  refine ⟨a.ex.trans b.ex, fun c o h n => b.fr c o (a.fr c o h n) (no c o h n), fun c o h n f => b.ff c o (a.fr c o h n) (no c o h n) (a.ff c o h n f), fun c z => ?_, fun c z => a.st c (b.st c z)⟩
  rcases b.ow c z with q | q
  · exact a.ow c q
  · exact .inr (a.st c q)

/-- values alone: only new objects -/
structure Grow (F H F' H' : Hp) : Prop where
  e1 : Ex F F'
  e2 : Ex F' H'
  e3 : Ex H H'
  ff : ∀ b o, H b = some o → F b = none → F' b = none
theorem Grow.refl {F H : Hp} (e : Ex F H) : Grow F H F H := ⟨Ex.refl _, e, Ex.refl _, fun _ _ _ h => h⟩
theorem Grow.trans {F H F1 H1 F2 H2 : Hp} (a : Grow F H F1 H1) (b : Grow F1 H1 F2 H2) : Grow F H F2 H2 :=
  ⟨a.e1.trans b.e1, b.e2, a.e3.trans b.e3, fun c o h f => b.ff c o (a.e3 c o h) (a.ff c o h f)⟩
theorem Grow.new {F H : Hp} {p : Addr} {o : HO} (e : Ex F H) (h : H p = none) : Grow F H (upd F p o) (upd H p o) :=
  ⟨Ex.new (e.free h), e.upd, Ex.new h, fun b u hb f => by
    rw [upd_ne (ne_of_none hb h)]
    exact f⟩
/-- new, and not told -/
theorem Grow.quiet {F H : Hp} {p : Addr} {o : HO} (e : Ex F H) (h : H p = none) : Grow F H F (upd H p o) :=
  ⟨Ex.refl _, e.mut (e.free h), Ex.new h, fun _ _ _ f => f⟩

section
variable {K : PySem.W.Frag} {pa : Nat → Addr} {w : Wd} {σ : L2.St}
theorem Rel.own_at (R : Rel K pa w σ) {b : Addr} (h : Own w b) : (∃ vs, w.H b = some (.lst vs)) ∧ w.F b = none := by
  obtain ⟨i, t, ds, e, rfl⟩ := h
  obtain ⟨_, f, ⟨vs, hv, _⟩, _⟩ := R.ow i t ds e
  exact ⟨⟨vs, hv⟩, f⟩
theorem Rel.grow {F' H' : Hp} (R : Rel K pa w σ) (g : Grow w.F w.H F' H') : Rel K pa ⟨F', H', w.al, w.ρ⟩ σ ∧ Step w ⟨F', H', w.al, w.ρ⟩ := by
  refine ⟨⟨g.e2, R.len, fun i d e => ?_, fun i t ds e => ?_, R.inj⟩, ⟨g.e1, fun b o h _ => g.e3 b o h, fun b o h _ f => g.ff b o h f, fun b h => .inl h, fun b h => g.e3.free h⟩⟩
  · obtain ⟨v, h1, h2⟩ := R.fz i d e
    exact ⟨v, h1, h2.mono g.e1⟩
  · obtain ⟨h1, h2, ⟨vs, h3, h4⟩, h5⟩ := R.ow i t ds e
    exact ⟨h1, g.ff _ _ h3 h2, ⟨vs, g.e3 _ _ h3, h4.mono g.e1⟩, h5⟩
end
end Dn
end
section
set_option maxHeartbeats 4000000
namespace Dn
open PySem PySem.Spec PyProof.Rows L2

/-! ### defs, with the guards known -/
structure FnG (P : Program) (w : World) (K : PySem.W.Frag) (mg : Str → Option Value) (base : Heap) (CX : CXT) (k : Nat) (f : Addr) (fd : FuncData) (ps : List Str) (sp : Sp) : Prop where
  len : ∀ vs H Q E, sp vs H Q E → vs.length = ps.length
  run : ∀ (A : Around) (outer : List Env) (s : Shared) (H : Hp) (args : Args) (us : List Value) (vs : List V) (Q : VK) (E : XK), Room k A → A.guards = some [] → Env0 P w K mg base A outer s H → BindsTo s fd args (ps.zip us) → Vals vs us → sp vs H Q E →
    codeAny (model P w) A (.call (.ref f) args) (CR CX outer P w H s Q E) s
theorem FnG.mono {P : Program} {w : World} {K : PySem.W.Frag} {mg : Str → Option Value} {base : Heap} {CX : CXT} {j k : Nat} {f : Addr} {fd : FuncData} {ps : List Str} {sp : Sp} (F : FnG P w K mg base CX j f fd ps sp) (h : j ≤ k) :
    FnG P w K mg base CX k f fd ps sp := ⟨F.len, fun A outer s H args us vs Q E hr => F.run A outer s H args us vs Q E (hr.mono h)⟩
section
variable {X : Cx} {CX : CXT} {k : Nat} {f : Addr} {fd : FuncData} {ps ks : List Str} {sp : Sp} {dvs : List V} {ds : List Value} {E : XK} {x : Str} {p pos : Pos} {e : Expr} {es : List Expr} {t tk : TA} {kws : List Keyword}
  {g : List Value → List Value → List Value} {gV : List V → List V → List V}
theorem run_fnG {pins : List (Addr × Obj)} {σ : L2.St} {H : Hp} {s : Shared} {Q : VK} {us : List Value} {vs : List V} (F : FnG X.prog X.w X.K X.mg X.base CX k f fd ps sp) (hr : Room k X.A) (hgd : X.A.guards = some []) (hb : Binds X.K fd ps ds) (hd : Vals dvs ds) (hx : Passes CX X E)
    (I : Inv X pins σ H s) (r : Vals vs us) (h : sp (vs ++ dvs) H Q E) : wpAny (model X.prog X.w) X.A (call (.ref f) us) (EP X pins σ Q) X.xe s := by
  have r2 : Vals (vs ++ dvs) (us ++ ds) := r.append hd
  have hl : (us ++ ds).length = ps.length := by rw [← r2.length]; exact F.len _ _ _ _ h
  refine wpAny_call (codeAny_mono (F.run X.A X.stack s H ⟨us, []⟩ (us ++ ds) (vs ++ dvs) Q E hr hgd I.env0 (hb s us I.kIn hl) r2 h) fun r s' hq => ?_)
  cases r with
  | error e => exact hx pins σ H s e s' I hq
  | ok fl =>
    cases fl with
    | ret u => exact I.after hq
    | next => exact False.elim hq
    | brk => exact False.elim hq
    | cont => exact False.elim hq
theorem pe_callG (F : FnG X.prog X.w X.K X.mg X.base CX k f fd ps sp) (hr : Room k X.A) (hgd : X.A.guards = some []) (hg : Gl X x) (hm : X.mg x = some (.ref f)) (hk : PySem.W.keepIn X.K (.ref f) = true) (hb : Binds X.K fd ps ds) (hd : Vals dvs ds) (hx : Passes CX X E)
    (ha : PA X (e :: es) t) (hdb : (x == ("__debug__" : Str)) = false := by decide) (he : starEach (e :: es) X.env = (false, eval e X.env) :: starEach es X.env := by rfl) (hpl : (backTo pos (starEach es X.env)).any (·.1) = false := by rfl) :
    PE X (.Call (.Name x p) (e :: es) [] pos) (tCall sp dvs E t) := by
  refine ⟨fun pins s σ H Q I h => ?_⟩
  refine wpAny_Call_Name_kw (ld_glob I hg hm ?_ hdb)
  refine PySem.W.callWith_K (h₀ := X.base) I.ok.mod.kin hk (thn (ha.run pos pins s σ H _ I h) fun us s1 ⟨vs, H1, I1, r, q⟩ => ⟨I1.kIn, ?_⟩) he hpl
  exact run_fnG F hr hgd hb hd hx I1 r q
theorem run_fnkG {pins : List (Addr × Obj)} {σ : L2.St} {H : Hp} {s : Shared} {Q : VK} {us ws : List Value} {vs zs : List V} (F : FnG X.prog X.w X.K X.mg X.base CX k f fd ps sp) (hr : Room k X.A) (hgd : X.A.guards = some []) (hb : KBinds X.K fd ps ks g gV) (hx : Passes CX X E)
    (I : Inv X pins σ H s) (r : Vals vs us) (rz : Vals zs ws) (h : sp (gV vs zs) H Q E) : wpAny (model X.prog X.w) X.A (call (.ref f) us (ks.zip ws)) (EP X pins σ Q) X.xe s := by
  have r2 := hb.rel r rz
  have hl : (g us ws).length = ps.length := by rw [← r2.length]; exact F.len _ _ _ _ h
  refine wpAny_call (codeAny_mono (F.run X.A X.stack s H ⟨us, ks.zip ws⟩ (g us ws) (gV vs zs) Q E hr hgd I.env0 (hb.to s us ws I.kIn hl) r2 h) fun r s' hq => ?_)
  cases r with
  | error e => exact hx pins σ H s e s' I hq
  | ok fl =>
    cases fl with
    | ret u => exact I.after hq
    | next => exact False.elim hq
    | brk => exact False.elim hq
    | cont => exact False.elim hq
/-- f(k = v, ..), keywords alone -/
theorem pe_callKG (F : FnG X.prog X.w X.K X.mg X.base CX k f fd ps sp) (hr : Room k X.A) (hgd : X.A.guards = some []) (hg : Gl X x) (hm : X.mg x = some (.ref f)) (hk : PySem.W.keepIn X.K (.ref f) = true) (hb : KBinds X.K fd ps ks g gV) (hx : Passes CX X E)
    (hkw : PK X kws tk) (hall : (backToKw pos (keywordEach kws X.env)).all (·.1.isSome) = true := by rfl) (hks : (backToKw pos (keywordEach kws X.env)).filterMap (·.1) = ks := by rfl)
    (hdb : (x == ("__debug__" : Str)) = false := by decide)
    (hpl : ((backTo pos (starEach [] X.env)).any (·.1) || (backToKw pos (keywordEach kws X.env)).any (·.1.isNone)) = false := by rfl) :
    PE X (.Call (.Name x p) [] kws pos) (tCallK sp gV E tNil tk) := by
  refine ⟨fun pins s σ H Q I h => ?_⟩
  refine wpAny_Call_Name_kw (ld_glob I hg hm ?_ hdb)
  refine PySem.W.callWith_KW0 (h₀ := X.base) I.ok.mod.kin hk hall (thn (hkw.run pos pins s σ H _ I h) fun ws s2 ⟨zs, H2, I2, rz, q2⟩ => ⟨I2.kIn, ?_⟩) hpl
  rw [hks]
  exact run_fnkG F hr hgd hb hx I2 .nil rz q2
end
section
variable {P : Program} {w : World} {K : PySem.W.Frag} {mg : Str → Option Value} {base : Heap}
theorem fn_ofG {CX : CXT} {k : Nat} {f : Addr} {name qual : Str} {params : Arguments} {body : List Stmt} {scope : Scope} {dV kV doc pm cdv ct oc : Value} {an od : Option Addr}
    {osl : Array (Option Value)} {N ps : List Str} {sp : Sp} (lk : K.lookup f = some ⟨oc, od, .func (PySem.W.fnOf name qual params body scope dV kV doc pm an cdv ct), osl⟩) (hcd : PySem.W.codeIn K cdv qual = true) (S : FnScope N ps scope)
    (len : ∀ vs H Q E, sp vs H Q E → vs.length = ps.length)
    (hbody : ∀ (A : Around) (outer : List Env) (s : Shared) (H : Hp) (vs : List V) (Q : VK) (E : XK), Room k (A.deeper (envOfC qual scope s.heap.objs.size f cdv)) → A.guards = some [] → sp vs H Q E →
      ∃ t, PSs (cxOf CX P w K mg base N qual scope f cdv A outer s H E) body t ∧ t { nx := fun _ H' => Q .non H', rt := Q } (start N vs) H) :
    FnG P w K mg base CX (k + 1) f (PySem.W.fnOf name qual params body scope dV kV doc pm an cdv ct) ps sp := by
  refine ⟨len, fun A outer s H args us vs Q E hr hgd e0 hb r hsp => ?_⟩
  have hl := len _ _ _ _ hsp
  have KX : K.In s.heap := e0.mod.kin.keeps fun b o e => (e0.bs b o e).1
  have lim : s.heap.NoLimit := e0.mod.nolimit.keeps fun b o e => (e0.bs b o e).1
  have hkind : ∀ y ∈ ps.zip us, scope.names.lookup y.1 = some .local ∨ (scope.names.lookup y.1 = some .cell ∧ ((cellsFrom (s.heap.objs.size + 1) scope.names []).lookup y.1).isSome = true) := fun ⟨n, v⟩ hy => by
    rcases S.par n (List.of_mem_zip hy).1 with q | q
    · exact .inl q
    · exact .inr ⟨q, PySem.W.cellsFrom_some _ _ _ (.inl q)⟩
  refine codeAny_call_function hr.depth (KX _ _ lk) rfl S.co S.gen rfl (PySem.W.codeRec_of KX hcd) (hb _ _ _ _ ?_)
  refine wpAny_newFunctionEnv_cells S.kind hkind fun env he s1 x => ?_
  subst he
  refine ⟨lim.keeps x.toInCall.keep, codeAny_func ?_⟩
  obtain ⟨t, ht, hq⟩ := hbody A outer s H vs Q E (hr.deeper _) hgd hsp
  have I : Inv (cxOf CX P w K mg base N qual scope f cdv A outer s H E) [] (start N vs) H s1 := inv_start S hr.hd e0 hl r x
  refine wpAny_mono (ht.run [] s1 (start N vs) H _ I hq) (fun fl s' hs => ?_) fun e s' hs => hs
  have fin : ∀ {σ' : L2.St} {H' : Hp} {v : V} {u : Value}, Inv (cxOf CX P w K mg base N qual scope f cdv A outer s H E) [] σ' H' s' → RelV v u → Q v H' → CE outer P w H s Q u s' :=
    fun {σ' H' v u} J rv q => ⟨v, H', J.os, J.bare, J.base, J.hok, rv, q⟩
  cases fl with
  | ret u =>
    obtain ⟨v, σ', H', J, rv, q⟩ := hs
    exact fin J rv q
  | next =>
    obtain ⟨σ', H', J, q⟩ := hs
    exact fin (v := V.non) (u := Value.none) J rfl q
  | brk =>
    obtain ⟨_, _, _, q⟩ := hs
    exact False.elim q
  | cont =>
    obtain ⟨_, _, _, q⟩ := hs
    exact False.elim q
theorem okG {x qual : Str} {st : Stmt} {f : Addr} {fd : FuncData} {N ps : List Str} {k : Nat} {sp : Sp} (F : Fun K x qual st f fd) (S : FnScope N ps (defScope st)) (len : ∀ vs H Q E, sp vs H Q E → vs.length = ps.length)
    (hbody : ∀ (cdv : Value) (A : Around) (outer : List Env) (s : Shared) (H : Hp) (vs : List V) (Q : VK) (E : XK), Room k (A.deeper (envOfC qual (defScope st) s.heap.objs.size f cdv)) → A.guards = some [] → sp vs H Q E →
      ∃ t, PSs (cxOf CX0 P w K mg base N qual (defScope st) f cdv A outer s H E).nox (defBody st) t ∧ t { nx := fun _ H' => Q .non H', rt := Q } (start N vs) H) : FnG P w K mg base CX0 (k + 1) f fd ps sp := by
  obtain ⟨oc, od, kV, doc, pm, an, cdv, ct, osl, rfl, lk, hcd⟩ := F.ex
  refine fn_ofG lk hcd S len fun A outer s H vs Q E hr hgd hsp => ?_
  obtain ⟨t, h, q⟩ := hbody cdv A outer s H vs Q E hr hgd hsp
  exact ⟨t, h.nox, q⟩
/-- the heap ahead of the law's call, the script told as what it is: nothing is tracked but the script, and not even that where it is a thing of the module -/
structure Entry (P : Program) (w : World) (K : PySem.W.Frag) (mg : Str → Option Value) (s : Shared) (a : Addr) (ns : List Int) (H : Hp) (base : Heap) : Prop where
  only : Only H
  list : SqL K H a (ns.map V.int)
  kin : K.In base
  glob : base.Ns mainGlobals mg
  env : Env0 P w K mg base callerA [] s H
theorem entry {mb : Str → Option Value} {a : Addr} {s : Shared} {vs : List Value} {ns : List Int} (KX : K.In s.heap) (hns : s.heap.Ns mainGlobals mg) (hb : s.heap.Ns builtinsNs mb)
    (hbb : ∀ x : Str, x ≠ "__name__" → mb x = bootBuiltins x) (hlim : s.heap.NoLimit) (hg : s.gens = #[]) (ha : s.heap.get? a = some { cls := .type "list", data := .seq vs.toArray })
    (hi : IntsAre vs ns) (hl : ns.length ≤ sizeLine) : ∃ H base, Entry P w K mg s a ns H base := by
  have rv : Vals (ns.map V.int) vs := vals_ints hi
  have lv := hi.length
  -- two heaps: with the script, without
  have make : ∀ H : Hp, Only H → SqL K H a (ns.map V.int) → HOk P w H s.heap → (∀ b u, H b = some u → b = a ∧ K.lookup a = none) → ∃ H base, Entry P w K mg s a ns H base := by
    intro H o1 o2 ok only
    have free : ∀ b o, s.heap.get? b = some o → (b = a → ∀ es ep, o.data = .dict es ep → False) := fun b o e z es ep d => by
      rw [z, ha] at e
      cases e
      exact nomatch (show Data.seq vs.toArray _ = Data.dict es ep from d)
    have keepNs : ∀ {b : Addr} {m : Str → Option Value}, s.heap.Ns b m → (hidT s.heap H).Ns b m := fun {b m} h => by
      obtain ⟨o, es, ep, e, d, r⟩ := h
      refine ⟨o, es, ep, hidT_get e ?_, d, r⟩
      cases q : H b with
      | none => rfl
      | some u => exact (free b o e (only b u q).1 es ep d).elim
    have kin : K.In (hidT s.heap H) := fun b o e => hidT_get (KX b o e) (by
      cases q : H b with
      | none => rfl
      | some u =>
        obtain ⟨z, n⟩ := only b u q
        rw [z, n] at e
        cases e)
    obtain ⟨mc, l1, l2⟩ := hlim
    exact ⟨H, hidT s.heap H, o1, o2, kin, keepNs hns, ⟨rfl, ⟨kin, keepNs hns, ⟨mb, keepNs hb, hbb⟩, ⟨mc, keepNs l1, l2⟩⟩, fun b o e => of_hidT e, Nat.le_of_eq (hidT_size _ _), trivial, (fun b z => nomatch z), ok, .of_eq hg⟩⟩
  cases hk : K.lookup a with
  | some o =>
    have e := KX a o hk
    rw [ha] at e
    cases e
    exact make (fun _ => none) (fun _ => .inl rfl) (.inr ⟨_, vs.toArray, _, hk, rfl, rfl, rfl, by rw [List.size_toArray, lv]; exact hl, by simpa using rv⟩) (fun b u z => nomatch z) fun b u z => nomatch z
  | none =>
    have at_a : ∀ b u, (if b = a then some (HO.frz { cls := .type "list", data := .seq vs.toArray } (.lst (ns.map V.int))) else none) = some u → b = a ∧ u = .frz { cls := .type "list", data := .seq vs.toArray } (.lst (ns.map V.int)) := fun b u z => by
      by_cases q : b = a
      · rw [if_pos q] at z
        cases z
        exact ⟨q, rfl⟩
      · rw [if_neg q] at z
        cases z
    refine make (fun b => if b = a then some (.frz { cls := .type "list", data := .seq vs.toArray } (.lst (ns.map V.int))) else none) (fun b => ?_) (.inl (.inr ⟨_, if_pos rfl⟩)) (fun b u z => ?_) fun b u z => ⟨(at_a b u z).1, hk⟩
    · by_cases q : b = a
      · exact .inr ⟨_, _, if_pos q⟩
      · exact .inl (if_neg q)
    · obtain ⟨rfl, rfl⟩ := at_a b u z
      exact ⟨ha, by rw [List.length_map]; exact hl, vs, _, rv, ha⟩
/-- the goal that k_head leaves, from the law's promise with the guards known -/
theorem walk_ofG {l : PySem.W.OpenLaw} {n k : Nat} {q : Program} {loose : List Str} {XP : (Str → Option Value) → Heap → Prop} {YP : World → Heap → Prop} {d : DefRec} {K : Params → PySem.W.Frag} {CX : World → CXT} {sp : World → Sp} {x : Str}
    (hn : l.most = some n) (hn2 : n ≤ sizeLine) (hdf : d.params.defaults = []) (hr : Room k callerA) (hY : ∀ (w : World) (h : Heap), YP w h → (K w.params).In h)
    (F : ∀ (w : World) (mg : Str → Option Value) (fa : Addr) (h : Heap), (K w.params).In h → h.Ns mainGlobals mg → mg d.name = some (.ref fa) →
      ∃ fd : FuncData, (∀ (s : Shared) (u : Value), BindsTo s fd ⟨[u], []⟩ [(x, u)]) ∧
        ∀ base : Heap, (K w.params).In base → base.Ns mainGlobals mg → FnG l.prog w (K w.params) mg base (CX w) k fa fd [x] (sp w))
    (hsp : ∀ (w : World) (H : Hp) (a : Addr) (ns : List Int), ns.length ≤ n → Only H → SqL (K w.params) H a (ns.map V.int) → sp w [.ref a] H (fun v _ => v = .bl true) fun _ _ _ => False)
    (hCX : ∀ (w : World) (H : Hp) (s : Shared) (e : Value) (s' : Shared), CX w [] H s (fun _ _ _ => False) e s' → False) :
    PySem.W.WalkO q loose XP YP l.row.toRowW d [] (fun f vs => PySem.call f vs) := by
  refine Att.attach_call hn hdf fun w s₀ s₁ mg mb fa o pm cd doc a vs ns G Y ho hd hcd hmg hobj hints hlen hg => ?_
  have KX := hY w _ Y
  obtain ⟨fd, hb, hF⟩ := F w mg fa _ KX G.T.g hmg
  obtain ⟨H, base, E⟩ := entry (P := l.prog) (w := w) (s := s₁) (a := a) (ns := ns) KX G.T.g G.T.b G.T.builtins G.T.nolimit hg hobj hints (Nat.le_trans hlen hn2)
  have run := (hF base E.kin E.glob).run callerA [] s₁ H ⟨[.ref a], []⟩ [.ref a] [.ref a] _ _ hr rfl E.env (hb s₁ (.ref a)) (.cons rfl .nil) (hsp w H a ns hlen E.only E.list)
  refine codeAny_mono run fun r s' h => ?_
  match r, h with
  | .error e, h => exact (hCX w H s₁ e s' h).elim
  | .ok .next, h => exact False.elim h
  | .ok .brk, h => exact False.elim h
  | .ok .cont, h => exact False.elim h
  | .ok (.ret u), h =>
    obtain ⟨v, H', os, bare, un, ok', rv, e⟩ := h
    have e : v = .bl true := e
    subst e
    have rv : u = Value.bool true := rv
    subst rv
    refine ⟨rfl, OldK.of_keep fun b o e => ?_, os, bare⟩
    rcases E.only b with z | ⟨ob, xs, z⟩
    · exact un.keep b o e z (fun z => nomatch z) (fun z => nomatch z)
    · obtain ⟨e1, _⟩ := E.env.hok b _ z
      obtain ⟨e2, _⟩ := ok' b _ (un.frzs b ob _ z)
      rw [e] at e1
      cases e1
      exact e2
end
end Dn
end
section
set_option maxHeartbeats 4000000
namespace Dn
open PySem PySem.Spec PyProof.Rows L2

/-! ### what things are worth -/
def bnd {α β : Type} : Option (α × List Sl) → (α → List Sl → Option (β × List Sl)) → Option (β × List Sl)
  | none, _ => none
  | some p, f => f p.1 p.2
def lft {α : Type} : Option α → List Sl → Option (α × List Sl)
  | none, _ => none
  | some a, ρ => some (a, ρ)
theorem bnd_some {α β : Type} {a : α} {ρ : List Sl} {f : α → List Sl → Option (β × List Sl)} : bnd (some (a, ρ)) f = f a ρ := rfl
theorem bnd_none {α β : Type} {f : α → List Sl → Option (β × List Sl)} : bnd none f = none := rfl
theorem lft_some {α : Type} {a : α} {ρ : List Sl} : lft (some a) ρ = some (a, ρ) := rfl
theorem lft_none {α : Type} {ρ : List Sl} : lft (none : Option α) ρ = none := rfl
theorem bnd_eq {α β : Type} {x : Option (α × List Sl)} {f : α → List Sl → Option (β × List Sl)} {r : β × List Sl} (h : bnd x f = some r) : ∃ a ρ, x = some (a, ρ) ∧ f a ρ = some r := by
  cases x with
  | none => cases h
  | some p => exact ⟨p.1, p.2, rfl, h⟩
theorem lft_eq {α : Type} {o : Option α} {ρ : List Sl} {r : α × List Sl} (h : lft o ρ = some r) : ∃ a, o = some a ∧ r = (a, ρ) := by
  cases o with
  | none => cases h
  | some a => exact ⟨a, rfl, (Option.some.inj h).symm⟩
abbrev FE := List Sl → Option (D × List Sl)
abbrev FB := List Sl → Option (Bool × List Sl)
abbrev FA := List Sl → Option (List D × List Sl)
inductive Ou where
  | nx | bk | ct | ret (d : D) | rto (ds : List D)
abbrev FS := List Sl → Option (Ou × List Sl)
abbrev FT := D → List Sl → Option (List Sl)
abbrev DEN := List Sl → Option (D × List Sl)

def GoodE (K : PySem.W.Frag) (te : TE) (f : FE) : Prop := ∀ (pa : Nat → Addr) (w : Wd) (σ : L2.St) (d : D) (ρ' : List Sl), Rel K pa w σ → f w.ρ = some (d, ρ') →
  ∀ Q : VK, (∀ (w' : Wd) (v : V), Rel K pa w' σ → w'.ρ = ρ' → Step w w' → Rp K w'.F v d → Q v w'.H) → te σ w.H Q
def GoodB (K : PySem.W.Frag) (tt : TT) (f : FB) : Prop := ∀ (pa : Nat → Addr) (w : Wd) (σ : L2.St) (b : Bool) (ρ' : List Sl), Rel K pa w σ → f w.ρ = some (b, ρ') →
  ∀ Q : Bool → Hp → Prop, (∀ (w' : Wd), Rel K pa w' σ → w'.ρ = ρ' → Step w w' → Q b w'.H) → tt σ w.H Q
def GoodA (K : PySem.W.Frag) (ta : TA) (f : FA) : Prop := ∀ (pa : Nat → Addr) (w : Wd) (σ : L2.St) (ds : List D) (ρ' : List Sl), Rel K pa w σ → f w.ρ = some (ds, ρ') →
  ∀ Q : List V → Hp → Prop, (∀ (w' : Wd) (vs : List V), Rel K pa w' σ → w'.ρ = ρ' → Step w w' → RpA K w'.F vs ds → Q vs w'.H) → ta σ w.H Q
/-- what must hold behind a statement -/
def Post (K : PySem.W.Frag) (pa : Nat → Addr) (w : Wd) (o : Ou) (ρ' : List Sl) (E : Ends) : Prop := match o with
  | .nx => ∀ (w' : Wd) (σ' : L2.St), Rel K pa w' σ' → w'.ρ = ρ' → Step w w' → E.nx σ' w'.H
  | .bk => ∀ (w' : Wd) (σ' : L2.St), Rel K pa w' σ' → w'.ρ = ρ' → Step w w' → E.bk σ' w'.H
  | .ct => ∀ (w' : Wd) (σ' : L2.St), Rel K pa w' σ' → w'.ρ = ρ' → Step w w' → E.ct σ' w'.H
  | .ret d => ∀ (w' : Wd) (σ' : L2.St) (v : V), Rel K pa w' σ' → w'.ρ = ρ' → Step w w' → Rp K w'.F v d → E.rt v w'.H
  | .rto ds => ∀ (w' : Wd) (σ' : L2.St) (P : Addr) (acc : List V), Rel K pa w' σ' → w'.ρ = ρ' → Step w w' → (Own w P ∨ w.H P = none) → w'.H P = some (.lst acc) → w'.F P = none → ¬ Own w' P → RpA K w'.F acc ds → E.rt (.ref P) w'.H
def GoodS (K : PySem.W.Frag) (ts : TS) (f : FS) : Prop := ∀ (pa : Nat → Addr) (w : Wd) (σ : L2.St) (o : Ou) (ρ' : List Sl), Rel K pa w σ → f w.ρ = some (o, ρ') → ∀ E : Ends, Post K pa w o ρ' E → ts E σ w.H
/-- ts: the slots that a target may set -/
def GoodT (K : PySem.W.Frag) (tg : TG) (f : FT) (ts : List Nat) : Prop := ∀ (pa : Nat → Addr) (w : Wd) (σ : L2.St) (v : V) (d : D) (ρ' : List Sl), Rel K pa w σ → Rp K w.F v d → f d w.ρ = some ρ' →
  ∀ Q : L2.St → Hp → Prop, (∀ (w' : Wd) (σ' : L2.St), Rel K pa w' σ' → w'.ρ = ρ' → Step w w' → (∀ i : Nat, i ∉ ts → σ'[i]? = σ[i]?) → σ'.length = σ.length → Q σ' w'.H) → tg v σ w.H Q
/-- an iterator over ds -/
def JOk (K : PySem.W.Frag) (J : It) (F0 : Hp) (ds : List D) : Prop := ∀ (F H : Hp) (i : Nat), Ex F0 F → Ex F H → (∀ d, ds[i]? = some d → J.go i H ∧ ∀ x H', J.yld i H x H' → ∃ F', Grow F H F' H' ∧ Rp K F' x d) ∧ (ds[i]? = none → J.stop i H)
def GoodI (K : PySem.W.Frag) (wi : TI) (f : FA) : Prop := ∀ (pa : Nat → Addr) (w : Wd) (σ : L2.St) (ds : List D) (ρ' : List Sl), Rel K pa w σ → f w.ρ = some (ds, ρ') →
  ∀ R : It → Hp → Prop, (∀ (w' : Wd) (J : It), Rel K pa w' σ → w'.ρ = ρ' → Step w w' → JOk K J w'.F ds → R J w'.H) → wi σ w.H R

structure GE (X : Cx) (e : Expr) (f : FE) : Prop where
  ok : ∃ te, PE X e te ∧ GoodE X.K te f
structure GB (X : Cx) (e : Expr) (f : FB) : Prop where
  ok : ∃ tt, PT X e tt ∧ GoodB X.K tt f
structure GW (X : Cx) (e : Expr) (f : FB) : Prop where
  ok : ∃ tt, PW X e tt ∧ GoodB X.K tt f
structure GA (X : Cx) (es : List Expr) (f : FA) : Prop where
  ok : ∃ ta, PA X es ta ∧ GoodA X.K ta f
structure GS (X : Cx) (st : Stmt) (f : FS) : Prop where
  ok : ∃ ts, PS X st ts ∧ GoodS X.K ts f
structure GSs (X : Cx) (st : List Stmt) (f : FS) : Prop where
  ok : ∃ ts, PSs X st ts ∧ GoodS X.K ts f
structure GT (X : Cx) (tg : Expr) (f : FT) (ts : List Nat) : Prop where
  ok : ∃ t, PG X tg t ∧ GoodT X.K t f ts
structure GI (X : Cx) (tg iter : Expr) (f : FA) : Prop where
  ok : ∃ wi, PI X tg iter wi ∧ GoodI X.K wi f

/-! ### names, constants -/
section
variable {X : Cx}
def FVar (i : Nat) : FE := fun ρ => match ρ[i]? with
  | some (.fz d) => some (d, ρ)
  | _ => none
def FC (d : D) : FE := fun ρ => some (d, ρ)
theorem FVar_eq {i : Nat} {ρ ρ' : List Sl} {d : D} (h : FVar i ρ = some (d, ρ')) : ρ[i]? = some (.fz d) ∧ ρ' = ρ := by
  unfold FVar at h
  split at h
  · rename_i e
    obtain ⟨h1, h2⟩ := Prod.mk.inj (Option.some.inj h)
    subst h1
    subst h2
    exact ⟨e, rfl⟩
  · cases h
theorem good_var {K : PySem.W.Frag} (i : Nat) : GoodE K (tVar i) (FVar i) := fun pa w σ d ρ' R h Q q => by
  obtain ⟨e, rfl⟩ := FVar_eq h
  obtain ⟨v, h1, h2⟩ := R.fz i d e
  exact ⟨v, h1, q w v R rfl (Step.refl w) h2⟩
theorem ge_var (i : Nat) {x : Str} {pos : Pos} (hN : X.N[i]? = some x := by rfl) (hv : Vis X.env.scope x := by first | exact Or.inl rfl | exact Or.inr (Or.inl rfl) | exact Or.inr (Or.inr rfl)) (hd : (x == ("__debug__" : Str)) = false := by decide)
    (hcd : (x == ("__classdict__" : Str)) = false := by decide) : GE X (.Name x pos) (FVar i) := ⟨_, pe_var hN hv hd hcd, good_var i⟩
/-- a list of one's own, read: from now on it stays as it is -/
def FFrz (i : Nat) : FE := fun ρ => match ρ[i]? with
  | some (.ow _ ds) => some (.lst ds, ρ.set i (.fz (.lst ds)))
  | _ => none
theorem good_frz {K : PySem.W.Frag} (i : Nat) : GoodE K (tVar i) (FFrz i) := fun pa w σ d ρ' R h Q q => by
  unfold FFrz at h
  split at h
  case h_2 => cases h
  rename_i t ds e
  obtain ⟨h1, h2⟩ := Prod.mk.inj (Option.some.inj h)
  subst h1
  subst h2
  obtain ⟨a1, a2, ⟨vs, a3, a4⟩, a5⟩ := R.ow i t ds e
  have hlt : i < w.ρ.length := (List.getElem?_eq_some_iff.mp e).1
  refine ⟨_, a1, q ⟨upd w.F (w.al i) (.lst vs), w.H, w.al, w.ρ.set i (.fz (.lst ds))⟩ _ ⟨fun b o hb => ?_, ?_, fun j d hj => ?_, fun j t' es hj => ?_, fun j j' t' u es es' hj hj' => ?_⟩ rfl ⟨Ex.new a2, fun b o hb _ => hb, fun b o hb n f => ?_, fun b hb => ?_, fun b hb => hb⟩ (.lst upd_same (a4.mono (Ex.new a2)))⟩
  · dsimp only at hb ⊢
    by_cases z : b = w.al i
    · subst z
      rw [upd_same] at hb
      cases hb
      exact a3
    · rw [upd_ne z] at hb
      exact R.ex b o hb
  · rw [List.length_set]
    exact R.len
  · by_cases z : i = j
    · subst z
      rw [List.getElem?_set_self hlt] at hj
      cases hj
      exact ⟨_, a1, .lst upd_same (a4.mono (Ex.new a2))⟩
    · rw [List.getElem?_set_ne z] at hj
      obtain ⟨v, b1, b2⟩ := R.fz j d hj
      exact ⟨v, b1, b2.mono (Ex.new a2)⟩
  · by_cases z : i = j
    · subst z
      rw [List.getElem?_set_self hlt] at hj
      cases hj
    · rw [List.getElem?_set_ne z] at hj
      obtain ⟨b1, b2, ⟨us, b3, b4⟩, b5⟩ := R.ow j t' es hj
      refine ⟨b1, ?_, ⟨us, b3, b4.mono (Ex.new a2)⟩, b5⟩
      dsimp only
      rw [upd_ne fun y => z (R.inj i j t t' ds es e hj y.symm)]
      exact b2
  · have z : i ≠ j := fun z => by
      subst z
      rw [List.getElem?_set_self hlt] at hj
      cases hj
    have z' : i ≠ j' := fun z => by
      subst z
      rw [List.getElem?_set_self hlt] at hj'
      cases hj'
    rw [List.getElem?_set_ne z] at hj
    rw [List.getElem?_set_ne z'] at hj'
    exact R.inj j j' t' u es es' hj hj'
  · dsimp only
    rw [upd_ne fun y => n ⟨i, t, ds, e, y.symm⟩]
    exact f
  · obtain ⟨j, t', es, hj, rfl⟩ := hb
    have z : i ≠ j := fun z => by
      subst z
      rw [List.getElem?_set_self hlt] at hj
      cases hj
    rw [List.getElem?_set_ne z] at hj
    exact .inl ⟨j, t', es, hj, rfl⟩
theorem ge_frz (i : Nat) {x : Str} {pos : Pos} (hN : X.N[i]? = some x := by rfl) (hv : Vis X.env.scope x := by first | exact Or.inl rfl | exact Or.inr (Or.inl rfl) | exact Or.inr (Or.inr rfl)) (hd : (x == ("__debug__" : Str)) = false := by decide)
    (hcd : (x == ("__classdict__" : Str)) = false := by decide) : GE X (.Name x pos) (FFrz i) := ⟨_, pe_var hN hv hd hcd, good_frz i⟩
theorem good_c {K : PySem.W.Frag} {v : V} {d : D} (r : ∀ F, Rp K F v d) : GoodE K (tC v) (FC d) := fun pa w σ d' ρ' R h Q q => by
  obtain ⟨h1, h2⟩ := Prod.mk.inj (Option.some.inj h)
  subst h1
  subst h2
  exact q w v R rfl (Step.refl w) (r w.F)
theorem ge_int {i : Int} {j : Nat} {pos : Pos} : GE X (.Constant (.int i) j pos) (FC (.int i)) := ⟨_, pe_int, good_c fun _ => .int i⟩
theorem ge_bl {b : Bool} {j : Nat} {pos : Pos} : GE X (.Constant (.bool b) j pos) (FC (.bl b)) := ⟨_, pe_bl, good_c fun _ => .bl b⟩
theorem ge_non {j : Nat} {pos : Pos} : GE X (.Constant .none j pos) (FC .non) := ⟨_, pe_non, good_c fun _ => .non⟩
theorem ge_str {x : Str} {j : Nat} {pos : Pos} : GE X (.Constant (.str x) j pos) (FC (.str x)) := ⟨_, pe_str, good_c fun _ => .str x⟩
/-- a module's constant -/
theorem ge_glob {x : Str} {v : V} {u : Value} {d : D} {pos : Pos} (hm : X.mg x = some u) (r : RelV v u) (rp : ∀ F, Rp X.K F v d) (hg : Gl X x := by rfl) (hd : (x == ("__debug__" : Str)) = false := by decide) : GE X (.Name x pos) (FC d) :=
  ⟨_, pe_glob hg hm r hd, good_c rp⟩

/-! ### operators by values -/
def OpG (K : PySem.W.Frag) (r : R2) (g : D → D → Option D) : Prop := ∀ (F H : Hp) (x y : V) (d e z : D), Ex F H → Rp K F x d → Rp K F y e → g d e = some z →
  ∀ Q : VK, (∀ F' H' v, Grow F H F' H' → Rp K F' v z → Q v H') → r x y H Q
def UnG (K : PySem.W.Frag) (r : V → Hp → VK → Prop) (g : D → Option D) : Prop := ∀ (F H : Hp) (x : V) (d z : D), Ex F H → Rp K F x d → g d = some z →
  ∀ Q : VK, (∀ F' H' v, Grow F H F' H' → Rp K F' v z → Q v H') → r x H Q
def CallG (K : PySem.W.Frag) (r : List V → Hp → VK → Prop) (g : List D → Option D) : Prop := ∀ (F H : Hp) (xs : List V) (ds : List D) (z : D), Ex F H → RpA K F xs ds → g ds = some z →
  ∀ Q : VK, (∀ F' H' v, Grow F H F' H' → Rp K F' v z → Q v H') → r xs H Q
def FBin (g : D → D → Option D) (f1 f2 : FE) : FE := fun ρ => bnd (f1 ρ) fun x ρ1 => bnd (f2 ρ1) fun y ρ2 => lft (g x y) ρ2
def FUn (g : D → Option D) (f : FE) : FE := fun ρ => bnd (f ρ) fun x ρ1 => lft (g x) ρ1
def FCall (g : List D → Option D) (f : FA) : FE := fun ρ => bnd (f ρ) fun xs ρ1 => lft (g xs) ρ1
variable {K : PySem.W.Frag}
theorem good_op {r : R2} {g : D → D → Option D} {ta tb : TE} {f1 f2 : FE} (hg : OpG K r g) (ha : GoodE K ta f1) (hb : GoodE K tb f2) : GoodE K (tOp r ta tb) (FBin g f1 f2) := fun pa w σ d ρ' R h Q q => by
  obtain ⟨x, ρ1, e1, h⟩ := bnd_eq h
  obtain ⟨y, ρ2, e2, h⟩ := bnd_eq h
  obtain ⟨z, e3, h⟩ := lft_eq h
  obtain ⟨h1, h2⟩ := Prod.mk.inj h
  subst h1
  subst h2
  refine ha pa w σ x ρ1 R e1 _ fun w1 v1 R1 p1 s1 r1 => ?_
  subst p1
  refine hb pa w1 σ y ρ' R1 e2 _ fun w2 v2 R2 p2 s2 r2 => ?_
  refine hg w2.F w2.H v1 v2 x y d R2.ex (r1.mono s2.ex) r2 e3 _ fun F' H' v gr rp => ?_
  obtain ⟨R3, s3⟩ := R2.grow gr
  exact q _ v R3 p2 ((s1.trans s2).trans s3) rp
theorem good_un {r : V → Hp → VK → Prop} {g : D → Option D} {ta : TE} {f : FE} (hg : UnG K r g) (ha : GoodE K ta f) : GoodE K (tUn r ta) (FUn g f) := fun pa w σ d ρ' R h Q q => by
  obtain ⟨x, ρ1, e1, h⟩ := bnd_eq h
  obtain ⟨z, e3, h⟩ := lft_eq h
  obtain ⟨h1, h2⟩ := Prod.mk.inj h
  subst h1
  subst h2
  refine ha pa w σ x ρ' R e1 _ fun w1 v1 R1 p1 s1 r1 => ?_
  refine hg w1.F w1.H v1 x d R1.ex r1 e3 _ fun F' H' v gr rp => ?_
  obtain ⟨R3, s3⟩ := R1.grow gr
  exact q _ v R3 p1 (s1.trans s3) rp
theorem good_cb {r : List V → Hp → VK → Prop} {g : List D → Option D} {ta : TA} {f : FA} (hg : CallG K r g) (ha : GoodA K ta f) : GoodE K (tCB r ta) (FCall g f) := fun pa w σ d ρ' R h Q q => by
  obtain ⟨x, ρ1, e1, h⟩ := bnd_eq h
  obtain ⟨z, e3, h⟩ := lft_eq h
  obtain ⟨h1, h2⟩ := Prod.mk.inj h
  subst h1
  subst h2
  refine ha pa w σ x ρ' R e1 _ fun w1 v1 R1 p1 s1 r1 => ?_
  refine hg w1.F w1.H v1 x d R1.ex r1 e3 _ fun F' H' v gr rp => ?_
  obtain ⟨R3, s3⟩ := R1.grow gr
  exact q _ v R3 p1 (s1.trans s3) rp
/-! ### argument lists -/
def ANil : FA := fun ρ => some ([], ρ)
def ACons (f : FE) (fa : FA) : FA := fun ρ => bnd (f ρ) fun d ρ1 => bnd (fa ρ1) fun ds ρ2 => some (d :: ds, ρ2)
theorem good_nil : GoodA K tNil ANil := fun pa w σ ds ρ' R h Q q => by
  obtain ⟨h1, h2⟩ := Prod.mk.inj (Option.some.inj h)
  subst h1
  subst h2
  exact q w [] R rfl (Step.refl w) .nil
theorem good_cons {te : TE} {f : FE} {ta : TA} {fa : FA} (he : GoodE K te f) (ha : GoodA K ta fa) : GoodA K (tCons te ta) (ACons f fa) := fun pa w σ ds ρ' R h Q q => by
  obtain ⟨d, ρ1, e1, h⟩ := bnd_eq h
  obtain ⟨es, ρ2, e2, h⟩ := bnd_eq h
  obtain ⟨h1, h2⟩ := Prod.mk.inj (Option.some.inj h)
  subst h1
  subst h2
  refine he pa w σ d ρ1 R e1 _ fun w1 v R1 p1 s1 r1 => ?_
  subst p1
  refine ha pa w1 σ es ρ2 R1 e2 _ fun w2 vs R2 p2 s2 r2 => ?_
  exact q w2 _ R2 p2 (s1.trans s2) (.cons (r1.mono s2.ex) r2)
theorem ga_nil : GA X [] ANil := ⟨_, pa_nil, good_nil⟩
theorem ga_cons {e : Expr} {es : List Expr} {f : FE} {fa : FA} (he : GE X e f) (ha : GA X es fa) (hs : starEach (e :: es) X.env = (false, eval e X.env) :: starEach es X.env := by rfl) : GA X (e :: es) (ACons f fa) := by
  obtain ⟨te, h1, h2⟩ := he
  obtain ⟨ta, h3, h4⟩ := ha
  exact ⟨_, pa_cons h1 h3 hs, good_cons h2 h4⟩
theorem ge_op {op : Operator} {r : R2} {g : D → D → Option D} {a b : Expr} {f1 f2 : FE} {pos : Pos} (ho : OpR X (binaryOp op) r) (hg : OpG X.K r g) (ha : GE X a f1) (hb : GE X b f2) : GE X (.BinOp a op b pos) (FBin g f1 f2) := by
  obtain ⟨ta, h1, h2⟩ := ha
  obtain ⟨tb, h3, h4⟩ := hb
  exact ⟨_, pe_op ho h1 h3, good_op hg h2 h4⟩
theorem ge_un {op : UnaryOp} {r : V → Hp → VK → Prop} {g : D → Option D} {a : Expr} {f : FE} {pos : Pos} (ho : UnR X (unaryOp op) r) (hg : UnG X.K r g) (ha : GE X a f) : GE X (.UnaryOp op a pos) (FUn g f) := by
  obtain ⟨ta, h1, h2⟩ := ha
  exact ⟨_, pe_un ho h1, good_un hg h2⟩
theorem ge_cmp {op : CmpOp} {r : R2} {g : D → D → Option D} {a b : Expr} {f1 f2 : FE} {pos : Pos} (ho : OpR X (compareOp op) r) (hg : OpG X.K r g) (ha : GE X a f1) (hb : GE X b f2) (hm : behindInMarks op b = false) : GE X (.Compare a [op] [b] pos) (FBin g f1 f2) := by
  obtain ⟨ta, h1, h2⟩ := ha
  obtain ⟨tb, h3, h4⟩ := hb
  exact ⟨_, pe_cmpR ho h1 h3 hm, good_op hg h2 h4⟩
/-- a value that is a bool, as a test -/
def BVal (f : FE) : FB := fun ρ => bnd (f ρ) fun d ρ1 => match d with
  | .bl b => some (b, ρ1)
  | _ => none
theorem good_test {te : TE} {f : FE} (he : GoodE K te f) : GoodB K (fun σ H Q => te σ H fun x H' => ∃ k, x = .bl k ∧ Q k H') (BVal f) := fun pa w σ b ρ' R h Q q => by
  obtain ⟨d, ρ1, e1, h⟩ := bnd_eq h
  split at h
  · rename_i c
    obtain ⟨h1, h2⟩ := Prod.mk.inj (Option.some.inj h)
    subst h1
    subst h2
    refine he pa w σ _ _ R e1 _ fun w1 v R1 p1 s1 r1 => ?_
    cases r1
    exact ⟨_, rfl, q w1 R1 p1 s1⟩
  · cases h
theorem gb_cmp {op : CmpOp} {r : R2} {g : D → D → Option D} {a b : Expr} {f1 f2 : FE} {pos : Pos} (ho : OpR X (compareOp op) r) (hg : OpG X.K r g) (ha : GE X a f1) (hb : GE X b f2) (hm : behindInMarks op b = false) : GB X (.Compare a [op] [b] pos) (BVal (FBin g f1 f2)) := by
  obtain ⟨ta, h1, h2⟩ := ha
  obtain ⟨tb, h3, h4⟩ := hb
  exact ⟨_, pt_cmpR ho h1 h3 hm, good_test (good_op hg h2 h4)⟩
theorem gb_val {e : Expr} {f : FE} (h : GE X e f) (he : ∀ whole, isTrue e X.env whole = (do let v ← whole; standAt e.pos; holding [v] (truthy v)) := by intro _; rfl) : GB X e (BVal f) := by
  obtain ⟨te, h1, h2⟩ := h
  exact ⟨_, pt_val h1 he, good_test h2⟩
/-- a < b < c -/
def FChain (g g' : D → D → Option D) (f1 f2 f3 : FE) : FE := fun ρ => bnd (f1 ρ) fun x ρ1 => bnd (f2 ρ1) fun y ρ2 => bnd (lft (g x y) ρ2) fun z ρ2 => match z with
  | .bl true => bnd (f3 ρ2) fun t ρ3 => lft (g' y t) ρ3
  | .bl false => some (.bl false, ρ2)
  | _ => none
theorem good_chain {r r' : R2} {g g' : D → D → Option D} {ta tb tc : TE} {f1 f2 f3 : FE} (hg : OpG K r g) (hg' : OpG K r' g') (ha : GoodE K ta f1) (hb : GoodE K tb f2) (hc : GoodE K tc f3) : GoodE K (tChain r r' ta tb tc) (FChain g g' f1 f2 f3) := fun pa w σ d ρ' R h Q q => by
  obtain ⟨x, ρ1, e1, h⟩ := bnd_eq h
  obtain ⟨y, ρ2, e2, h⟩ := bnd_eq h
  obtain ⟨z, ρ3, e3, hh⟩ := bnd_eq h
  clear h
  obtain ⟨z', e4, h4⟩ := lft_eq e3
  obtain ⟨q1, q2⟩ := Prod.mk.inj h4
  subst q1
  subst q2
  refine ha pa w σ x ρ1 R e1 _ fun w1 v1 R1 p1 s1 r1 => ?_
  subst p1
  refine hb pa w1 σ y ρ3 R1 e2 _ fun w2 v2 R2 p2 s2 r2 => ?_
  refine hg w2.F w2.H v1 v2 x y z R2.ex (r1.mono s2.ex) r2 e4 _ fun F' H' v gr rp => ?_
  obtain ⟨R3, s3⟩ := R2.grow gr
  split at hh
  · cases rp
    refine ⟨true, rfl, ?_⟩
    rw [if_pos rfl]
    obtain ⟨t, ρ4, e5, h⟩ := bnd_eq hh
    obtain ⟨u, e6, h⟩ := lft_eq h
    obtain ⟨h1, h2⟩ := Prod.mk.inj h
    subst h1
    subst h2
    refine hc pa _ σ t ρ' R3 (by rw [p2]; exact e5) _ fun w4 v4 R4 p4 s4 r4 => ?_
    refine hg' w4.F w4.H v2 v4 y t d R4.ex ((r2.mono gr.e1).mono s4.ex) r4 e6 _ fun F5 H5 v5 gr5 rp5 => ?_
    obtain ⟨R5, s5⟩ := R4.grow gr5
    exact q _ v5 R5 p4 ((((s1.trans s2).trans s3).trans s4).trans s5) rp5
  · cases rp
    refine ⟨false, rfl, ?_⟩
    rw [if_neg Bool.false_ne_true]
    obtain ⟨h1, h2⟩ := Prod.mk.inj (Option.some.inj hh)
    subst h1
    subst h2
    exact q _ _ R3 p2 ((s1.trans s2).trans s3) (.bl false)
  · cases hh
theorem ge_chain {op op' : CmpOp} {r r' : R2} {g g' : D → D → Option D} {a b c : Expr} {f1 f2 f3 : FE} {pos : Pos} (ho : OpR X (compareOp op) r) (ho' : OpR X (compareOp op') r') (hg : OpG X.K r g) (hg' : OpG X.K r' g') (ha : GE X a f1) (hb : GE X b f2) (hc : GE X c f3) (hm : lastMarks [op, op'] [b, c] = false := by rfl) :
    GE X (.Compare a [op, op'] [b, c] pos) (FChain g g' f1 f2 f3) := by
  obtain ⟨ta, h1, h2⟩ := ha
  obtain ⟨tb, h3, h4⟩ := hb
  obtain ⟨tc, h5, h6⟩ := hc
  exact ⟨_, pe_chain ho ho' h1 h3 h5 (hm := hm), good_chain hg hg' h2 h4 h6⟩
theorem gb_chain {op op' : CmpOp} {r r' : R2} {g g' : D → D → Option D} {a b c : Expr} {f1 f2 f3 : FE} {pos : Pos} (ho : OpR X (compareOp op) r) (ho' : OpR X (compareOp op') r') (hg : OpG X.K r g) (hg' : OpG X.K r' g') (ha : GE X a f1) (hb : GE X b f2) (hc : GE X c f3) (hm : lastMarks [op, op'] [b, c] = false := by rfl) :
    GB X (.Compare a [op, op'] [b, c] pos) (BVal (FChain g g' f1 f2 f3)) := by
  obtain ⟨ta, h1, h2⟩ := ha
  obtain ⟨tb, h3, h4⟩ := hb
  obtain ⟨tc, h5, h6⟩ := hc
  exact ⟨_, pt_chain ho ho' h1 h3 h5 (hm := hm), good_test (good_chain hg hg' h2 h4 h6)⟩
/-! ### and, or, not -/
def BAnd (f g : FB) : FB := fun ρ => bnd (f ρ) fun b ρ1 => if b = true then g ρ1 else some (false, ρ1)
def BOr (f g : FB) : FB := fun ρ => bnd (f ρ) fun b ρ1 => if b = true then some (true, ρ1) else g ρ1
def BNot (f : FB) : FB := fun ρ => bnd (f ρ) fun b ρ1 => some (!b, ρ1)
theorem good_and {t u : TT} {f g : FB} (h1 : GoodB K t f) (h2 : GoodB K u g) : GoodB K (tAnd t u) (BAnd f g) := fun pa w σ b ρ' R h Q q => by
  obtain ⟨c, ρ1, e1, h⟩ := bnd_eq h
  refine h1 pa w σ c ρ1 R e1 _ fun w1 R1 p1 s1 => ?_
  subst p1
  cases c with
  | true =>
    rw [if_pos rfl] at h ⊢
    exact h2 pa w1 σ b ρ' R1 h Q fun w2 R2 p2 s2 => q w2 R2 p2 (s1.trans s2)
  | false =>
    rw [if_neg Bool.false_ne_true] at h ⊢
    obtain ⟨h1, h2⟩ := Prod.mk.inj (Option.some.inj h)
    subst h1
    exact q w1 R1 h2 s1
theorem good_or {t u : TT} {f g : FB} (h1 : GoodB K t f) (h2 : GoodB K u g) : GoodB K (tOr t u) (BOr f g) := fun pa w σ b ρ' R h Q q => by
  obtain ⟨c, ρ1, e1, h⟩ := bnd_eq h
  refine h1 pa w σ c ρ1 R e1 _ fun w1 R1 p1 s1 => ?_
  subst p1
  cases c with
  | true =>
    rw [if_pos rfl] at h ⊢
    obtain ⟨h1, h2⟩ := Prod.mk.inj (Option.some.inj h)
    subst h1
    exact q w1 R1 h2 s1
  | false =>
    rw [if_neg Bool.false_ne_true] at h ⊢
    exact h2 pa w1 σ b ρ' R1 h Q fun w2 R2 p2 s2 => q w2 R2 p2 (s1.trans s2)
theorem good_not {t : TT} {f : FB} (h1 : GoodB K t f) : GoodB K (tNot t) (BNot f) := fun pa w σ b ρ' R h Q q => by
  obtain ⟨c, ρ1, e1, h⟩ := bnd_eq h
  obtain ⟨h2, h3⟩ := Prod.mk.inj (Option.some.inj h)
  subst h2
  subst h3
  exact h1 pa w σ c ρ1 R e1 _ fun w1 R1 p1 s1 => q w1 R1 p1 s1
variable {a b : Expr} {rest : List Expr} {pos : Pos} {fa fb : FB} {f1 f2 : FE}
theorem gw_and1 (ha : GB X a fa) : GW X (.BoolOp .And [a] pos) fa := let ⟨_, h1, h2⟩ := ha; ⟨_, pw_and1 h1, h2⟩
theorem gw_or1 (ha : GB X a fa) : GW X (.BoolOp .Or [a] pos) fa := let ⟨_, h1, h2⟩ := ha; ⟨_, pw_or1 h1, h2⟩
theorem gw_and (ha : GB X a fa) (hb : GW X (.BoolOp .And (b :: rest) pos) fb) : GW X (.BoolOp .And (a :: b :: rest) pos) (BAnd fa fb) := let ⟨_, h1, h2⟩ := ha; let ⟨_, h3, h4⟩ := hb; ⟨_, pw_and h1 h3, good_and h2 h4⟩
theorem gw_or (ha : GB X a fa) (hb : GW X (.BoolOp .Or (b :: rest) pos) fb) : GW X (.BoolOp .Or (a :: b :: rest) pos) (BOr fa fb) := let ⟨_, h1, h2⟩ := ha; let ⟨_, h3, h4⟩ := hb; ⟨_, pw_or h1 h3, good_or h2 h4⟩
theorem GW.gb {e : Expr} (h : GW X e fa) : GB X e fa := let ⟨_, h1, h2⟩ := h; ⟨_, h1.pt, h2⟩
theorem gb_not (ha : GB X a fa) : GB X (.UnaryOp .Not a pos) (BNot fa) := let ⟨_, h1, h2⟩ := ha; ⟨_, pt_not h1, good_not h2⟩
/-- .. as values -/
def FAnd (f g : FE) : FE := fun ρ => bnd (f ρ) fun d ρ1 => match d with
  | .bl true => g ρ1
  | .bl false => some (.bl false, ρ1)
  | _ => none
def FOr (f g : FE) : FE := fun ρ => bnd (f ρ) fun d ρ1 => match d with
  | .bl true => some (.bl true, ρ1)
  | .bl false => g ρ1
  | _ => none
def FNot (f : FE) : FE := fun ρ => bnd (f ρ) fun d ρ1 => match d with
  | .bl b => some (.bl (!b), ρ1)
  | _ => none
theorem good_andV {ta tb : TE} {f g : FE} (h1 : GoodE K ta f) (h2 : GoodE K tb g) : GoodE K (tAndV ta tb) (FAnd f g) := fun pa w σ d ρ' R h Q q => by
  obtain ⟨c, ρ1, e1, h⟩ := bnd_eq h
  refine h1 pa w σ c ρ1 R e1 _ fun w1 v R1 p1 s1 r1 => ?_
  subst p1
  split at h
  · cases r1
    refine ⟨true, rfl, ?_⟩
    rw [if_pos rfl]
    exact h2 pa w1 σ d ρ' R1 h Q fun w2 v2 R2 p2 s2 r2 => q w2 v2 R2 p2 (s1.trans s2) r2
  · cases r1
    refine ⟨false, rfl, ?_⟩
    rw [if_neg Bool.false_ne_true]
    obtain ⟨h1, h2⟩ := Prod.mk.inj (Option.some.inj h)
    subst h1
    exact q w1 _ R1 h2 s1 (.bl false)
  · cases h
theorem good_orV {ta tb : TE} {f g : FE} (h1 : GoodE K ta f) (h2 : GoodE K tb g) : GoodE K (tOrV ta tb) (FOr f g) := fun pa w σ d ρ' R h Q q => by
  obtain ⟨c, ρ1, e1, h⟩ := bnd_eq h
  refine h1 pa w σ c ρ1 R e1 _ fun w1 v R1 p1 s1 r1 => ?_
  subst p1
  split at h
  · cases r1
    refine ⟨true, rfl, ?_⟩
    rw [if_pos rfl]
    obtain ⟨h1, h2⟩ := Prod.mk.inj (Option.some.inj h)
    subst h1
    exact q w1 _ R1 h2 s1 (.bl true)
  · cases r1
    refine ⟨false, rfl, ?_⟩
    rw [if_neg Bool.false_ne_true]
    exact h2 pa w1 σ d ρ' R1 h Q fun w2 v2 R2 p2 s2 r2 => q w2 v2 R2 p2 (s1.trans s2) r2
  · cases h
theorem good_notV {ta : TE} {f : FE} (h1 : GoodE K ta f) : GoodE K (tNotV ta) (FNot f) := fun pa w σ d ρ' R h Q q => by
  obtain ⟨c, ρ1, e1, h⟩ := bnd_eq h
  refine h1 pa w σ c ρ1 R e1 _ fun w1 v R1 p1 s1 r1 => ?_
  split at h
  · cases r1
    obtain ⟨h1, h2⟩ := Prod.mk.inj (Option.some.inj h)
    subst h1
    subst h2
    exact ⟨_, rfl, q w1 _ R1 p1 s1 (.bl _)⟩
  · cases h
theorem ge_one {op : BoolOp} (ha : GE X a f1) : GE X (.BoolOp op [a] pos) f1 := let ⟨_, h1, h2⟩ := ha; ⟨_, pe_one h1, h2⟩
theorem ge_and (ha : GE X a f1) (hb : GE X (.BoolOp .And (b :: rest) pos) f2) : GE X (.BoolOp .And (a :: b :: rest) pos) (FAnd f1 f2) := let ⟨_, h1, h2⟩ := ha; let ⟨_, h3, h4⟩ := hb; ⟨_, pe_and h1 h3, good_andV h2 h4⟩
theorem ge_or (ha : GE X a f1) (hb : GE X (.BoolOp .Or (b :: rest) pos) f2) : GE X (.BoolOp .Or (a :: b :: rest) pos) (FOr f1 f2) := let ⟨_, h1, h2⟩ := ha; let ⟨_, h3, h4⟩ := hb; ⟨_, pe_or h1 h3, good_orV h2 h4⟩
theorem ge_not (ha : GE X a f1) : GE X (.UnaryOp .Not a pos) (FNot f1) := let ⟨_, h1, h2⟩ := ha; ⟨_, pe_not h1, good_notV h2⟩
/-- a if t else b -/
def FIf (c : FB) (f g : FE) : FE := fun ρ => bnd (c ρ) fun b ρ1 => if b = true then f ρ1 else g ρ1
theorem good_ifE {t : TT} {ta tb : TE} {c : FB} {f g : FE} (hc : GoodB K t c) (h1 : GoodE K ta f) (h2 : GoodE K tb g) : GoodE K (tIf t ta tb) (FIf c f g) := fun pa w σ d ρ' R h Q q => by
  obtain ⟨b, ρ1, e1, h⟩ := bnd_eq h
  refine hc pa w σ b ρ1 R e1 _ fun w1 R1 p1 s1 => ?_
  subst p1
  cases b with
  | true =>
    rw [if_pos rfl] at h ⊢
    exact h1 pa w1 σ d ρ' R1 h Q fun w2 v2 R2 p2 s2 r2 => q w2 v2 R2 p2 (s1.trans s2) r2
  | false =>
    rw [if_neg Bool.false_ne_true] at h ⊢
    exact h2 pa w1 σ d ρ' R1 h Q fun w2 v2 R2 p2 s2 r2 => q w2 v2 R2 p2 (s1.trans s2) r2
theorem ge_if {c : Expr} (hc : GB X c fa) (ha : GE X a f1) (hb : GE X b f2) : GE X (.IfExp c a b pos) (FIf fa f1 f2) := let ⟨_, h1, h2⟩ := hc; let ⟨_, h3, h4⟩ := ha; let ⟨_, h5, h6⟩ := hb; ⟨_, pe_ifExp h1 h3 h5, good_ifE h2 h4 h6⟩
/-! ### tuples, lists -/
def FTup (fa : FA) : FE := fun ρ => bnd (fa ρ) fun ds ρ1 => if ds.length ≤ 16777216 then some (.tup ds, ρ1) else none
def FLst (fa : FA) : FE := fun ρ => bnd (fa ρ) fun ds ρ1 => if ds.length ≤ 16777216 then some (.lst ds, ρ1) else none
theorem line_le {n : Nat} (h : n ≤ 16777216) : n ≤ sizeLine := by
  rw [sizeLine_eq]
  exact h
theorem good_tup {ta : TA} {fa : FA} (h1 : GoodA K ta fa) : GoodE K (tTup ta) (FTup fa) := fun pa w σ d ρ' R h Q q => by
  obtain ⟨ds, ρ1, e1, h⟩ := bnd_eq h
  split at h
  · rename_i hz
    obtain ⟨q1, q2⟩ := Prod.mk.inj (Option.some.inj h)
    subst q1
    subst q2
    refine h1 pa w σ ds ρ1 R e1 _ fun w1 vs R1 p1 s1 r1 => ⟨by rw [r1.length]; exact line_le hz, fun p hp => ?_⟩
    obtain ⟨R2, s2⟩ := R1.grow (Grow.new (o := .tup vs) R1.ex hp)
    exact q _ _ R2 p1 (s1.trans s2) (.tup (.inl (.inl upd_same)) (r1.mono s2.ex))
  · cases h
theorem good_lst {ta : TA} {fa : FA} (h1 : GoodA K ta fa) : GoodE K (tLst ta) (FLst fa) := fun pa w σ d ρ' R h Q q => by
  obtain ⟨ds, ρ1, e1, h⟩ := bnd_eq h
  split at h
  · rename_i hz
    obtain ⟨q1, q2⟩ := Prod.mk.inj (Option.some.inj h)
    subst q1
    subst q2
    refine h1 pa w σ ds ρ1 R e1 _ fun w1 vs R1 p1 s1 r1 => ⟨by rw [r1.length]; exact line_le hz, fun p hp => ?_⟩
    obtain ⟨R2, s2⟩ := R1.grow (Grow.new (o := .lst vs) R1.ex hp)
    exact q _ _ R2 p1 (s1.trans s2) (.lst upd_same (r1.mono s2.ex))
  · cases h
theorem ge_tup {es : List Expr} {fa : FA} {x1 : Nat} (h : GA X es fa) : GE X (.Tuple es x1 pos) (FTup fa) := let ⟨_, h1, h2⟩ := h; ⟨_, pe_tup h1, good_tup h2⟩
theorem ge_lst {es : List Expr} {fa : FA} (h : GA X es fa) : GE X (.List es pos) (FLst fa) := let ⟨_, h1, h2⟩ := h; ⟨_, pe_lst h1, good_lst h2⟩
/-! ### subscripts, slices -/
theorem ge_ix {r : R2} {g : D → D → Option D} (ho : IxR X r) (hg : OpG X.K r g) (ha : GE X a f1) (hb : GE X b f2) (hs : PlainIx b := by exact fun _ _ => rfl) : GE X (.Subscript a b pos) (FBin g f1 f2) := by
  obtain ⟨ta, h1, h2⟩ := ha
  obtain ⟨tb, h3, h4⟩ := hb
  exact ⟨_, pe_ix ho h1 h3 hs, good_op hg h2 h4⟩
/-! ### built-ins -/
theorem ge_callB {x : Str} {p : Pos} {e : Expr} {es : List Expr} {fa : FA} {id : String} {r : List V → Hp → VK → Prop} {g : List D → Option D} (hc : CallR X (.builtin id) r) (hg : CallG X.K r g) (ha : GA X (e :: es) fa) (hm : X.mg x = none) (hgl : Gl X x := by rfl) (hv : bootBuiltins x = some (.builtin id) := by decide +kernel) (hn : x ≠ "__name__" := by decide) (hdb : (x == ("__debug__" : Str)) = false := by decide)
    (he : starEach (e :: es) X.env = (false, eval e X.env) :: starEach es X.env := by rfl) (hpl : (backTo pos (starEach es X.env)).any (·.1) = false := by rfl) : GE X (.Call (.Name x p) (e :: es) [] pos) (FCall g fa) := by
  obtain ⟨ta, h1, h2⟩ := ha
  exact ⟨_, pe_callB hc hgl hm hv h1 hn hdb he hpl, good_cb hg h2⟩
theorem ge_callTy {x : Str} {p : Pos} {e : Expr} {es : List Expr} {fa : FA} {T : String} {r : List V → Hp → VK → Prop} {g : List D → Option D} (hc : CallR X (.type T) r) (hg : CallG X.K r g) (ha : GA X (e :: es) fa) (hm : X.mg x = none) (hgl : Gl X x := by rfl) (hv : bootBuiltins x = some (.type T) := by decide +kernel) (hn : x ≠ "__name__" := by decide) (hdb : (x == ("__debug__" : Str)) = false := by decide)
    (he : starEach (e :: es) X.env = (false, eval e X.env) :: starEach es X.env := by rfl) (hpl : (backTo pos (starEach es X.env)).any (·.1) = false := by rfl) : GE X (.Call (.Name x p) (e :: es) [] pos) (FCall g fa) := by
  obtain ⟨ta, h1, h2⟩ := ha
  exact ⟨_, pe_callTy hc hgl hm hv h1 hn hdb he hpl, good_cb hg h2⟩
end
end Dn
end
section
set_option maxHeartbeats 4000000
namespace Dn
open PySem PySem.Spec PyProof.Rows L2

/-! ### targets -/
section
variable {X : Cx} {K : PySem.W.Frag} {pos : Pos}
def TName (i : Nat) : FT := fun d ρ => if i < ρ.length then some (ρ.set i (.fz d)) else none
theorem Rel.store {pa : Nat → Addr} {w : Wd} {σ : L2.St} {i : Nat} {v : V} {d : D} (R : Rel K pa w σ) (r : Rp K w.F v d) (hi : i < w.ρ.length) : Rel K pa ⟨w.F, w.H, w.al, w.ρ.set i (.fz d)⟩ (σ.set i (some v)) ∧ Step w ⟨w.F, w.H, w.al, w.ρ.set i (.fz d)⟩ := by
  have no : ∀ (j : Nat) (t : Option Nat) (es : List D), (w.ρ.set i (.fz d))[j]? = some (.ow t es) → i ≠ j ∧ w.ρ[j]? = some (.ow t es) := fun j t es hj => by
    have z : i ≠ j := fun z => by
      subst z
      rw [List.getElem?_set_self hi] at hj
      cases hj
    rw [List.getElem?_set_ne z] at hj
    exact ⟨z, hj⟩
  refine ⟨⟨R.ex, ?_, fun j e hj => ?_, fun j t es hj => ?_, fun j j' t u es es' hj hj' => R.inj j j' t u es es' (no j t es hj).2 (no j' u es' hj').2⟩, ⟨Ex.refl _, fun _ _ h _ => h, fun _ _ _ _ h => h, fun b ⟨j, t, es, hj, e⟩ => .inl ⟨j, t, es, (no j t es hj).2, e⟩, fun _ h => h⟩⟩
  · rw [List.length_set, List.length_set]
    exact R.len
  · by_cases z : i = j
    · subst z
      dsimp only at hj
      rw [List.getElem?_set_self hi] at hj
      cases hj
      exact ⟨v, List.getElem?_set_self (by rw [← R.len]; exact hi), r⟩
    · dsimp only at hj
      rw [List.getElem?_set_ne z] at hj
      obtain ⟨u, b1, b2⟩ := R.fz j e hj
      exact ⟨u, by rw [List.getElem?_set_ne z]; exact b1, b2⟩
  · obtain ⟨z, hj⟩ := no j t es hj
    obtain ⟨b1, b2⟩ := R.ow j t es hj
    exact ⟨by rw [List.getElem?_set_ne z]; exact b1, b2⟩
theorem good_name (i : Nat) : GoodT K (gName i) (TName i) [i] := fun pa w σ v d ρ' R r h Q q => by
  unfold TName at h
  split at h
  · rename_i hi
    have e := Option.some.inj h
    subst e
    obtain ⟨R1, s1⟩ := R.store r hi
    exact q ⟨w.F, w.H, w.al, w.ρ.set i (.fz d)⟩ (σ.set i (some v)) R1 rfl s1 (fun j hj => List.getElem?_set_ne fun z => hj (by simp [z])) (by rw [List.length_set])
  · cases h
theorem gt_name (i : Nat) {x : Str} (hN : X.N.Nodup) (hi : X.N[i]? = some x := by rfl) (hx : Loc X.env.scope x := by first | exact .inl rfl | exact .inr rfl) (hf : X.fn x = true ∨ X.env.scope.names.lookup x = some .local := by first | exact .inl rfl | exact .inr rfl) : GT X (.Name x pos) (TName i) [i] := ⟨_, pg_name hN hi hx hf, good_name i⟩
/-- several targets -/
def TNil : List D → List Sl → Option (List Sl)
  | [], ρ => some ρ
  | _ :: _, _ => none
def TCons (g : FT) (gs : List D → List Sl → Option (List Sl)) : List D → List Sl → Option (List Sl)
  | [], _ => none
  | d :: ds, ρ => (g d ρ).bind (gs ds)
def GoodTs (K : PySem.W.Frag) (tg : TGs) (f : List D → List Sl → Option (List Sl)) (ts : List Nat) : Prop := ∀ (pa : Nat → Addr) (w : Wd) (σ : L2.St) (vs : List V) (ds : List D) (ρ' : List Sl), Rel K pa w σ → RpA K w.F vs ds → f ds w.ρ = some ρ' →
  ∀ Q : L2.St → Hp → Prop, (∀ (w' : Wd) (σ' : L2.St), Rel K pa w' σ' → w'.ρ = ρ' → Step w w' → (∀ i : Nat, i ∉ ts → σ'[i]? = σ[i]?) → σ'.length = σ.length → Q σ' w'.H) → tg vs σ w.H Q
structure GTs (X : Cx) (tg : List Expr) (f : List D → List Sl → Option (List Sl)) (ts : List Nat) : Prop where
  ok : ∃ t, PGs X tg t ∧ GoodTs X.K t f ts
theorem gts_nil : GTs X [] TNil [] := ⟨_, pgs_nil, fun pa w σ vs ds ρ' R r h Q q => by
  cases r with
  | nil =>
    have e := Option.some.inj h
    subst e
    exact ⟨rfl, q w σ R rfl (Step.refl w) (fun _ _ => rfl) rfl⟩
  | cons _ _ => cases h⟩
theorem gts_cons {e : Expr} {es : List Expr} {g : FT} {gs : List D → List Sl → Option (List Sl)} {ts us : List Nat} (h1 : GT X e g ts) (h2 : GTs X es gs us) (hs : (assignEach (e :: es) X.env).map (·.2) = assign e X.env :: (assignEach es X.env).map (·.2) := by rfl) : GTs X (e :: es) (TCons g gs) (ts ++ us) := by
  obtain ⟨t, a1, a2⟩ := h1
  obtain ⟨u, b1, b2⟩ := h2
  refine ⟨_, pgs_cons a1 b1 hs, fun pa w σ vs ds ρ' R r h Q q => ?_⟩
  cases r with
  | nil => cases h
  | @cons v vs d ds r rr =>
    obtain ⟨ρ1, e1, e2⟩ := Option.bind_eq_some_iff.mp h
    refine ⟨v, vs, rfl, a2 pa w σ v d ρ1 R r e1 _ fun w1 σ1 R1 p1 s1 k1 l1 => ?_⟩
    subst p1
    refine b2 pa w1 σ1 vs ds ρ' R1 (rr.mono s1.ex) e2 _ fun w2 σ2 R2 p2 s2 k2 l2 => ?_
    refine q w2 σ2 R2 p2 (s1.trans s2) (fun i hi => ?_) (l2.trans l1)
    rw [k2 i (fun z => hi (List.mem_append_right _ z)), k1 i (fun z => hi (List.mem_append_left _ z))]
def TTup (gs : List D → List Sl → Option (List Sl)) : FT := fun d ρ => match d with
  | .tup ds => gs ds ρ
  | _ => none
theorem TCons_len {g : FT} {gs : List D → List Sl → Option (List Sl)} {n : Nat} (h : ∀ ds ρ ρ', gs ds ρ = some ρ' → ds.length = n) : ∀ ds ρ ρ', TCons g gs ds ρ = some ρ' → ds.length = n + 1
  | [], _, _, q => by cases q
  | d :: ds, ρ, ρ', q => by
    obtain ⟨ρ1, _, e2⟩ := Option.bind_eq_some_iff.mp q
    rw [List.length_cons, h ds ρ1 ρ' e2]
theorem TNil_len : ∀ (ds : List D) (ρ ρ' : List Sl), TNil ds ρ = some ρ' → ds.length = 0
  | [], _, _, _ => rfl
  | _ :: _, _, _, q => by cases q
theorem gt_tup {es : List Expr} {k n : Nat} {gs : List D → List Sl → Option (List Sl)} {ts : List Nat} (h : GTs X es gs ts) (hl : ∀ ds ρ ρ', gs ds ρ = some ρ' → ds.length = n) (hc : X.calm = true := by rfl)
    (hn : (assignEach es X.env).length = n := by rfl) (hst : (assignEach es X.env).findIdx? (·.1) = none := by rfl) : GT X (.Tuple es k pos) (TTup gs) ts := by
  obtain ⟨t, a1, a2⟩ := h
  refine ⟨_, pg_tup hc a1 hn hst, fun pa w σ v d ρ' R r h Q q => ?_⟩
  cases r with
  | tup sq ra => exact ⟨_, _, rfl, R.ex.t sq, by rw [ra.length]; exact hl _ _ _ h, a2 pa w σ _ _ ρ' R ra h Q q⟩
  | _ => cases h

/-! ### statements -/
def SNx : FS := fun ρ => some (.nx, ρ)
def SSeq (f g : FS) : FS := fun ρ => bnd (f ρ) fun o ρ1 => match o with
  | .nx => g ρ1
  | o => some (o, ρ1)
theorem Post.step {pa : Nat → Addr} {w w1 : Wd} {o : Ou} {ρ' : List Sl} {E : Ends} (s : Step w w1) (h : Post K pa w o ρ' E) : Post K pa w1 o ρ' E := by
  cases o with
  | nx => exact fun w' σ' R p s' => h w' σ' R p (s.trans s')
  | bk => exact fun w' σ' R p s' => h w' σ' R p (s.trans s')
  | ct => exact fun w' σ' R p s' => h w' σ' R p (s.trans s')
  | ret d => exact fun w' σ' v R p s' => h w' σ' v R p (s.trans s')
  | rto ds => exact fun w' σ' P acc R p s' n => h w' σ' P acc R p (s.trans s') (n.elim (s.ow P) fun z => .inr (s.st P z))
theorem good_seq {t u : TS} {f g : FS} (h1 : GoodS K t f) (h2 : GoodS K u g) : GoodS K (tSeq t u) (SSeq f g) := fun pa w σ o ρ' R h E q => by
  obtain ⟨o1, ρ1, e1, h⟩ := bnd_eq h
  refine h1 pa w σ o1 ρ1 R e1 _ ?_
  cases o1 with
  | nx => exact fun w1 σ1 R1 p1 s1 => h2 pa w1 σ1 o ρ' R1 (by rw [p1]; exact h) E (q.step s1)
  | bk =>
    obtain ⟨q1, q2⟩ := Prod.mk.inj (Option.some.inj h)
    subst q1
    subst q2
    exact q
  | ct =>
    obtain ⟨q1, q2⟩ := Prod.mk.inj (Option.some.inj h)
    subst q1
    subst q2
    exact q
  | ret d =>
    obtain ⟨q1, q2⟩ := Prod.mk.inj (Option.some.inj h)
    subst q1
    subst q2
    exact q
  | rto d =>
    obtain ⟨q1, q2⟩ := Prod.mk.inj (Option.some.inj h)
    subst q1
    subst q2
    exact q
theorem good_nx : GoodS K tNext SNx := fun pa w σ o ρ' R h E q => by
  obtain ⟨q1, q2⟩ := Prod.mk.inj (Option.some.inj h)
  subst q1
  exact q w σ R q2 (Step.refl w)
variable {st : Stmt} {rest body : List Stmt} {f g : FS} {e : Expr} {fe : FE}
theorem gss_nil : GSs X [] SNx := ⟨_, pss_nil, good_nx⟩
theorem gss_one (h : GS X st f) : GSs X [st] f := let ⟨_, a, b⟩ := h; ⟨_, pss_one a, b⟩
theorem gss_cons (h : GS X st f) (h2 : GSs X rest g) : GSs X (st :: rest) (SSeq f g) := let ⟨_, a, b⟩ := h; let ⟨_, c, d⟩ := h2; ⟨_, pss_cons a c, good_seq b d⟩
theorem gs_pass : GS X (.Pass pos) SNx := ⟨_, ps_pass, good_nx⟩
/-- never reached -/
def SNo : FS := fun _ => none
theorem gs_never : GS X st SNo := ⟨_, ps_never, fun pa w σ o ρ' R h E q => by cases h⟩
def SBk : FS := fun ρ => some (.bk, ρ)
def SCt : FS := fun ρ => some (.ct, ρ)
theorem gs_break : GS X (.Break pos) SBk := ⟨_, ps_break, fun pa w σ o ρ' R h E q => by
  obtain ⟨q1, q2⟩ := Prod.mk.inj (Option.some.inj h)
  subst q1
  exact q w σ R q2 (Step.refl w)⟩
theorem gs_continue : GS X (.Continue pos) SCt := ⟨_, ps_continue, fun pa w σ o ρ' R h E q => by
  obtain ⟨q1, q2⟩ := Prod.mk.inj (Option.some.inj h)
  subst q1
  exact q w σ R q2 (Step.refl w)⟩
theorem gs_doc {x : Str} {j : Nat} {pos' : Pos} : GS X (.Expr (.Constant (.str x) j pos) pos') SNx := ⟨_, ps_doc, good_nx⟩
def SDrop (f : FE) : FS := fun ρ => bnd (f ρ) fun _ ρ1 => some (.nx, ρ1)
theorem gs_expr (h : GE X e fe) (hs : swapsWith e none pos.line X.env = pure false := by rfl) : GS X (.Expr e pos) (SDrop fe) := by
  obtain ⟨te, a, b⟩ := h
  refine ⟨_, ps_expr a hs, fun pa w σ o ρ' R h E q => ?_⟩
  obtain ⟨d, ρ1, e1, h⟩ := bnd_eq h
  obtain ⟨q1, q2⟩ := Prod.mk.inj (Option.some.inj h)
  subst q1
  subst q2
  exact b pa w σ d ρ1 R e1 _ fun w1 v R1 p1 s1 r1 => q w1 σ R1 p1 s1
def SRet (f : FE) : FS := fun ρ => bnd (f ρ) fun d ρ1 => some (.ret d, ρ1)
theorem gs_ret (h : GE X e fe) : GS X (.Return (some e) pos) (SRet fe) := by
  obtain ⟨te, a, b⟩ := h
  refine ⟨_, ps_ret a, fun pa w σ o ρ' R h E q => ?_⟩
  obtain ⟨d, ρ1, e1, h⟩ := bnd_eq h
  obtain ⟨q1, q2⟩ := Prod.mk.inj (Option.some.inj h)
  subst q1
  subst q2
  exact b pa w σ d ρ1 R e1 _ fun w1 v R1 p1 s1 r1 => q w1 σ v R1 p1 s1 r1
def SRetN : FS := fun ρ => some (.ret .non, ρ)
theorem gs_retN : GS X (.Return none pos) SRetN := ⟨_, ps_retN, fun pa w σ o ρ' R h E q => by
  obtain ⟨q1, q2⟩ := Prod.mk.inj (Option.some.inj h)
  subst q1
  exact q w σ .non R q2 (Step.refl w) .non⟩
def SIf (c : FB) (f g : FS) : FS := fun ρ => bnd (c ρ) fun b ρ1 => if b = true then f ρ1 else g ρ1
theorem gs_if {c : Expr} {fc : FB} {a b : List Stmt} (hc : GB X c fc) (ha : GSs X a f) (hb : GSs X b g) : GS X (.If c a b pos) (SIf fc f g) := by
  obtain ⟨tc, c1, c2⟩ := hc
  obtain ⟨ta, a1, a2⟩ := ha
  obtain ⟨tb, b1, b2⟩ := hb
  refine ⟨_, ps_if c1 a1 b1, fun pa w σ o ρ' R h E q => ?_⟩
  obtain ⟨k, ρ1, e1, h⟩ := bnd_eq h
  refine c2 pa w σ k ρ1 R e1 _ fun w1 R1 p1 s1 => ?_
  subst p1
  cases k with
  | true =>
    rw [if_pos rfl] at h ⊢
    exact a2 pa w1 σ o ρ' R1 h E (q.step s1)
  | false =>
    rw [if_neg Bool.false_ne_true] at h ⊢
    exact b2 pa w1 σ o ρ' R1 h E (q.step s1)
def SAsg (f : FE) (g : FT) : FS := fun ρ => bnd (f ρ) fun d ρ1 => (g d ρ1).map fun ρ2 => (.nx, ρ2)
theorem good_asg {te : TE} {tg : TG} {gt : FT} {ts : List Nat} (h1 : GoodE K te fe) (h2 : GoodT K tg gt ts) : GoodS K (tAsg te tg) (SAsg fe gt) := fun pa w σ o ρ' R h E q => by
  obtain ⟨d, ρ1, e1, h⟩ := bnd_eq h
  obtain ⟨ρ2, e2, h⟩ := Option.map_eq_some_iff.mp h
  obtain ⟨q1, q2⟩ := Prod.mk.inj h
  subst q1
  subst q2
  refine h1 pa w σ d ρ1 R e1 _ fun w1 v R1 p1 s1 r1 => ?_
  subst p1
  exact h2 pa w1 σ v d ρ2 R1 r1 e2 _ fun w2 σ2 R2 p2 s2 _ _ => q w2 σ2 R2 p2 (s1.trans s2)
theorem gs_asg {tg : Expr} {gt : FT} {ts : List Nat} (h : GE X e fe) (ht : GT X tg gt ts) (hs : swapsWithSole [tg] e pos.line X.env = pure false := by rfl) (hw : swappedStores [tg] e X.env = pure none := by rfl)
    (h1 : (assignEach [tg] X.env).map (·.2) = [assign tg X.env] := by rfl) : GS X (.Assign [tg] e pos) (SAsg fe gt) := let ⟨_, a, b⟩ := h; let ⟨_, c, d⟩ := ht; ⟨_, ps_asg a c hs hw h1, good_asg b d⟩
theorem gs_set (i : Nat) {x : Str} {pos' : Pos} (hN : X.N.Nodup) (h : GE X e fe) (hi : X.N[i]? = some x := by rfl) (hx : Loc X.env.scope x := by first | exact .inl rfl | exact .inr rfl) (hs : swapsWith e (some (.Name x pos')) pos.line X.env = pure false := by rfl)
    (hf : X.fn x = true ∨ X.env.scope.names.lookup x = some .local := by first | exact .inl rfl | exact .inr rfl) : GS X (.Assign [.Name x pos'] e pos) (SAsg fe (TName i)) := let ⟨_, a, b⟩ := h; ⟨_, ps_set hN hi hx a hs hf, good_asg b (good_name i)⟩
/-- x op= e -/
def SAug (i : Nat) (g : D → D → Option D) (f : FE) : FS := fun ρ => match ρ[i]? with
  | some (.fz x) => bnd (f ρ) fun y ρ1 => bnd (lft (g x y) ρ1) fun z ρ2 => (TName i z ρ2).map fun ρ3 => (.nx, ρ3)
  | _ => none
theorem gs_aug (i : Nat) {x : Str} {op : Operator} {r : R2} {gg : D → D → Option D} {tpos : Pos} (hN : X.N.Nodup) (ho : OpR X (inplaceOp op) r) (hg : OpG X.K r gg) (h : GE X e fe) (hi : X.N[i]? = some x := by rfl) (hx : Loc X.env.scope x := by first | exact .inl rfl | exact .inr rfl)
    (hf : X.fn x = true ∨ X.env.scope.names.lookup x = some .local := by first | exact .inl rfl | exact .inr rfl) : GS X (.AugAssign (.Name x tpos) op e pos) (SAug i gg fe) := by
  obtain ⟨te, a, b⟩ := h
  have ip : PIp X op r := fun pins s σ H x y v u Q I rx ry h => ho pins s σ H x y v u Q I rx ry h
  refine ⟨_, ps_aug hN hi hx a ip (hf := hf), fun pa w σ o ρ' R h E q => ?_⟩
  unfold SAug at h
  split at h
  case h_2 => cases h
  rename_i x0 e0
  obtain ⟨v0, a1, a2⟩ := R.fz i x0 e0
  obtain ⟨y, ρ1, e1, h6⟩ := bnd_eq h
  obtain ⟨z, ρ2, e2, h7⟩ := bnd_eq h6
  obtain ⟨z', e4, h4⟩ := lft_eq e2
  obtain ⟨q1, q2⟩ := Prod.mk.inj h4
  subst q1
  subst q2
  obtain ⟨ρ3, e3, h8⟩ := Option.map_eq_some_iff.mp h7
  obtain ⟨q1, q2⟩ := Prod.mk.inj h8
  subst q1
  subst q2
  refine ⟨v0, a1, b pa w σ y ρ2 R e1 _ fun w1 v R1 p1 s1 r1 => ?_⟩
  subst p1
  refine hg w1.F w1.H v0 v x0 y z R1.ex (a2.mono s1.ex) r1 e4 _ fun F' H' u gr rp => ?_
  obtain ⟨R2, s2⟩ := R1.grow gr
  refine good_name i pa _ σ u z ρ3 R2 rp e3 (fun σ' H' => E.nx σ' H') fun w3 σ3 R3 p3 s3 _ _ => q w3 σ3 R3 p3 ((s1.trans s2).trans s3)

/-! ### for -/
def SLoop (g : FT) (body : FS) : List D → FS
  | [], ρ => some (.nx, ρ)
  | d :: ds, ρ => match g d ρ with
    | none => none
    | some ρ1 => bnd (body ρ1) fun o ρ2 => match o with
      | .nx => SLoop g body ds ρ2
      | .ct => SLoop g body ds ρ2
      | .bk => some (.nx, ρ2)
      | .ret d => some (.ret d, ρ2)
      | .rto d => some (.rto d, ρ2)
def SFor (it : FA) (g : FT) (body : FS) : FS := fun ρ => bnd (it ρ) fun ds ρ1 => SLoop g body ds ρ1
theorem good_for {wi : TI} {tg : TG} {tb : TS} {it : FA} {gt : FT} {ts : List Nat} {fb : FS} (hi : GoodI K wi it) (hg : GoodT K tg gt ts) (hb : GoodS K tb fb) : GoodS K (tFor wi tg tb) (SFor it gt fb) := fun pa w σ o ρ' R h E q => by
  obtain ⟨ds, ρ1, e1, h⟩ := bnd_eq h
  refine hi pa w σ ds ρ1 R e1 _ fun w1 J R1 p1 s1 hJ => ?_
  subst p1
  refine ⟨fun i m σ2 H2 => ∃ w2, H2 = w2.H ∧ Rel K pa w2 σ2 ∧ Step w1 w2 ∧ i + m = ds.length ∧ SLoop gt fb (ds.drop i) w2.ρ = some (o, ρ'), ⟨ds.length, w1, rfl, R1, Step.refl _, by omega, h⟩, ?_⟩
  rintro i m σ2 H2 ⟨w2, rfl, R2, s2, em, hl⟩
  obtain ⟨jg, js⟩ := hJ w2.F w2.H i s2.ex R2.ex
  cases hd : ds[i]? with
  | none =>
    have hlen : ds.length ≤ i := List.getElem?_eq_none_iff.mp hd
    rw [List.drop_eq_nil_of_le hlen] at hl
    obtain ⟨q1, q2⟩ := Prod.mk.inj (Option.some.inj hl)
    subst q1
    exact .inl ⟨js hd, q w2 σ2 R2 q2 (s1.trans s2)⟩
  | some d =>
    obtain ⟨go, yl⟩ := jg d hd
    have hlt : i < ds.length := (List.getElem?_eq_some_iff.mp hd).1
    have hd' : ds[i] = d := (List.getElem?_eq_some_iff.mp hd).2
    rw [List.drop_eq_getElem_cons hlt, hd'] at hl
    unfold SLoop at hl
    refine .inr ⟨go, fun σ3 H3 => ∃ w3, H3 = w3.H ∧ Rel K pa w3 σ3 ∧ Step w1 w3 ∧ SLoop gt fb (ds.drop (i + 1)) w3.ρ = some (o, ρ'), fun σ3 H3 ⟨w3, e3, R3, s3, l3⟩ => ⟨m - 1, by omega, w3, e3, R3, s3, by omega, l3⟩, fun x H3 hy => ?_⟩
    obtain ⟨F3, gr, rp⟩ := yl x H3 hy
    obtain ⟨R3, s3⟩ := R2.grow gr
    split at hl
    · cases hl
    rename_i ρ3 e3
    refine hg pa _ σ2 x d ρ3 R3 rp e3 _ fun w4 σ4 R4 p4 s4 _ _ => ?_
    subst p4
    obtain ⟨o5, ρ5, e5, hl⟩ := bnd_eq hl
    refine hb pa w4 σ4 o5 ρ5 R4 e5 _ ?_
    have st : Step w1 w4 := (s2.trans s3).trans s4
    cases o5 with
    | nx => exact fun w5 σ5 R5 p5 s5 => ⟨w5, rfl, R5, st.trans s5, by rw [p5]; exact hl⟩
    | ct => exact fun w5 σ5 R5 p5 s5 => ⟨w5, rfl, R5, st.trans s5, by rw [p5]; exact hl⟩
    | bk =>
      obtain ⟨q1, q2⟩ := Prod.mk.inj (Option.some.inj hl)
      subst q1
      subst q2
      exact fun w5 σ5 R5 p5 s5 => q w5 σ5 R5 p5 ((s1.trans st).trans s5)
    | ret r =>
      obtain ⟨q1, q2⟩ := Prod.mk.inj (Option.some.inj hl)
      subst q1
      subst q2
      exact fun w5 σ5 v R5 p5 s5 r5 => q w5 σ5 v R5 p5 ((s1.trans st).trans s5) r5
    | rto r =>
      obtain ⟨q1, q2⟩ := Prod.mk.inj (Option.some.inj hl)
      subst q1
      subst q2
      exact Post.step (s1.trans st) q
theorem gs_for {tg iter : Expr} {it : FA} {gt : FT} {ts : List Nat} {fb : FS} (hi : GI X tg iter it) (hg : GT X tg gt ts) (hb : GSs X body fb) (hp : PassesOwn (model X.prog X.w) X.A X.env X.xe) (hc : X.calm = true := by rfl)
    (hs : ∀ x, foldedSetIterable iter X.env x = pure x := by intro _; rfl) : GS X (.For tg iter body [] pos) (SFor it gt fb) := by
  obtain ⟨wi, a1, a2⟩ := hi
  obtain ⟨t, b1, b2⟩ := hg
  obtain ⟨tb, c1, c2⟩ := hb
  exact ⟨_, ps_for hp hc a1 b1 c1 hs, good_for a2 b2 c2⟩

/-! ### while -/
def SWhile (c : FB) (body : FS) : Nat → FS
  | 0, _ => none
  | n + 1, ρ => bnd (c ρ) fun b ρ1 => if b = true then bnd (body ρ1) fun o ρ2 => match o with
      | .nx => SWhile c body n ρ2
      | .ct => SWhile c body n ρ2
      | .bk => some (.nx, ρ2)
      | .ret d => some (.ret d, ρ2)
      | .rto d => some (.rto d, ρ2)
    else some (.nx, ρ1)
theorem good_while {tc : TT} {tb : TS} {c : FB} {fb : FS} (n : Nat) (hc : GoodB K tc c) (hb : GoodS K tb fb) : GoodS K (tWhile tc tb) (SWhile c fb n) := fun pa w σ o ρ' R h E q => by
  refine ⟨fun m σ2 H2 => ∃ w2, H2 = w2.H ∧ Rel K pa w2 σ2 ∧ Step w w2 ∧ SWhile c fb m w2.ρ = some (o, ρ'), ⟨n, w, rfl, R, Step.refl _, h⟩, ?_⟩
  rintro m σ2 H2 ⟨w2, rfl, R2, s2, hl⟩
  cases m with
  | zero => cases hl
  | succ m =>
    unfold SWhile at hl
    obtain ⟨k, ρ3, e3, hl⟩ := bnd_eq hl
    refine hc pa w2 σ2 k ρ3 R2 e3 _ fun w3 R3 p3 s3 => ?_
    subst p3
    cases k with
    | false =>
      rw [if_neg Bool.false_ne_true] at hl ⊢
      obtain ⟨q1, q2⟩ := Prod.mk.inj (Option.some.inj hl)
      subst q1
      exact q w3 σ2 R3 q2 (s2.trans s3)
    | true =>
      rw [if_pos rfl] at hl ⊢
      obtain ⟨o5, ρ5, e5, hl⟩ := bnd_eq hl
      have st : Step w w3 := s2.trans s3
      refine ⟨fun σ3 H3 => ∃ w4, H3 = w4.H ∧ Rel K pa w4 σ3 ∧ Step w w4 ∧ SWhile c fb m w4.ρ = some (o, ρ'), fun σ3 H3 h3 => ⟨m, Nat.lt_succ_self m, h3⟩, hb pa w3 σ2 o5 ρ5 R3 e5 _ ?_⟩
      cases o5 with
      | nx => exact fun w5 σ5 R5 p5 s5 => ⟨w5, rfl, R5, st.trans s5, by rw [p5]; exact hl⟩
      | ct => exact fun w5 σ5 R5 p5 s5 => ⟨w5, rfl, R5, st.trans s5, by rw [p5]; exact hl⟩
      | bk =>
        obtain ⟨q1, q2⟩ := Prod.mk.inj (Option.some.inj hl)
        subst q1
        subst q2
        exact fun w5 σ5 R5 p5 s5 => q w5 σ5 R5 p5 (st.trans s5)
      | ret r =>
        obtain ⟨q1, q2⟩ := Prod.mk.inj (Option.some.inj hl)
        subst q1
        subst q2
        exact fun w5 σ5 v R5 p5 s5 r5 => q w5 σ5 v R5 p5 (st.trans s5) r5
      | rto r =>
        obtain ⟨q1, q2⟩ := Prod.mk.inj (Option.some.inj hl)
        subst q1
        subst q2
        exact Post.step st q
theorem gs_while (n : Nat) {c : Expr} {fc : FB} {fb : FS} (hc : GB X c fc) (hb : GSs X body fb) (hp : PassesOwn (model X.prog X.w) X.A X.env X.xe) : GS X (.While c body [] pos) (SWhile fc fb n) := by
  obtain ⟨tc, a1, a2⟩ := hc
  obtain ⟨tb, b1, b2⟩ := hb
  exact ⟨_, ps_while hp a1 b1, good_while n a2 b2⟩
end
end Dn
end
section
set_option maxHeartbeats 4000000
namespace Dn
open PySem PySem.Spec PyProof.Rows L2

/-! ### comprehensions -/
def wipeS (ρ : List Sl) : List Nat → List Sl
  | [] => ρ
  | v :: vs => (wipeS ρ vs).set v .un
def backS (ρ1 ρ2 : List Sl) : List Nat → List Sl
  | [] => ρ2
  | v :: vs => match ρ1[v]? with
    | some (.fz d) => (backS ρ1 ρ2 vs).set v (.fz d)
    | _ => (backS ρ1 ρ2 vs).set v .un
def CLoop (vs : List Nat) (g : FT) (c : FB) (elt : FE) : List D → List Sl → Option (List D × List Sl)
  | [], ρ => some ([], ρ)
  | d :: ds, ρ => match g d ρ with
    | none => none
    | some ρ1 => bnd (c ρ1) fun b ρ2 => if b = true then bnd (elt ρ2) fun x ρ3 => bnd (CLoop vs g c elt ds (wipeS ρ3 vs)) fun r ρ4 => some (x :: r, ρ4)
      else CLoop vs g c elt ds (wipeS ρ2 vs)
def FComp (vs : List Nat) (it : FA) (g : FT) (c : FB) (elt : FE) : FE := fun ρ => bnd (it ρ) fun ds ρ1 => if ds.length ≤ 16777216 then bnd (CLoop vs g c elt ds (wipeS ρ1 vs)) fun out ρ2 => some (.lst out, backS ρ1 ρ2 vs) else none
def BYes : FB := fun ρ => some (true, ρ)
section
variable {K : PySem.W.Frag} {pa : Nat → Addr}
theorem wipeS_length (ρ : List Sl) : ∀ vs : List Nat, (wipeS ρ vs).length = ρ.length
  | [] => rfl
  | v :: vs => by unfold wipeS; rw [List.length_set, wipeS_length ρ vs]
theorem wipeS_at {ρ : List Sl} {i : Nat} {s : Sl} : ∀ {vs : List Nat}, (wipeS ρ vs)[i]? = some s → s = .un ∨ (i ∉ vs ∧ ρ[i]? = some s)
  | [], h => .inr ⟨by simp, h⟩
  | v :: vs, h => by
    unfold wipeS at h
    by_cases z : v = i
    · subst z
      by_cases hv : v < (wipeS ρ vs).length
      · rw [List.getElem?_set_self hv] at h
        exact .inl (Option.some.inj h).symm
      · rw [List.getElem?_eq_none (by rw [List.length_set]; omega)] at h
        cases h
    · rw [List.getElem?_set_ne z] at h
      rcases wipeS_at h with q | ⟨q1, q2⟩
      · exact .inl q
      · exact .inr ⟨fun m => (List.mem_cons.mp m).elim (fun e => z e.symm) q1, q2⟩
theorem wipe_off {σ : L2.St} {i : Nat} : ∀ {vs : List Nat}, i ∉ vs → (wipe σ vs)[i]? = σ[i]?
  | [], _ => rfl
  | v :: vs, h => by
    unfold wipe
    rw [List.getElem?_set_ne fun e => h (by rw [e]; exact List.mem_cons_self), wipe_off fun m => h (List.mem_cons_of_mem _ m)]
theorem wipe_on {σ : L2.St} {i : Nat} : ∀ {vs : List Nat}, i ∈ vs → i < σ.length → (wipe σ vs)[i]? = some none
  | v :: vs, h, hl => by
    unfold wipe
    by_cases z : v = i
    · subst z
      rw [List.getElem?_set_self (by rw [wipe_length]; exact hl)]
    · rw [List.getElem?_set_ne z]
      exact wipe_on ((List.mem_cons.mp h).resolve_left fun e => z e.symm) hl
theorem wipe_eq {σ σ' : L2.St} {vs : List Nat} (h : ∀ i : Nat, i ∉ vs → σ'[i]? = σ[i]?) (hl : σ'.length = σ.length) : wipe σ' vs = wipe σ vs := by
  apply List.ext_getElem?
  intro i
  by_cases hi : i ∈ vs
  · by_cases hlt : i < σ.length
    · rw [wipe_on hi (by rw [hl]; exact hlt), wipe_on hi hlt]
    · rw [List.getElem?_eq_none (by rw [wipe_length, hl]; omega), List.getElem?_eq_none (by rw [wipe_length]; omega)]
  · rw [wipe_off hi, wipe_off hi, h i hi]
theorem Rel.wiped {w : Wd} {σ : L2.St} (R : Rel K pa w σ) (vs : List Nat) : Rel K pa ⟨w.F, w.H, w.al, wipeS w.ρ vs⟩ (wipe σ vs) ∧ Step w ⟨w.F, w.H, w.al, wipeS w.ρ vs⟩ := by
  have ow : ∀ (j : Nat) (t : Option Nat) (es : List D), (wipeS w.ρ vs)[j]? = some (.ow t es) → j ∉ vs ∧ w.ρ[j]? = some (.ow t es) := fun j t es h => (wipeS_at h).resolve_left (fun z => by cases z)
  refine ⟨⟨R.ex, by rw [wipeS_length, wipe_length]; exact R.len, fun i d h => ?_, fun j t es h => ?_, fun j j' t u es es' h h' => R.inj j j' t u es es' (ow j t es h).2 (ow j' u es' h').2⟩, ⟨Ex.refl _, fun _ _ h _ => h, fun _ _ _ _ h => h, fun b ⟨j, t, es, h, e⟩ => .inl ⟨j, t, es, (ow j t es h).2, e⟩, fun _ h => h⟩⟩
  · obtain ⟨q1, q2⟩ := (wipeS_at h).resolve_left (fun z => by cases z)
    obtain ⟨v, a, b⟩ := R.fz i d q2
    exact ⟨v, by rw [wipe_off q1]; exact a, b⟩
  · obtain ⟨q1, q2⟩ := ow j t es h
    obtain ⟨a, b⟩ := R.ow j t es q2
    exact ⟨by rw [wipe_off q1]; exact a, b⟩
theorem backS_length (ρ1 ρ2 : List Sl) : ∀ vs : List Nat, (backS ρ1 ρ2 vs).length = ρ2.length
  | [] => rfl
  | v :: vs => by
    unfold backS
    split <;> rw [List.length_set, backS_length ρ1 ρ2 vs]
theorem backS_at {ρ1 ρ2 : List Sl} {i : Nat} {s : Sl} : ∀ {vs : List Nat}, (backS ρ1 ρ2 vs)[i]? = some s → s = .un ∨ (∃ d, s = .fz d ∧ ρ1[i]? = some (.fz d)) ∨ (i ∉ vs ∧ ρ2[i]? = some s)
  | [], h => .inr (.inr ⟨by simp, h⟩)
  | v :: vs, h => by
    have next : v ≠ i → (backS ρ1 ρ2 vs)[i]? = some s → s = .un ∨ (∃ d, s = .fz d ∧ ρ1[i]? = some (.fz d)) ∨ (i ∉ v :: vs ∧ ρ2[i]? = some s) := fun z h => by
      rcases backS_at h with q | q | ⟨q1, q2⟩
      · exact .inl q
      · exact .inr (.inl q)
      · exact .inr (.inr ⟨fun m => (List.mem_cons.mp m).elim (fun e => z e.symm) q1, q2⟩)
    unfold backS at h
    by_cases z : v = i
    · subst z
      have hv : v < (backS ρ1 ρ2 vs).length := by
        have q := (List.getElem?_eq_some_iff.mp h).1
        split at q <;> rw [List.length_set] at q <;> exact q
      split at h
      · rename_i d e
        rw [List.getElem?_set_self hv] at h
        exact .inr (.inl ⟨d, (Option.some.inj h).symm, e⟩)
      · rw [List.getElem?_set_self hv] at h
        exact .inl (Option.some.inj h).symm
    · split at h <;> rw [List.getElem?_set_ne z] at h <;> exact next z h
/-- behind the block: the names outside are as they were -/
theorem Rel.back {w1 w2 : Wd} {σ : L2.St} {vs : List Nat} (R1 : Rel K pa w1 σ) (R : Rel K pa w2 (wipe σ vs)) (e : Ex w1.F w2.F) : Rel K pa ⟨w2.F, w2.H, w2.al, backS w1.ρ w2.ρ vs⟩ σ ∧ Step w2 ⟨w2.F, w2.H, w2.al, backS w1.ρ w2.ρ vs⟩ := by
  have ow : ∀ (j : Nat) (t : Option Nat) (es : List D), (backS w1.ρ w2.ρ vs)[j]? = some (.ow t es) → j ∉ vs ∧ w2.ρ[j]? = some (.ow t es) := fun j t es h => by
    rcases backS_at h with q | ⟨d, q, _⟩ | q
    · cases q
    · cases q
    · exact q
  refine ⟨⟨R.ex, by rw [backS_length, R.len, wipe_length], fun i d h => ?_, fun j t es h => ?_, fun j j' t u es es' h h' => R.inj j j' t u es es' (ow j t es h).2 (ow j' u es' h').2⟩, ⟨Ex.refl _, fun _ _ h _ => h, fun _ _ _ _ h => h, fun b ⟨j, t, es, h, e⟩ => .inl ⟨j, t, es, (ow j t es h).2, e⟩, fun _ h => h⟩⟩
  · rcases backS_at h with q | ⟨d', q, h'⟩ | ⟨q1, q2⟩
    · cases q
    · cases q
      obtain ⟨v, a, b⟩ := R1.fz i _ h'
      exact ⟨v, a, b.mono e⟩
    · obtain ⟨v, a, b⟩ := R.fz i d q2
      exact ⟨v, by rw [← wipe_off q1]; exact a, b⟩
  · obtain ⟨q1, q2⟩ := ow j t es h
    obtain ⟨a, b⟩ := R.ow j t es q2
    exact ⟨by rw [← wipe_off q1]; exact a, b⟩
/-- a list that nobody owns, laid behind w, is changed -/
theorem Step.poke {w w' : Wd} {p : Addr} {o : HO} (s : Step w w') (h : w.H p = none) : Step w ⟨w'.F, upd w'.H p o, w'.al, w'.ρ⟩ :=
  ⟨s.ex, fun b u hb n => by
    dsimp only
    rw [upd_ne (ne_of_none hb h)]
    exact s.fr b u hb n, s.ff, s.ow, fun b hb => s.st b (by
    dsimp only at hb
    by_cases z : b = p
    · rw [z, upd_same] at hb
      cases hb
    · rw [upd_ne z] at hb
      exact hb)⟩
theorem Rel.poke {w : Wd} {σ : L2.St} {p : Addr} {o : HO} (R : Rel K pa w σ) (hf : w.F p = none) (hn : ¬ Own w p) : Rel K pa ⟨w.F, upd w.H p o, w.al, w.ρ⟩ σ := by
  refine ⟨R.ex.mut hf, R.len, R.fz, fun i t ds e => ?_, R.inj⟩
  obtain ⟨a, b, ⟨vs, c, d⟩, f⟩ := R.ow i t ds e
  refine ⟨a, b, ⟨vs, ?_, d⟩, f⟩
  dsimp only
  rw [upd_ne fun z => hn ⟨i, t, ds, e, z⟩]
  exact c
/-- a list that nobody owns, laid behind w, stays from now on -/
theorem Step.freeze {w w' : Wd} {p : Addr} {o : HO} (s : Step w w') (h : w.H p = none) (hf : w'.F p = none) : Step w ⟨upd w'.F p o, w'.H, w'.al, w'.ρ⟩ :=
  ⟨s.ex.trans (Ex.new hf), s.fr, fun b u hb n f => by
    dsimp only
    rw [upd_ne (ne_of_none hb h)]
    exact s.ff b u hb n f, s.ow, s.st⟩
theorem Rel.freeze {w : Wd} {σ : L2.St} {p : Addr} {o : HO} (R : Rel K pa w σ) (hf : w.F p = none) (hp : w.H p = some o) (hn : ¬ Own w p) : Rel K pa ⟨upd w.F p o, w.H, w.al, w.ρ⟩ σ := by
  refine ⟨fun b u hb => ?_, R.len, fun i d e => ?_, fun i t ds e => ?_, R.inj⟩
  · dsimp only at hb ⊢
    by_cases z : b = p
    · subst z
      rw [upd_same] at hb
      rw [hp]
      exact hb
    · rw [upd_ne z] at hb
      exact R.ex b u hb
  · obtain ⟨v, b1, b2⟩ := R.fz i d e
    exact ⟨v, b1, b2.mono (Ex.new hf)⟩
  · obtain ⟨a, b, ⟨vs, c, d⟩, f⟩ := R.ow i t ds e
    refine ⟨a, ?_, ⟨vs, c, d.mono (Ex.new hf)⟩, f⟩
    dsimp only
    rw [upd_ne fun z => hn ⟨i, t, ds, e, z⟩]
    exact b
theorem Step.notOwn {w w' : Wd} {p : Addr} {o : HO} (s : Step w w') (h : w.H p = some o) (hn : ¬ Own w p) : ¬ Own w' p := fun z => by
  rcases s.ow p z with y | y
  · exact hn y
  · rw [h] at y
    cases y
/-- the loop of a comprehension: want is asked at its end, of the list that was filled -/
theorem lc_run {wi : TI} {tg : TG} {tt : TT} {te : TE} {it : FA} {gt : FT} {c : FB} {elt : FE} {ts vs : List Nat} (hi : GoodI K wi it) (hg : GoodT K tg gt ts) (hsub : ∀ i ∈ ts, i ∈ vs) (ht : GoodB K tt c) (he : GoodE K te elt)
    {w : Wd} {σ : L2.St} {ds out : List D} {ρ1 ρ2 : List Sl} {Q : VK} (R : Rel K pa w σ) (e1 : it w.ρ = some (ds, ρ1)) (hz : ds.length ≤ 16777216) (e2 : CLoop vs gt c elt ds (wipeS ρ1 vs) = some (out, ρ2))
    (want : ∀ (w' : Wd) (P : Addr) (acc : List V), Rel K pa w' σ → w'.ρ = backS ρ1 ρ2 vs → Step w w' → w.H P = none → w'.H P = some (.lst acc) → w'.F P = none → ¬ Own w' P → RpA K w'.F acc out → Q (.ref P) w'.H) : tLc wi tg tt te vs σ w.H Q := by
  refine hi pa w σ ds ρ1 R e1 _ fun w1 J R1 p1 s1 hJ => ?_
  subst p1
  intro P hP
  have R1q := R1.grow (Grow.quiet (o := .lst []) R1.ex hP)
  have R1w := R1q.1.wiped vs
  have nO1 : ¬ Own w1 P := fun ⟨j, t, es, hj, z⟩ => by
    obtain ⟨_, _, ⟨us, b3, _⟩, _⟩ := R1.ow j t es hj
    rw [show w1.al j = P from z, hP] at b3
    cases b3
  have hP0 : w.H P = none := s1.st P hP
  refine ⟨fun i m H2 => ∃ w2 acc ds2, H2 = w2.H ∧ Rel K pa w2 (wipe σ vs) ∧ Step w1 w2 ∧ w2.H P = some (.lst acc) ∧ w2.F P = none ∧ ¬ Own w2 P ∧ RpA K w2.F acc ds2 ∧ acc.length ≤ i ∧ i + m = ds.length ∧ ∃ r, CLoop vs gt c elt (ds.drop i) w2.ρ = some (r, ρ2) ∧ out = ds2 ++ r,
    ⟨ds.length, _, [], [], rfl, R1w.1, R1q.2.trans R1w.2, upd_same, R1.ex.free hP, fun hO => nO1 ((R1w.2.ow P hO).elim id fun z => ?_), .nil, Nat.zero_le _, by omega, out, e2, rfl⟩, ?_⟩
  · dsimp only at z
    rw [upd_same] at z
    cases z
  rintro i m H2 ⟨w2, acc, ds2, rfl, R2, s2, hA, hF, hO, ra, la, em, r, hl, eo⟩
  obtain ⟨jg, js⟩ := hJ w2.F w2.H i s2.ex R2.ex
  cases hd : ds[i]? with
  | none =>
    have hlen : ds.length ≤ i := List.getElem?_eq_none_iff.mp hd
    rw [List.drop_eq_nil_of_le hlen] at hl
    obtain ⟨q1, q2⟩ := Prod.mk.inj (Option.some.inj hl)
    subst q1
    rw [List.append_nil] at eo
    subst eo
    obtain ⟨R3, s3⟩ := R1.back R2 s2.ex
    rw [q2] at R3 s3
    exact .inl ⟨js hd, want ⟨w2.F, w2.H, w2.al, backS w1.ρ ρ2 vs⟩ P acc R3 rfl ((s1.trans s2).trans s3) hP0 hA hF (s3.notOwn hA hO) ra⟩
  | some d =>
    obtain ⟨go, yl⟩ := jg d hd
    have hlt : i < ds.length := (List.getElem?_eq_some_iff.mp hd).1
    have hd' : ds[i] = d := (List.getElem?_eq_some_iff.mp hd).2
    rw [List.drop_eq_getElem_cons hlt, hd'] at hl
    unfold CLoop at hl
    refine .inr ⟨go, fun H3 => ∃ w3 acc ds3, H3 = w3.H ∧ Rel K pa w3 (wipe σ vs) ∧ Step w1 w3 ∧ w3.H P = some (.lst acc) ∧ w3.F P = none ∧ ¬ Own w3 P ∧ RpA K w3.F acc ds3 ∧ acc.length ≤ i + 1 ∧ ∃ r, CLoop vs gt c elt (ds.drop (i + 1)) w3.ρ = some (r, ρ2) ∧ out = ds3 ++ r,
      fun H3 ⟨w3, acc3, ds3, b1, b2, b3, b4, b5, b6, b7, b8, b9⟩ => ⟨m - 1, by omega, w3, acc3, ds3, b1, b2, b3, b4, b5, b6, b7, b8, by omega, b9⟩, fun x H3 hy => ?_⟩
    obtain ⟨F3, gr, rp⟩ := yl x H3 hy
    obtain ⟨R3, s3⟩ := R2.grow gr
    split at hl
    · cases hl
    rename_i ρ3 e3
    refine hg pa _ (wipe σ vs) x d ρ3 R3 rp e3 _ fun w4 σ4 R4 p4 s4 k4 l4 => ?_
    subst p4
    have ew : wipe σ4 vs = wipe σ vs := by
      have z : wipe σ4 vs = wipe (wipe σ vs) vs := wipe_eq (fun j hj => k4 j fun m => hj (hsub j m)) l4
      rw [z]
      exact wipe_eq (fun j hj => wipe_off hj) (wipe_length σ vs)
    refine ⟨ew, ?_⟩
    obtain ⟨b, ρ5, e5, hl5⟩ := bnd_eq hl
    clear hl
    have s24 : Step w2 w4 := s3.trans s4
    refine ht pa w4 σ4 b ρ5 R4 e5 _ fun w5 R5 p5 s5 => ?_
    subst p5
    have s25 : Step w2 w5 := s24.trans s5
    cases b with
    | false =>
      rw [if_neg Bool.false_ne_true] at hl5 ⊢
      obtain ⟨R6, s6⟩ := R5.wiped vs
      rw [ew] at R6
      have s26 := s25.trans s6
      exact ⟨⟨w5.F, w5.H, w5.al, wipeS w5.ρ vs⟩, acc, ds2, rfl, R6, s2.trans s26, s26.fr P _ hA hO, s26.ff P _ hA hO hF, s26.notOwn hA hO, ra.mono s26.ex, by omega, r, hl5, eo⟩
    | true =>
      rw [if_pos rfl] at hl5 ⊢
      obtain ⟨y, ρ6, e6, hl6⟩ := bnd_eq hl5
      clear hl5
      obtain ⟨r7, ρ7, e7, hl7⟩ := bnd_eq hl6
      clear hl6
      obtain ⟨z1, z2⟩ := Prod.mk.inj (Option.some.inj hl7)
      subst z1
      subst z2
      refine he pa w5 σ4 y ρ6 R5 e6 _ fun w6 v6 R6 p6 s6 r6 => ?_
      subst p6
      have s26 : Step w2 w6 := s25.trans s6
      refine ⟨acc, s26.fr P _ hA hO, Nat.lt_of_le_of_lt la (Nat.lt_of_lt_of_le hlt (line_le hz)), ?_⟩
      have R7 := (R6.poke (o := .lst (acc ++ [v6])) (s26.ff P _ hA hO hF) (s26.notOwn hA hO)).wiped vs
      rw [ew] at R7
      refine ⟨_, acc ++ [v6], ds2 ++ [y], rfl, R7.1, ((s2.trans s26).poke hP).trans R7.2, upd_same, s26.ff P _ hA hO hF, fun z => ?_, (ra.mono s26.ex).append (.cons r6 .nil), by rw [List.length_append]; show acc.length + 1 ≤ i + 1; omega, r7, e7, by rw [eo, List.append_assoc]; rfl⟩
      rcases R7.2.ow P z with y | y
      · exact s26.notOwn hA hO y
      · dsimp only at y
        rw [upd_same] at y
        cases y
theorem good_lc {wi : TI} {tg : TG} {tt : TT} {te : TE} {it : FA} {gt : FT} {c : FB} {elt : FE} {ts vs : List Nat} (hi : GoodI K wi it) (hg : GoodT K tg gt ts) (hsub : ∀ i ∈ ts, i ∈ vs) (ht : GoodB K tt c) (he : GoodE K te elt) : GoodE K (tLc wi tg tt te vs) (FComp vs it gt c elt) := fun pa w σ d ρ' R h Q q => by
  obtain ⟨ds, ρ1, e1, h2⟩ := bnd_eq h
  clear h
  split at h2
  case isFalse => cases h2
  rename_i hz
  obtain ⟨out, ρ2, e2, h3⟩ := bnd_eq h2
  clear h2
  obtain ⟨q1, q2⟩ := Prod.mk.inj (Option.some.inj h3)
  subst q1
  subst q2
  refine lc_run hi hg hsub ht he R e1 hz e2 fun w' P acc R' p' s' h0 hA hF hO ra => ?_
  exact q ⟨upd w'.F P (.lst acc), w'.H, w'.al, w'.ρ⟩ _ (R'.freeze hF hA hO) p' (s'.freeze h0 hF) (.lst upd_same (ra.mono (Ex.new hF)))
end
end Dn
end
section
set_option maxHeartbeats 4000000
namespace Dn
open PySem PySem.Spec PyProof.Rows L2
abbrev FL := List Sl → Option (List D × List Sl)
/-- a fresh list that is one's own -/
def GoodL (K : PySem.W.Frag) (te : TE) (f : FL) : Prop := ∀ (pa : Nat → Addr) (w : Wd) (σ : L2.St) (ds : List D) (ρ' : List Sl), Rel K pa w σ → f w.ρ = some (ds, ρ') →
  ∀ Q : VK, (∀ (w' : Wd) (P : Addr) (acc : List V), Rel K pa w' σ → w'.ρ = ρ' → Step w w' → w.H P = none → w'.H P = some (.lst acc) → w'.F P = none → ¬ Own w' P → RpA K w'.F acc ds → Q (.ref P) w'.H) → te σ w.H Q
structure GL (X : Cx) (e : Expr) (f : FL) : Prop where
  ok : ∃ te, PE X e te ∧ GoodL X.K te f
section
variable {X : Cx} {K : PySem.W.Frag} {pos : Pos} {pa : Nat → Addr}
def FOf (f : FL) : FE := fun ρ => bnd (f ρ) fun ds ρ1 => some (.lst ds, ρ1)
theorem good_ofL {te : TE} {f : FL} (h1 : GoodL K te f) : GoodE K te (FOf f) := fun pa w σ d ρ' R h Q q => by
  obtain ⟨ds, ρ1, e1, h2⟩ := bnd_eq h
  obtain ⟨q1, q2⟩ := Prod.mk.inj (Option.some.inj h2)
  subst q1
  subst q2
  refine h1 pa w σ ds ρ1 R e1 Q fun w' P acc R' p' s' h0 hA hF hO ra => ?_
  exact q ⟨upd w'.F P (.lst acc), w'.H, w'.al, w'.ρ⟩ _ (R'.freeze hF hA hO) p' (s'.freeze h0 hF) (.lst upd_same (ra.mono (Ex.new hF)))
theorem GL.ge {e : Expr} {f : FL} (h : GL X e f) : GE X e (FOf f) := let ⟨_, a, b⟩ := h; ⟨_, a, good_ofL b⟩
/-- [e for target in iter if test] -/
def LComp (vs : List Nat) (it : FA) (g : FT) (c : FB) (elt : FE) : FL := fun ρ => bnd (it ρ) fun ds ρ1 => if ds.length ≤ 16777216 then bnd (CLoop vs g c elt ds (wipeS ρ1 vs)) fun out ρ2 => some (out, backS ρ1 ρ2 vs) else none
theorem good_lcL {wi : TI} {tg : TG} {tt : TT} {te : TE} {it : FA} {gt : FT} {c : FB} {elt : FE} {ts vs : List Nat} (hi : GoodI K wi it) (hg : GoodT K tg gt ts) (hsub : ∀ i ∈ ts, i ∈ vs) (ht : GoodB K tt c) (he : GoodE K te elt) : GoodL K (tLc wi tg tt te vs) (LComp vs it gt c elt) := fun pa w σ d ρ' R h Q q => by
  obtain ⟨ds, ρ1, e1, h2⟩ := bnd_eq h
  clear h
  split at h2
  case isFalse => cases h2
  rename_i hz
  obtain ⟨out, ρ2, e2, h3⟩ := bnd_eq h2
  clear h2
  obtain ⟨q1, q2⟩ := Prod.mk.inj (Option.some.inj h3)
  subst q1
  subst q2
  exact lc_run hi hg hsub ht he R e1 hz e2 q
structure GPs (X : Cx) (ifs : List Expr) (c : FB) : Prop where
  ok : ∃ tt, PTs X ifs tt ∧ GoodB X.K tt c
theorem gps_nil : GPs X [] BYes := ⟨_, pts_nil, fun pa w σ b ρ' R h Q q => by
  obtain ⟨q1, q2⟩ := Prod.mk.inj (Option.some.inj h)
  subst q1
  exact q w R q2 (Step.refl w)⟩
theorem gps_one {c : Expr} {f : FB} (h : GB X c f) : GPs X [c] f := let ⟨_, a, b⟩ := h; ⟨_, pts_one a, b⟩
/-! the reading that a worth itself is: it does not hang on the place -/
def tOfE (K : PySem.W.Frag) (f : FE) : TE := fun σ H Q => ∃ (pa : Nat → Addr) (w : Wd) (d : D) (ρ' : List Sl), w.H = H ∧ Rel K pa w σ ∧ f w.ρ = some (d, ρ') ∧ ∀ (w' : Wd) (v : V), Rel K pa w' σ → w'.ρ = ρ' → Step w w' → Rp K w'.F v d → Q v w'.H
def tOfB (K : PySem.W.Frag) (f : FB) : TT := fun σ H Q => ∃ (pa : Nat → Addr) (w : Wd) (b : Bool) (ρ' : List Sl), w.H = H ∧ Rel K pa w σ ∧ f w.ρ = some (b, ρ') ∧ ∀ (w' : Wd), Rel K pa w' σ → w'.ρ = ρ' → Step w w' → Q b w'.H
def tOfT (K : PySem.W.Frag) (f : FT) (ts : List Nat) : TG := fun v σ H Q => ∃ (pa : Nat → Addr) (w : Wd) (d : D) (ρ' : List Sl), w.H = H ∧ Rel K pa w σ ∧ Rp K w.F v d ∧ f d w.ρ = some ρ' ∧
  ∀ (w' : Wd) (σ' : L2.St), Rel K pa w' σ' → w'.ρ = ρ' → Step w w' → (∀ i : Nat, i ∉ ts → σ'[i]? = σ[i]?) → σ'.length = σ.length → Q σ' w'.H
theorem good_tOfE {f : FE} : GoodE K (tOfE K f) f := fun pa w σ d ρ' R h Q q => ⟨pa, w, d, ρ', rfl, R, h, q⟩
theorem good_tOfB {f : FB} : GoodB K (tOfB K f) f := fun pa w σ d ρ' R h Q q => ⟨pa, w, d, ρ', rfl, R, h, q⟩
theorem good_tOfT {f : FT} {ts : List Nat} : GoodT K (tOfT K f ts) f ts := fun pa w σ v d ρ' R r h Q q => ⟨pa, w, d, ρ', rfl, R, r, h, q⟩
theorem GE.pe {e : Expr} {f : FE} (h : GE X e f) : PE X e (tOfE X.K f) := by
  obtain ⟨te, a, b⟩ := h
  refine ⟨fun pins s σ H Q I hq => ?_⟩
  obtain ⟨pa, w, d, ρ', rfl, R, e1, q⟩ := hq
  exact a.run pins s σ w.H Q I (b pa w σ d ρ' R e1 Q q)
theorem GPs.pts {e : List Expr} {f : FB} (h : GPs X e f) : PTs X e (tOfB X.K f) := by
  obtain ⟨te, a, b⟩ := h
  refine ⟨fun pins s σ H Q I hq => ?_⟩
  obtain ⟨pa, w, d, ρ', rfl, R, e1, q⟩ := hq
  exact a.run pins s σ w.H Q I (b pa w σ d ρ' R e1 Q q)
theorem GT.pg {e : Expr} {f : FT} {ts : List Nat} (h : GT X e f ts) : PG X e (tOfT X.K f ts) := by
  obtain ⟨te, a, b⟩ := h
  refine ⟨fun pins s σ H v u Q I r hq => ?_⟩
  obtain ⟨pa, w, d, ρ', rfl, R, rp, e1, q⟩ := hq
  exact a.run pins s σ w.H v u Q I r (b pa w σ v d ρ' R rp e1 Q q)
section
variable {elt tg iter : Expr} {ifs : List Expr} {scope : Scope} {own : List (Str × Nat)} {it : FA} {gt : FT} {ts : List Nat} {c : FB} {fe : FE}
theorem gl_lc (own : List (Str × Nat)) (hN : X.N.Nodup) (hi : GI X tg iter it) (ok : blkC X.N X.env.scope scope own = true)
    (hg : ∀ (s : Shared) (H : Hp) (C : Addr) (cl : List (Str × Addr)) (fp : List Addr), GT (X.blk s H scope (compEnvC scope cl C X.env) fp) tg gt ts) (ht : ∀ (s : Shared) (H : Hp) (C : Addr) (cl : List (Str × Addr)) (fp : List Addr), GPs (X.blk s H scope (compEnvC scope cl C X.env) fp) ifs c)
    (he : ∀ (s : Shared) (H : Hp) (C : Addr) (cl : List (Str × Addr)) (fp : List Addr), GE (X.blk s H scope (compEnvC scope cl C X.env) fp) elt fe) (hsub : ∀ i ∈ ts, i ∈ own.map (·.2) := by decide) (hc : X.calm = true := by rfl) (hs : ∀ x, foldedSetIterable iter X.env x = pure x := by intro _; rfl) :
    GL X (.ListComp elt [⟨tg, iter, ifs, 0⟩] scope pos) (LComp (own.map (·.2)) it gt c fe) := by
  obtain ⟨wi, a, b⟩ := hi
  exact ⟨_, pe_lc hc hN a (blkOk_by ok) (fun s H C cl fp => (hg s H C cl fp).pg) (fun s H C cl fp => (ht s H C cl fp).pts) (fun s H C cl fp => (he s H C cl fp).pe) hs, good_lcL b good_tOfT hsub good_tOfB good_tOfE⟩
end
/-! ### stores of one's own lists -/
theorem Rel.keep {w : Wd} {σ : L2.St} {i : Nat} {P : Addr} {acc : List V} {ds : List D} (R : Rel K pa w σ) (hi : i < w.ρ.length) (hA : w.H P = some (.lst acc)) (hF : w.F P = none) (hO : ¬ Own w P) (ra : RpA K w.F acc ds) :
    Rel K pa ⟨w.F, w.H, fun j => if j = i then P else w.al j, w.ρ.set i (.ow none ds)⟩ (σ.set i (some (.ref P))) := by
  have at_j : ∀ (j : Nat) (t : Option Nat) (es : List D), (w.ρ.set i (.ow none ds))[j]? = some (.ow t es) → (j = i ∧ t = none ∧ es = ds) ∨ (i ≠ j ∧ w.ρ[j]? = some (.ow t es)) := fun j t es h => by
    by_cases z : i = j
    · subst z
      rw [List.getElem?_set_self hi] at h
      cases h
      exact .inl ⟨rfl, rfl, rfl⟩
    · rw [List.getElem?_set_ne z] at h
      exact .inr ⟨z, h⟩
  refine ⟨R.ex, by rw [List.length_set, List.length_set]; exact R.len, fun j d h => ?_, fun j t es h => ?_, fun j j' t u es es' h h' e => ?_⟩
  · have z : i ≠ j := fun z => by
      subst z
      dsimp only at h
      rw [List.getElem?_set_self hi] at h
      cases h
    dsimp only at h
    rw [List.getElem?_set_ne z] at h
    obtain ⟨v, b1, b2⟩ := R.fz j d h
    exact ⟨v, by rw [List.getElem?_set_ne z]; exact b1, b2⟩
  · rcases at_j j t es h with ⟨rfl, rfl, rfl⟩ | ⟨z, h⟩
    · refine ⟨?_, ?_, ⟨acc, ?_, ra⟩, fun _ z => by cases z⟩
      · dsimp only
        rw [if_pos rfl]
        exact List.getElem?_set_self (by rw [← R.len]; exact hi)
      · dsimp only
        rw [if_pos rfl]
        exact hF
      · dsimp only
        rw [if_pos rfl]
        exact hA
    · obtain ⟨b1, b2, b3, b4⟩ := R.ow j t es h
      dsimp only
      rw [if_neg (Ne.symm z)]
      exact ⟨by rw [List.getElem?_set_ne z]; exact b1, b2, b3, b4⟩
  · dsimp only at e
    rcases at_j j t es h with ⟨y1, _, _⟩ | ⟨z, hh⟩
    · rcases at_j j' u es' h' with ⟨y2, _, _⟩ | ⟨z', hh'⟩
      · rw [y1, y2]
      · rw [if_pos y1, if_neg (Ne.symm z')] at e
        exact (hO ⟨j', u, es', hh', e.symm⟩).elim
    · rcases at_j j' u es' h' with ⟨y2, _, _⟩ | ⟨z', hh'⟩
      · rw [if_pos y2, if_neg (Ne.symm z)] at e
        exact (hO ⟨j, t, es, hh, e⟩).elim
      · rw [if_neg (Ne.symm z), if_neg (Ne.symm z')] at e
        exact R.inj j j' t u es es' hh hh' e
theorem Step.keep {w w' : Wd} {i : Nat} {P : Addr} {ds : List D} (s : Step w w') (h0 : w.H P = none) (hi : i < w'.ρ.length) : Step w ⟨w'.F, w'.H, fun j => if j = i then P else w'.al j, w'.ρ.set i (.ow none ds)⟩ :=
  ⟨s.ex, s.fr, s.ff, fun b ⟨j, t, es, h, e⟩ => by
    dsimp only at h e
    by_cases z : i = j
    · subst z
      rw [if_pos rfl] at e
      rw [← e]
      exact .inr h0
    · rw [List.getElem?_set_ne z] at h
      rw [if_neg (Ne.symm z)] at e
      exact s.ow b ⟨j, t, es, h, e⟩, s.st⟩
def SOwn (i : Nat) (f : FL) : FS := fun ρ => bnd (f ρ) fun ds ρ1 => if i < ρ1.length then some (.nx, ρ1.set i (.ow none ds)) else none
theorem good_own {te : TE} {f : FL} (i : Nat) (h1 : GoodL K te f) : GoodS K (tAsg te (gName i)) (SOwn i f) := fun pa w σ o ρ' R h E q => by
  obtain ⟨ds, ρ1, e1, h2⟩ := bnd_eq h
  split at h2
  case isFalse => cases h2
  rename_i hi
  obtain ⟨q1, q2⟩ := Prod.mk.inj (Option.some.inj h2)
  subst q1
  subst q2
  refine h1 pa w σ ds ρ1 R e1 _ fun w1 P acc R1 p1 s1 h0 hA hF hO ra => ?_
  subst p1
  exact q ⟨w1.F, w1.H, fun j => if j = i then P else w1.al j, w1.ρ.set i (.ow none ds)⟩ (σ.set i (some (.ref P))) (R1.keep hi hA hF hO ra) rfl (s1.keep h0 hi)
theorem gs_own (i : Nat) {x : Str} {e : Expr} {f : FL} {pos' : Pos} (hN : X.N.Nodup) (h : GL X e f) (hi : X.N[i]? = some x := by rfl) (hx : Loc X.env.scope x := by first | exact .inl rfl | exact .inr rfl) (hs : swapsWith e (some (.Name x pos')) pos.line X.env = pure false := by rfl)
    (hf : X.fn x = true ∨ X.env.scope.names.lookup x = some .local := by first | exact .inl rfl | exact .inr rfl) : GS X (.Assign [.Name x pos'] e pos) (SOwn i f) := let ⟨_, a, b⟩ := h; ⟨_, ps_set hN hi hx a hs hf, good_own i b⟩
/-- a list display that is one's own -/
def LDisp (fa : FA) : FL := fun ρ => bnd (fa ρ) fun ds ρ1 => if ds.length ≤ 16777216 then some (ds, ρ1) else none
theorem good_lstL {ta : TA} {fa : FA} (h1 : GoodA K ta fa) : GoodL K (tLst ta) (LDisp fa) := fun pa w σ d ρ' R h Q q => by
  obtain ⟨ds, ρ1, e1, h⟩ := bnd_eq h
  split at h
  · rename_i hz
    obtain ⟨q1, q2⟩ := Prod.mk.inj (Option.some.inj h)
    subst q1
    subst q2
    refine h1 pa w σ ds ρ1 R e1 _ fun w1 vs R1 p1 s1 r1 => ⟨by rw [r1.length]; exact line_le hz, fun p hp => ?_⟩
    obtain ⟨R2, s2⟩ := R1.grow (Grow.quiet (o := .lst vs) R1.ex hp)
    refine q ⟨w1.F, upd w1.H p (.lst vs), w1.al, w1.ρ⟩ p vs R2 p1 (s1.trans s2) (s1.st p hp) upd_same (R1.ex.free hp) (fun z => ?_) r1
    obtain ⟨⟨us, hu⟩, _⟩ := R1.own_at z
    rw [hp] at hu
    cases hu
  · cases h
theorem gl_lst {es : List Expr} {fa : FA} (h : GA X es fa) : GL X (.List es pos) (LDisp fa) := let ⟨_, h1, h2⟩ := h; ⟨_, pe_lst h1, good_lstL h2⟩
/-- a fresh list handed back -/
def SRetL (f : FL) : FS := fun ρ => bnd (f ρ) fun ds ρ1 => some (.rto ds, ρ1)
theorem gs_retL {e : Expr} {f : FL} (h : GL X e f) : GS X (.Return (some e) pos) (SRetL f) := by
  obtain ⟨te, a, b⟩ := h
  refine ⟨_, ps_ret a, fun pa w σ o ρ' R h E q => ?_⟩
  obtain ⟨d, ρ1, e1, h⟩ := bnd_eq h
  obtain ⟨q1, q2⟩ := Prod.mk.inj (Option.some.inj h)
  subst q1
  subst q2
  exact b pa w σ d ρ1 R e1 _ fun w1 P acc R1 p1 s1 h0 hA hF hO ra => q w1 σ P acc R1 p1 s1 (.inr h0) hA hF hO ra
/-- a list of one's own handed back: its slot is left -/
def SRetV (i : Nat) : FS := fun ρ => match ρ[i]? with
  | some (.ow none ds) => some (.rto ds, ρ.set i .un)
  | _ => none
theorem Rel.leave {w : Wd} {σ : L2.St} {i : Nat} (R : Rel K pa w σ) : Rel K pa ⟨w.F, w.H, w.al, w.ρ.set i .un⟩ σ ∧ Step w ⟨w.F, w.H, w.al, w.ρ.set i .un⟩ ∧ ∀ (j : Nat) (t : Option Nat) (es : List D), (w.ρ.set i .un)[j]? = some (.ow t es) → j ≠ i ∧ w.ρ[j]? = some (.ow t es) := by
  have at_j : ∀ (j : Nat) (s : Sl), (w.ρ.set i .un)[j]? = some s → s ≠ .un → j ≠ i ∧ w.ρ[j]? = some s := fun j s h n => by
    by_cases z : i = j
    · subst z
      by_cases hi : i < w.ρ.length
      · rw [List.getElem?_set_self hi] at h
        exact (n (Option.some.inj h).symm).elim
      · rw [List.getElem?_eq_none (by rw [List.length_set]; omega)] at h
        cases h
    · rw [List.getElem?_set_ne z] at h
      exact ⟨Ne.symm z, h⟩
  have ow : ∀ (j : Nat) (t : Option Nat) (es : List D), (w.ρ.set i .un)[j]? = some (.ow t es) → j ≠ i ∧ w.ρ[j]? = some (.ow t es) := fun j t es h => at_j j _ h (fun z => by cases z)
  exact ⟨⟨R.ex, by rw [List.length_set]; exact R.len, fun j d h => R.fz j d (at_j j _ h (fun z => by cases z)).2, fun j t es h => R.ow j t es (ow j t es h).2, fun j j' t u es es' h h' => R.inj j j' t u es es' (ow j t es h).2 (ow j' u es' h').2⟩,
    ⟨Ex.refl _, fun _ _ h _ => h, fun _ _ _ _ h => h, fun b ⟨j, t, es, h, e⟩ => .inl ⟨j, t, es, (ow j t es h).2, e⟩, fun _ h => h⟩, ow⟩
theorem gs_retV (i : Nat) {x : Str} {p : Pos} (hN : X.N[i]? = some x := by rfl) (hv : Vis X.env.scope x := by first | exact Or.inl rfl | exact Or.inr (Or.inl rfl) | exact Or.inr (Or.inr rfl)) (hd : (x == ("__debug__" : Str)) = false := by decide)
    (hcd : (x == ("__classdict__" : Str)) = false := by decide) : GS X (.Return (some (.Name x p)) pos) (SRetV i) := by
  refine ⟨_, ps_ret (pe_var hN hv hd hcd), fun pa w σ o ρ' R h E q => ?_⟩
  unfold SRetV at h
  split at h
  case h_2 => cases h
  rename_i ds e
  obtain ⟨q1, q2⟩ := Prod.mk.inj (Option.some.inj h)
  subst q1
  subst q2
  obtain ⟨a1, a2, ⟨vs, a3, a4⟩, a5⟩ := R.ow i none ds e
  obtain ⟨R1, s1, no⟩ := R.leave (i := i)
  refine ⟨_, a1, q ⟨w.F, w.H, w.al, w.ρ.set i .un⟩ σ (w.al i) vs R1 rfl s1 (.inl ⟨i, none, ds, e, rfl⟩) a3 a2 (fun ⟨j, t, es, h, z⟩ => ?_) a4⟩
  obtain ⟨n, h⟩ := no j t es h
  exact n (R.inj j i t none es ds h e z)
end
end Dn
end
section
set_option maxHeartbeats 4000000
namespace Dn
open PySem PySem.Spec PyProof.Rows L2

/-! ### what is walked -/
section
variable {X : Cx} {K : PySem.W.Frag} {pos : Pos} {pa : Nat → Addr} {tg : Expr}
theorem jok_list {F : Hp} {a : Addr} {xs : List V} {ds : List D} (h : SqL K F a xs) (r : RpA K F xs ds) : JOk K (Itl K a) F ds := fun F1 H i e1 e2 => by
  have hs : SqL K H a xs := (e1.trans e2).l h
  refine ⟨fun d hd => ?_, fun hd => ⟨xs, hs, by rw [r.length]; exact List.getElem?_eq_none_iff.mp hd⟩⟩
  obtain ⟨v, h1, h2⟩ := r.get hd
  refine ⟨⟨xs, v, hs, h1⟩, fun x H' ⟨eH, hx⟩ => ?_⟩
  subst eH
  have e := hx xs hs
  rw [h1] at e
  cases e
  exact ⟨F1, Grow.refl e2, h2.mono e1⟩
theorem jok_tup {F : Hp} {a : Addr} {xs : List V} {ds : List D} (h : SqT K F a xs) (r : RpA K F xs ds) : JOk K (Itt K a) F ds := fun F1 H i e1 e2 => by
  have hs : SqT K H a xs := (e1.trans e2).t h
  refine ⟨fun d hd => ?_, fun hd => ⟨xs, hs, by rw [r.length]; exact List.getElem?_eq_none_iff.mp hd⟩⟩
  obtain ⟨v, h1, h2⟩ := r.get hd
  refine ⟨⟨xs, v, hs, h1⟩, fun x H' ⟨eH, hx⟩ => ?_⟩
  subst eH
  have e := hx xs hs
  rw [h1] at e
  cases e
  exact ⟨F1, Grow.refl e2, h2.mono e1⟩
theorem jok_range {F : Hp} {lo : Int} {n : Nat} : JOk K (Itr lo n) F ((List.range n).map fun i => D.int (lo + (i : Nat))) := fun F1 H i e1 e2 => by
  refine ⟨fun d hd => ?_, fun hd => ?_⟩
  · rw [List.getElem?_map] at hd
    obtain ⟨j, hj, rfl⟩ := Option.map_eq_some_iff.mp hd
    obtain ⟨hlt, e⟩ := List.getElem?_eq_some_iff.mp hj
    rw [List.getElem_range] at e
    subst e
    rw [List.length_range] at hlt
    refine ⟨hlt, fun x H' ⟨eH, hx⟩ => ?_⟩
    subst eH
    subst hx
    exact ⟨F1, Grow.refl e2, .int _⟩
  · have := List.getElem?_eq_none_iff.mp hd
    rw [List.length_map, List.length_range] at this
    exact this
theorem jok_rangeC {F : Hp} {lo c : Int} {n : Nat} : JOk K (Itc lo c n) F ((List.range n).map fun i => D.int (lo + (i : Nat) * c)) := fun F1 H i e1 e2 => by
  refine ⟨fun d hd => ?_, fun hd => ?_⟩
  · rw [List.getElem?_map] at hd
    obtain ⟨j, hj, rfl⟩ := Option.map_eq_some_iff.mp hd
    obtain ⟨hlt, e⟩ := List.getElem?_eq_some_iff.mp hj
    rw [List.getElem_range] at e
    subst e
    rw [List.length_range] at hlt
    refine ⟨hlt, fun x H' ⟨eH, hx⟩ => ?_⟩
    subst eH
    subst hx
    exact ⟨F1, Grow.refl e2, .int _⟩
  · have := List.getElem?_eq_none_iff.mp hd
    rw [List.length_map, List.length_range] at this
    exact this
def pairD (x y : D) : D := .tup [x, y]
theorem zip_some {xs ys : List D} {i : Nat} {d : D} (h : (List.zipWith pairD xs ys)[i]? = some d) : ∃ x y, xs[i]? = some x ∧ ys[i]? = some y ∧ d = pairD x y := by
  rw [List.getElem?_zipWith] at h
  split at h
  · rename_i x y h1 h2
    exact ⟨x, y, h1, h2, (Option.some.inj h).symm⟩
  · cases h
theorem zip_none {xs ys : List D} {i : Nat} (h : (List.zipWith pairD xs ys)[i]? = none) : xs.length ≤ i ∨ ys.length ≤ i := by
  have := List.getElem?_eq_none_iff.mp h
  rw [List.length_zipWith] at this
  omega
theorem jok_zip {F : Hp} {a b : Addr} {xs ys : List V} {ds es : List D} (h : SqL K F a xs) (h' : SqL K F b ys) (r : RpA K F xs ds) (r' : RpA K F ys es) : JOk K (Itz K a b) F (List.zipWith pairD ds es) := fun F1 H i e1 e2 => by
  have hs : SqL K H a xs := (e1.trans e2).l h
  have hs' : SqL K H b ys := (e1.trans e2).l h'
  refine ⟨fun d hd => ?_, fun hd => ⟨xs, ys, hs, hs', by rw [r.length, r'.length]; exact zip_none hd⟩⟩
  obtain ⟨x, y, hx, hy, rfl⟩ := zip_some hd
  obtain ⟨v, h1, h2⟩ := r.get hx
  obtain ⟨u, h3, h4⟩ := r'.get hy
  refine ⟨⟨xs, ys, v, u, hs, hs', h1, h3⟩, fun z H' ⟨T, p, q, ez, nT, eH, f1, f2⟩ => ?_⟩
  subst ez
  subst eH
  have e := f1 xs hs
  rw [h1] at e
  cases e
  have e := f2 ys hs'
  rw [h3] at e
  cases e
  have g := Grow.new (o := .tup [v, u]) e2 nT
  exact ⟨_, g, .tup (.inl (.inl upd_same)) (.cons ((h2.mono e1).mono g.e1) (.cons ((h4.mono e1).mono g.e1) .nil))⟩
theorem jok_zipT {F : Hp} {a b : Addr} {xs ys : List V} {ds es : List D} (h : SqT K F a xs) (h' : SqT K F b ys) (r : RpA K F xs ds) (r' : RpA K F ys es) : JOk K (RZ.ItzT K a b) F (List.zipWith pairD ds es) := fun F1 H i e1 e2 => by
  have hs : SqT K H a xs := (e1.trans e2).t h
  have hs' : SqT K H b ys := (e1.trans e2).t h'
  refine ⟨fun d hd => ?_, fun hd => ⟨xs, ys, hs, hs', by rw [r.length, r'.length]; exact zip_none hd⟩⟩
  obtain ⟨x, y, hx, hy, rfl⟩ := zip_some hd
  obtain ⟨v, h1, h2⟩ := r.get hx
  obtain ⟨u, h3, h4⟩ := r'.get hy
  refine ⟨⟨xs, ys, v, u, hs, hs', h1, h3⟩, fun z H' ⟨T, p, q, ez, nT, eH, f1, f2⟩ => ?_⟩
  subst ez
  subst eH
  have e := f1 xs hs
  rw [h1] at e
  cases e
  have e := f2 ys hs'
  rw [h3] at e
  cases e
  have g := Grow.new (o := .tup [v, u]) e2 nT
  exact ⟨_, g, .tup (.inl (.inl upd_same)) (.cons ((h2.mono e1).mono g.e1) (.cons ((h4.mono e1).mono g.e1) .nil))⟩
/-- a list or a tuple -/
def ISeq (f : FE) : FA := fun ρ => bnd (f ρ) fun d ρ1 => match d with
  | .lst ds => some (ds, ρ1)
  | .tup ds => some (ds, ρ1)
  | _ => none
def iSeq (K : PySem.W.Frag) (te : TE) : TI := fun σ H R => te σ H fun x H1 => ∃ a, x = .ref a ∧ ((∃ xs, SqL K H1 a xs ∧ R (Itl K a) H1) ∨ ∃ xs, SqT K H1 a xs ∧ R (Itt K a) H1)
theorem pi_seq {l : Expr} {te : TE} (hl : PE X l te) : PI X tg l (iSeq X.K te) := by
  refine ⟨fun pins s σ H R I h => thn (hl.run pins s σ H _ I h) fun v s1 hv => ?_⟩
  obtain ⟨x, H1, I1, r1, a, rfl, q⟩ := hv
  have hr : v = Value.ref a := r1
  subst hr
  -- the constant that stands for it: both rules are asked of a state that is there already
  have at_once : ∀ (xs : List V), (SqL X.K H1 a xs ∧ R (Itl X.K a) H1) ∨ (SqT X.K H1 a xs ∧ R (Itt X.K a) H1) → wpAny (model X.prog X.w) X.A (pyIter (.ref a)) (PIE X pins σ tg R) X.xe s1 := by
    intro xs hq
    have new : ∀ b ∈ [s1.heap.objs.size], FpOk X pins H1 b := fun b hb => by
      rw [List.mem_singleton.mp hb]
      exact I1.fpOk (Nat.le_refl _) (I1.hok.fresh (Nat.le_refl _))
    rcases hq with ⟨hs, q⟩ | ⟨hs, q⟩
    · obtain ⟨its, _, p, _⟩ := I1.list hs
      exact wpAny_pyIter_list p.isList ⟨_, _, _, _, H1, rfl, I1.kept (t' := s1.toks) fun b o e => Heap.get?_push_of_some _ e, turn_list a _, ⟨_, Heap.get?_push_size _ rfl, rfl, rfl⟩, new, q⟩
    · obtain ⟨its, _, p, _⟩ := I1.tuple hs
      exact wpAny_pyIter_tuple (show s1.heap.IsTuple a its.toArray from p) ⟨_, _, _, _, H1, rfl, I1.kept (t' := s1.toks) fun b o e => Heap.get?_push_of_some _ e, turn_tuple a _, ⟨_, Heap.get?_push_size _ rfl, rfl, rfl⟩, new, q⟩
  rcases q with ⟨xs, h1, h2⟩ | ⟨xs, h1, h2⟩
  · exact at_once xs (.inl ⟨h1, h2⟩)
  · exact at_once xs (.inr ⟨h1, h2⟩)
theorem gi_seq {l : Expr} {f : FE} (h : GE X l f) : GI X tg l (ISeq f) := by
  obtain ⟨te, a, b⟩ := h
  refine ⟨_, pi_seq a, fun pa w σ ds ρ' R h R' q => ?_⟩
  obtain ⟨d, ρ1, e1, h2⟩ := bnd_eq h
  refine b pa w σ d ρ1 R e1 _ fun w1 v R1 p1 s1 r1 => ?_
  split at h2
  · obtain ⟨q1, q2⟩ := Prod.mk.inj (Option.some.inj h2)
    subst q1
    subst q2
    cases r1 with
    | lst hs ra => exact ⟨_, rfl, .inl ⟨_, R1.ex.l (.inl (.inl hs)), q w1 _ R1 p1 s1 (jok_list (.inl (.inl hs)) ra)⟩⟩
  · obtain ⟨q1, q2⟩ := Prod.mk.inj (Option.some.inj h2)
    subst q1
    subst q2
    cases r1 with
    | tup hs ra => exact ⟨_, rfl, .inr ⟨_, R1.ex.t hs, q w1 _ R1 p1 s1 (jok_tup hs ra)⟩⟩
  · cases h2
/-- ranges -/
def rngD (lo : Int) (n : Nat) : List D := (List.range n).map fun i => D.int (lo + (i : Nat))
def rngC (lo c : Int) (n : Nat) : List D := (List.range n).map fun i => D.int (lo + (i : Nat) * c)
def IRange1 (fa : FA) : FA := fun ρ => bnd (fa ρ) fun ds ρ1 => match ds with
  | [.int j] => if -(2 ^ 62) ≤ j ∧ j < 2 ^ 62 then some (rngD 0 j.toNat, ρ1) else none
  | _ => none
def IRange2 (fa : FA) : FA := fun ρ => bnd (fa ρ) fun ds ρ1 => match ds with
  | [.int i, .int j] => if -(2 ^ 62) ≤ i ∧ i < 2 ^ 62 ∧ -(2 ^ 62) ≤ j ∧ j < 2 ^ 62 then some (rngD i (j - i).toNat, ρ1) else none
  | _ => none
def rgcB (i j c : Int) : Bool := decide (c ≠ 0) && decide (c.natAbs < 1073741824) && Builtin.Range.small i j c && decide (0 ≤ Builtin.Range.rangeSize i j c)
def IRange3 (fa : FA) : FA := fun ρ => bnd (fa ρ) fun ds ρ1 => match ds with
  | [.int i, .int j, .int c] => if rgcB i j c = true then some (rngC i c (Builtin.Range.rangeSize i j c).toNat, ρ1) else none
  | _ => none
theorem gi_range1 {e : Expr} {fa : FA} {p : Pos} (ha : GA X [e] fa) (hm : X.mg "range" = none) (hg : Gl X "range" := by rfl) (hs : starEach [e] X.env = [(false, eval e X.env)] := by rfl) : GI X tg (.Call (.Name "range" p) [e] [] pos) (IRange1 fa) := by
  obtain ⟨ta, a, b⟩ := ha
  refine ⟨_, pi_range1 hg hm a hs, fun pa w σ ds ρ' R h R' q => ?_⟩
  obtain ⟨es, ρ1, e1, h2⟩ := bnd_eq h
  refine b pa w σ es ρ1 R e1 _ fun w1 vs R1 p1 s1 r1 => ?_
  split at h2
  · split at h2
    case isFalse => cases h2
    rename_i hz
    obtain ⟨q1, q2⟩ := Prod.mk.inj (Option.some.inj h2)
    subst q1
    subst q2
    cases r1 with
    | cons r rr =>
      cases rr
      cases r
      exact ⟨_, rfl, hz.1, hz.2, q w1 _ R1 p1 s1 jok_range⟩
  · cases h2
theorem gi_range2 {e e' : Expr} {fa : FA} {p : Pos} (ha : GA X [e, e'] fa) (hm : X.mg "range" = none) (hg : Gl X "range" := by rfl) (hs : starEach [e, e'] X.env = [(false, eval e X.env), (false, eval e' X.env)] := by rfl) (hs2 : starEach [e'] X.env = [(false, eval e' X.env)] := by rfl) : GI X tg (.Call (.Name "range" p) [e, e'] [] pos) (IRange2 fa) := by
  obtain ⟨ta, a, b⟩ := ha
  refine ⟨_, pi_range2 hg hm a hs hs2, fun pa w σ ds ρ' R h R' q => ?_⟩
  obtain ⟨es, ρ1, e1, h2⟩ := bnd_eq h
  refine b pa w σ es ρ1 R e1 _ fun w1 vs R1 p1 s1 r1 => ?_
  split at h2
  · split at h2
    case isFalse => cases h2
    rename_i hz
    obtain ⟨q1, q2⟩ := Prod.mk.inj (Option.some.inj h2)
    subst q1
    subst q2
    cases r1 with
    | cons r rr =>
      cases rr with
      | cons r' rr =>
        cases rr
        cases r
        cases r'
        exact ⟨_, _, rfl, hz, q w1 _ R1 p1 s1 jok_range⟩
  · cases h2
theorem gi_range3 {e e' e2 : Expr} {fa : FA} {p : Pos} (ha : GA X [e, e', e2] fa) (hm : X.mg "range" = none) (hc : X.calm = true := by rfl) (hg : Gl X "range" := by rfl) (hs : starEach [e, e', e2] X.env = (false, eval e X.env) :: starEach [e', e2] X.env := by rfl)
    (hpl : (backTo pos (starEach [e', e2] X.env)).any (·.1) = false := by rfl) : GI X tg (.Call (.Name "range" p) [e, e', e2] [] pos) (IRange3 fa) := by
  obtain ⟨ta, a, b⟩ := ha
  refine ⟨_, pi_range3 hg hm a (hs := hs) (hpl := hpl), fun pa w σ ds ρ' R h R' q => ?_⟩
  obtain ⟨es, ρ1, e1, h2⟩ := bnd_eq h
  refine b pa w σ es ρ1 R e1 _ fun w1 vs R1 p1 s1 r1 => ?_
  split at h2
  · split at h2
    case isFalse => cases h2
    rename_i i j c hz
    obtain ⟨q1, q2⟩ := Prod.mk.inj (Option.some.inj h2)
    subst q1
    subst q2
    unfold rgcB at hz
    simp only [Bool.and_eq_true, decide_eq_true_eq] at hz
    cases r1 with
    | cons r rr =>
      cases rr with
      | cons r' rr =>
        cases rr with
        | cons r2 rr =>
          cases rr
          cases r
          cases r'
          cases r2
          exact ⟨i, j, c, (Builtin.Range.rangeSize i j c).toNat, rfl, ⟨hz.1.1.1, hz.1.1.2, hz.1.2, (Int.toNat_of_nonneg hz.2).symm⟩, q w1 _ R1 p1 s1 jok_rangeC⟩
  · cases h2
def IZip (fa : FA) : FA := fun ρ => bnd (fa ρ) fun ds ρ1 => match ds with
  | [.lst xs, .lst ys] => some (List.zipWith pairD xs ys, ρ1)
  | [.tup xs, .tup ys] => some (List.zipWith pairD xs ys, ρ1)
  | _ => none
theorem gi_zip {e e2 : Expr} {fa : FA} {p tpos : Pos} {elts : List Expr} {kk : Nat} (ha : GA X [e, e2] fa) (hm : X.mg "zip" = none) (hg : Gl X "zip" := by rfl)
    (hs : starEach [e, e2] X.env = (false, eval e X.env) :: starEach [e2] X.env := by rfl) (hpl : (backTo pos (starEach [e2] X.env)).any (·.1) = false := by rfl) : GI X (.Tuple elts kk tpos) (.Call (.Name "zip" p) [e, e2] [] pos) (IZip fa) := by
  obtain ⟨ta, a, b⟩ := ha
  refine ⟨_, RZ.pi_zipA hg hm a hs hpl, fun pa w σ ds ρ' R h R' q => ?_⟩
  obtain ⟨es, ρ1, e1, h2⟩ := bnd_eq h
  refine b pa w σ es ρ1 R e1 _ fun w1 vs R1 p1 s1 r1 => ?_
  split at h2
  · obtain ⟨q1, q2⟩ := Prod.mk.inj (Option.some.inj h2)
    subst q1
    subst q2
    cases r1 with
    | cons r rr =>
      cases rr with
      | cons r' rr =>
        cases rr
        cases r with
        | lst h1 h2 =>
          cases r' with
          | lst h3 h4 => exact ⟨_, _, _, _, rfl, .inl ⟨R1.ex.l (.inl (.inl h1)), R1.ex.l (.inl (.inl h3)), q w1 _ R1 p1 s1 (jok_zip (.inl (.inl h1)) (.inl (.inl h3)) h2 h4)⟩⟩
  · obtain ⟨q1, q2⟩ := Prod.mk.inj (Option.some.inj h2)
    subst q1
    subst q2
    cases r1 with
    | cons r rr =>
      cases rr with
      | cons r' rr =>
        cases rr
        cases r with
        | tup h1 h2 =>
          cases r' with
          | tup h3 h4 => exact ⟨_, _, _, _, rfl, .inr ⟨R1.ex.t h1, R1.ex.t h3, q w1 _ R1 p1 s1 (jok_zipT h1 h3 h2 h4)⟩⟩
  · cases h2

/-! ### a list of one's own, read and changed -/
theorem Rel.put {w : Wd} {σ : L2.St} {i : Nat} {t : Option Nat} {ds es : List D} {ys : List V} (R : Rel K pa w σ) (hi : w.ρ[i]? = some (.ow t ds)) (r : RpA K w.F ys es) :
    Rel K pa ⟨w.F, upd w.H (w.al i) (.lst ys), w.al, w.ρ.set i (.ow t es)⟩ σ ∧ Step w ⟨w.F, upd w.H (w.al i) (.lst ys), w.al, w.ρ.set i (.ow t es)⟩ := by
  have hlt : i < w.ρ.length := (List.getElem?_eq_some_iff.mp hi).1
  obtain ⟨a1, a2, ⟨us, a3, _⟩, a5⟩ := R.ow i t ds hi
  have at_j : ∀ (j : Nat) (u : Option Nat) (fs : List D), (w.ρ.set i (.ow t es))[j]? = some (.ow u fs) → (j = i ∧ u = t ∧ fs = es) ∨ (i ≠ j ∧ w.ρ[j]? = some (.ow u fs)) := fun j u fs h => by
    by_cases z : i = j
    · subst z
      rw [List.getElem?_set_self hlt] at h
      cases h
      exact .inl ⟨rfl, rfl, rfl⟩
    · rw [List.getElem?_set_ne z] at h
      exact .inr ⟨z, h⟩
  have old : ∀ (j : Nat) (u : Option Nat) (fs : List D), (w.ρ.set i (.ow t es))[j]? = some (.ow u fs) → ∃ u fs, w.ρ[j]? = some (.ow u fs) := fun j u fs h => by
    rcases at_j j u fs h with ⟨y, _, _⟩ | ⟨_, h⟩
    · rw [y]
      exact ⟨t, ds, hi⟩
    · exact ⟨u, fs, h⟩
  refine ⟨⟨R.ex.mut a2, by rw [List.length_set]; exact R.len, fun j d h => ?_, fun j u fs h => ?_, fun j j' u u' fs fs' h h' e => ?_⟩, ⟨Ex.refl _, fun b o hb n => ?_, fun _ _ _ _ h => h, fun b ⟨j, u, fs, h, e⟩ => ?_, fun b hb => ?_⟩⟩
  · have z : i ≠ j := fun z => by
      subst z
      dsimp only at h
      rw [List.getElem?_set_self hlt] at h
      cases h
    dsimp only at h
    rw [List.getElem?_set_ne z] at h
    exact R.fz j d h
  · rcases at_j j u fs h with ⟨y1, y2, y3⟩ | ⟨z, h⟩
    · subst y1
      subst y2
      subst y3
      exact ⟨a1, a2, ⟨ys, upd_same, r⟩, a5⟩
    · obtain ⟨b1, b2, ⟨us', b3, b4⟩, b5⟩ := R.ow j u fs h
      refine ⟨b1, b2, ⟨us', ?_, b4⟩, b5⟩
      dsimp only
      rw [upd_ne fun y => z (R.inj i j t u ds fs hi h y.symm)]
      exact b3
  · obtain ⟨_, _, k⟩ := old j u fs h
    obtain ⟨_, _, k'⟩ := old j' u' fs' h'
    exact R.inj j j' _ _ _ _ k k' e
  · dsimp only
    rw [upd_ne fun y => n ⟨i, t, ds, hi, y.symm⟩]
    exact hb
  · obtain ⟨_, _, k⟩ := old j u fs h
    exact .inl ⟨j, _, _, k, e⟩
  · dsimp only at hb
    by_cases z : b = w.al i
    · rw [z, upd_same] at hb
      cases hb
    · rw [upd_ne z] at hb
      exact hb
/-- a method that changes the list -/
def MetG (K : PySem.W.Frag) (r : V → List V → Hp → VK → Prop) (m : List D → List D → Option (D × List D)) : Prop := ∀ (F H : Hp) (a : Addr) (xs vs : List V) (ds es ds' : List D) (z : D), Ex F H → F a = none → H a = some (.lst xs) → RpA K F xs ds → RpA K F vs es → m ds es = some (z, ds') →
  ∀ Q : VK, (∀ v ys, Rp K F v z → RpA K F ys ds' → Q v (upd H a (.lst ys))) → r (.ref a) vs H Q
def FMeth (i : Nat) (m : List D → List D → Option (D × List D)) (fa : FA) : FE := fun ρ => match ρ[i]? with
  | some (.ow _ _) => bnd (fa ρ) fun es ρ1 => match ρ1[i]? with
    | some (.ow t ds) => match m ds es with
      | some (z, ds') => some (z, ρ1.set i (.ow t ds'))
      | none => none
    | _ => none
  | _ => none
theorem good_meth {r : V → List V → Hp → VK → Prop} {m : List D → List D → Option (D × List D)} {ta : TA} {fa : FA} (i : Nat) (hm : MetG K r m) (ha : GoodA K ta fa) : GoodE K (tBM K "list" r (tVar i) ta) (FMeth i m fa) := fun pa w σ d ρ' R h Q q => by
  unfold FMeth at h
  split at h
  case h_2 => cases h
  rename_i t0 ds0 e0
  obtain ⟨es, ρ1, e1, h2⟩ := bnd_eq h
  split at h2
  case h_2 => cases h2
  rename_i t ds e3
  split at h2
  case h_2 => cases h2
  rename_i z ds' e4
  obtain ⟨q1, q2⟩ := Prod.mk.inj (Option.some.inj h2)
  subst q1
  subst q2
  obtain ⟨a1, a2, ⟨us, a3, a4⟩, a5⟩ := R.ow i t0 ds0 e0
  refine ⟨_, a1, .inl ⟨rfl, _, .inl (.inl a3)⟩, ha pa w σ es ρ1 R e1 _ fun w1 vs R1 p1 s1 r1 => ?_⟩
  subst p1
  obtain ⟨b1, b2, ⟨us', b3, b4⟩, b5⟩ := R1.ow i t ds e3
  have ea : w.al i = w1.al i := V.ref.inj (Option.some.inj (Option.some.inj (a1.symm.trans b1)))
  rw [ea]
  refine hm w1.F w1.H (w1.al i) us' vs ds es ds' z R1.ex b2 b3 b4 r1 e4 Q fun v ys rv ry => ?_
  obtain ⟨R2, s2⟩ := R1.put e3 ry
  exact q _ v R2 rfl (s1.trans s2) rv
theorem ge_meth (i : Nat) {x name : Str} {id : String} {e : Expr} {es : List Expr} {r : V → List V → Hp → VK → Prop} {m : List D → List D → Option (D × List D)} {fa : FA} {px apos cpos : Pos} (slot : Slot "list" name id) (hty : typeOf (.builtin id) = pure (.type "method_descriptor")) (hr : MtR X id r) (hm : MetG X.K r m) (ha : GA X (e :: es) fa)
    (hN : X.N[i]? = some x := by rfl) (hv : Vis X.env.scope x := by first | exact Or.inl rfl | exact Or.inr (Or.inl rfl) | exact Or.inr (Or.inr rfl)) (hd : (x == ("__debug__" : Str)) = false := by decide)
    (hcd : (x == ("__classdict__" : Str)) = false := by decide) (hbase : attributeBase (.Name x px) name X.env (eval (.Name x px) X.env) = eval (.Name x px) X.env := by rfl)
    (hfew : ((backTo cpos (starEach (e :: es) X.env)).all (fun x => !x.1) && (backToKw cpos (keywordEach [] X.env)).all (fun x => x.1.isSome) && decide ((e :: es).length + ([] : List Keyword).length + (if ([] : List Keyword).isEmpty then 0 else 1) < 30)) = true := by rfl)
    (hline : (apos.endLine == cpos.line) = true := by rfl) (hs : starEach (e :: es) X.env = (false, eval e X.env) :: starEach es X.env := by rfl) (hplain : (backTo cpos (starEach es X.env)).any (·.1) = false := by rfl) :
    GE X (.Call (.Attribute (.Name x px) name apos) (e :: es) [] cpos) (FMeth i m fa) := by
  obtain ⟨ta, a, b⟩ := ha
  exact ⟨_, pe_bm PySem.F.plainAttrs_list slot hty hr (pe_var hN hv hd hcd) a hbase hfew hline hs hplain, good_meth i hm b⟩
def mAppend : List D → List D → Option (D × List D) := fun ds es => match es with
  | [e] => if ds.length < 16777216 then some (.non, ds ++ [e]) else none
  | _ => none
theorem line_lt {n : Nat} (h : n < 16777216) : n < sizeLine := by
  rw [sizeLine_eq]
  exact h
theorem met_append : MetG K rAppend mAppend := fun F H a xs vs ds es ds' z e1 e2 e3 r1 r2 h Q q => by
  unfold mAppend at h
  split at h
  case h_2 => cases h
  split at h
  case isFalse => cases h
  rename_i hz
  obtain ⟨q1, q2⟩ := Prod.mk.inj (Option.some.inj h)
  subst q1
  subst q2
  cases r2 with
  | cons r rr =>
    cases rr
    exact ⟨a, xs, _, rfl, rfl, e3, by rw [r1.length]; exact line_lt hz, q _ _ .non (r1.append (.cons r .nil))⟩
/-- the list handed over is one that stands already -/
def mExtend : List D → List D → Option (D × List D) := fun ds es => match es with
  | [.lst fs] => if ds.length + fs.length ≤ 16777216 then some (.non, ds ++ fs) else none
  | _ => none
def seqIx (k : Int) (n : Nat) : Option Nat := if -(2 ^ 63) ≤ k ∧ k < 2 ^ 63 then seqIndex? k n else none
def mPopAt : List D → List D → Option (D × List D) := fun ds es => match es with
  | [.int i] => match seqIx i ds.length with
    | some k => match ds[k]? with
      | some d => some (d, ds.eraseIdx k)
      | none => none
    | none => none
  | _ => none
theorem met_popAt : MetG K rPopAt mPopAt := fun F H a xs vs ds es ds' z e1 e2 e3 r1 r2 h Q q => by
  unfold mPopAt at h
  split at h
  case h_2 => cases h
  rename_i i
  split at h
  case h_2 => cases h
  rename_i k hk
  split at h
  case h_2 => cases h
  rename_i d hd
  obtain ⟨q1, q2⟩ := Prod.mk.inj (Option.some.inj h)
  subst q1
  subst q2
  unfold seqIx at hk
  split at hk
  case isFalse => cases hk
  rename_i hz
  cases r2 with
  | cons r rr =>
    cases rr
    cases r
    obtain ⟨v, h1, h2⟩ := r1.get hd
    exact ⟨a, xs, i, k, v, rfl, rfl, e3, hz.1, hz.2, by rw [r1.length]; exact hk, h1, q v _ h2 (r1.erase k)⟩
/-- own[k] -/
def FIxO (i : Nat) (f : FE) : FE := fun ρ => match ρ[i]? with
  | some (.ow _ _) => bnd (f ρ) fun k ρ1 => match k, ρ1[i]? with
    | .int k, some (.ow _ ds) => match atI ds k with
      | some d => some (d, ρ1)
      | none => none
    | _, _ => none
  | _ => none
theorem atI_rp {F : Hp} {xs : List V} {ds : List D} {k : Int} {d : D} (r : RpA K F xs ds) (h : atI ds k = some d) : ∃ v, atI xs k = some v ∧ Rp K F v d := by
  unfold atI at h ⊢
  rw [r.length]
  obtain ⟨j, h1, h2⟩ := Option.bind_eq_some_iff.mp h
  obtain ⟨v, h3, h4⟩ := r.get h2
  exact ⟨v, by rw [h1]; exact h3, h4⟩
theorem ge_ixO (i : Nat) {x : Str} {b : Expr} {f : FE} {px : Pos} (hb : GE X b f) (hN : X.N[i]? = some x := by rfl) (hv : Vis X.env.scope x := by first | exact Or.inl rfl | exact Or.inr (Or.inl rfl) | exact Or.inr (Or.inr rfl)) (hd : (x == ("__debug__" : Str)) = false := by decide)
    (hcd : (x == ("__classdict__" : Str)) = false := by decide) (hs : PlainIx b := by exact fun _ _ => rfl) : GE X (.Subscript (.Name x px) b pos) (FIxO i f) := by
  obtain ⟨te, h1, h2⟩ := hb
  refine ⟨_, pe_ix ix_list (pe_var hN hv hd hcd) h1 hs, fun pa w σ d ρ' R h Q q => ?_⟩
  unfold FIxO at h
  split at h
  case h_2 => cases h
  rename_i t0 ds0 e0
  obtain ⟨k, ρ1, e1, h3⟩ := bnd_eq h
  split at h3
  case h_2 => cases h3
  rename_i kk t ds e3
  split at h3
  case h_2 => cases h3
  rename_i d' e4
  obtain ⟨q1, q2⟩ := Prod.mk.inj (Option.some.inj h3)
  subst q1
  subst q2
  obtain ⟨a1, a2, ⟨us, a3, a4⟩, a5⟩ := R.ow i t0 ds0 e0
  refine ⟨_, a1, h2 pa w σ _ ρ1 R e1 _ fun w1 v R1 p1 s1 r1 => ?_⟩
  cases r1
  rw [← p1] at e3
  obtain ⟨b1, b2, ⟨us', b3, b4⟩, b5⟩ := R1.ow i t ds e3
  have ea : w.al i = w1.al i := V.ref.inj (Option.some.inj (Option.some.inj (a1.symm.trans b1)))
  rw [ea]
  obtain ⟨u, h5, h6⟩ := atI_rp b4 e4
  exact ⟨_, _, _, u, rfl, rfl, .inl (.inl b3), h5, q w1 u R1 p1 s1 h6⟩
/-- own[k] = .. -/
def TSubO (i : Nat) (f : FE) : FT := fun d ρ => match ρ[i]? with
  | some (.ow _ _) => match f ρ with
    | some (.int k, ρ1) => match ρ1[i]? with
      | some (.ow t ds) => match ixN ds.length k with
        | some j => some (ρ1.set i (.ow t (ds.set j d)))
        | none => none
      | _ => none
    | _ => none
  | _ => none
theorem gt_subO (i : Nat) {x : Str} {b : Expr} {f : FE} {px : Pos} (hb : GE X b f) (hN : X.N[i]? = some x := by rfl) (hv : Vis X.env.scope x := by first | exact Or.inl rfl | exact Or.inr (Or.inl rfl) | exact Or.inr (Or.inr rfl)) (hd : (x == ("__debug__" : Str)) = false := by decide)
    (hcd : (x == ("__classdict__" : Str)) = false := by decide)
    (ha : ∀ v, assign (.Subscript (.Name x px) b pos) X.env v = (do
      let ov ← holding [v] (eval (.Name x px) X.env)
      let iv ← holding [v, ov] (eval b X.env)
      standAt pos
      holding [v, ov, iv] (setItem ov iv v)
      release [v, ov, iv] []) := by intro _; rfl) : GT X (.Subscript (.Name x px) b pos) (TSubO i f) [] := by
  obtain ⟨te, h1, h2⟩ := hb
  refine ⟨_, pg_sub (pe_var hN hv hd hcd) h1 set_list ha, fun pa w σ v d ρ' R r h Q q => ?_⟩
  unfold TSubO at h
  split at h
  case h_2 => cases h
  rename_i t0 ds0 e0
  split at h
  case h_2 => cases h
  rename_i k ρ1 e1
  split at h
  case h_2 => cases h
  rename_i t ds e3
  split at h
  case h_2 => cases h
  rename_i j e4
  have e5 := Option.some.inj h
  subst e5
  obtain ⟨a1, a2, ⟨us, a3, a4⟩, a5⟩ := R.ow i t0 ds0 e0
  refine ⟨_, a1, h2 pa w σ _ ρ1 R e1 _ fun w1 u R1 p1 s1 r1 => ?_⟩
  cases r1
  subst p1
  obtain ⟨b1, b2, ⟨us', b3, b4⟩, b5⟩ := R1.ow i t ds e3
  have ea : w.al i = w1.al i := V.ref.inj (Option.some.inj (Option.some.inj (a1.symm.trans b1)))
  rw [ea]
  obtain ⟨R2, s2⟩ := R1.put e3 (b4.set (r.mono s1.ex) j)
  exact ⟨_, us', k, j, rfl, rfl, b3, by rw [b4.length]; exact e4, q _ σ R2 rfl (s1.trans s2) (fun _ _ => rfl) rfl⟩
end
end Dn
end
section
set_option maxHeartbeats 4000000
namespace Dn
open PySem PySem.Spec PyProof.Rows L2

/-! ### a def's promise, by its worth -/
/-- the parameters behind the call: one's own lists as they stand then -/
def outs : Nat → List Sl → List Sl → Option (List Sl)
  | _, [], _ => some []
  | i, .ow _ _ :: r, .ow t ds :: r' => if t = some i then (outs (i + 1) r r').map fun l => .ow (some i) ds :: l else none
  | _, .ow _ _ :: _, _ => none
  | i, _ :: r, _ :: r' => (outs (i + 1) r r').map fun l => .un :: l
  | _, _ :: _, [] => none
theorem outs_at : ∀ {k : Nat} {ρ ρe ρ' : List Sl} {i : Nat} {s : Sl}, outs k ρ ρe = some ρ' → ρ'[i]? = some s → s = .un ∨ ∃ ds, s = .ow (some (k + i)) ds ∧ ρe[i]? = some (.ow (some (k + i)) ds) ∧ ∃ u es, ρ[i]? = some (.ow u es)
  | _, [], _, _, _, _, h, hi => by
    unfold outs at h
    cases h
    simp at hi
  | k, .ow u es :: r, .ow t ds :: r', ρ', i, s, h, hi => by
    unfold outs at h
    split at h
    case isFalse => cases h
    rename_i et
    obtain ⟨l, hl, rfl⟩ := Option.map_eq_some_iff.mp h
    cases i with
    | zero =>
      cases hi
      exact .inr ⟨ds, rfl, by rw [et]; rfl, u, es, rfl⟩
    | succ i =>
      have q := outs_at (i := i) hl (by simpa using hi)
      rw [show k + 1 + i = k + (i + 1) by omega] at q
      rcases q with q | ⟨ds', q1, q2, q3⟩
      · exact .inl q
      · exact .inr ⟨ds', q1, by simpa using q2, by simpa using q3⟩
  | k, .ow _ _ :: r, .un :: _, _, _, _, h, _ => by
    unfold outs at h
    cases h
  | k, .ow _ _ :: r, .fz _ :: _, _, _, _, h, _ => by
    unfold outs at h
    cases h
  | k, .ow _ _ :: r, [], _, _, _, h, _ => by
    unfold outs at h
    cases h
  | k, .un :: r, x :: r', ρ', i, s, h, hi => by
    unfold outs at h
    obtain ⟨l, hl, rfl⟩ := Option.map_eq_some_iff.mp h
    cases i with
    | zero =>
      cases hi
      exact .inl rfl
    | succ i =>
      have q := outs_at (i := i) hl (by simpa using hi)
      rw [show k + 1 + i = k + (i + 1) by omega] at q
      rcases q with q | ⟨ds', q1, q2, q3⟩
      · exact .inl q
      · exact .inr ⟨ds', q1, by simpa using q2, by simpa using q3⟩
  | k, .fz _ :: r, x :: r', ρ', i, s, h, hi => by
    unfold outs at h
    obtain ⟨l, hl, rfl⟩ := Option.map_eq_some_iff.mp h
    cases i with
    | zero =>
      cases hi
      exact .inl rfl
    | succ i =>
      have q := outs_at (i := i) hl (by simpa using hi)
      rw [show k + 1 + i = k + (i + 1) by omega] at q
      rcases q with q | ⟨ds', q1, q2, q3⟩
      · exact .inl q
      · exact .inr ⟨ds', q1, by simpa using q2, by simpa using q3⟩
  | _, .un :: _, [], _, _, _, h, _ => by
    unfold outs at h
    cases h
  | _, .fz _ :: _, [], _, _, _, h, _ => by
    unfold outs at h
    cases h
theorem outs_has : ∀ {k : Nat} {ρ ρe ρ' : List Sl} {i : Nat} {u : Option Nat} {es : List D}, outs k ρ ρe = some ρ' → ρ[i]? = some (.ow u es) → ∃ ds, ρe[i]? = some (.ow (some (k + i)) ds)
  | _, [], _, _, _, _, _, _, hi => by simp at hi
  | k, .ow u' es' :: r, .ow t ds :: r', ρ', i, u, es, h, hi => by
    unfold outs at h
    split at h
    case isFalse => cases h
    rename_i et
    obtain ⟨l, hl, rfl⟩ := Option.map_eq_some_iff.mp h
    cases i with
    | zero => exact ⟨ds, by rw [et]; rfl⟩
    | succ i =>
      have q := outs_has (i := i) hl (by simpa using hi)
      rw [show k + 1 + i = k + (i + 1) by omega] at q
      simpa using q
  | k, .ow _ _ :: r, .un :: _, _, _, _, _, h, _ => by
    unfold outs at h
    cases h
  | k, .ow _ _ :: r, .fz _ :: _, _, _, _, _, h, _ => by
    unfold outs at h
    cases h
  | k, .ow _ _ :: r, [], _, _, _, _, h, _ => by
    unfold outs at h
    cases h
  | k, .un :: r, x :: r', ρ', i, u, es, h, hi => by
    unfold outs at h
    obtain ⟨l, hl, rfl⟩ := Option.map_eq_some_iff.mp h
    cases i with
    | zero => cases hi
    | succ i =>
      have q := outs_has (i := i) hl (by simpa using hi)
      rw [show k + 1 + i = k + (i + 1) by omega] at q
      simpa using q
  | k, .fz _ :: r, x :: r', ρ', i, u, es, h, hi => by
    unfold outs at h
    obtain ⟨l, hl, rfl⟩ := Option.map_eq_some_iff.mp h
    cases i with
    | zero => cases hi
    | succ i =>
      have q := outs_has (i := i) hl (by simpa using hi)
      rw [show k + 1 + i = k + (i + 1) by omega] at q
      simpa using q
  | _, .un :: _, [], _, _, _, _, h, _ => by
    unfold outs at h
    cases h
  | _, .fz _ :: _, [], _, _, _, _, h, _ => by
    unfold outs at h
    cases h
theorem outs_len : ∀ {k : Nat} {ρ ρe ρ' : List Sl}, outs k ρ ρe = some ρ' → ρ'.length = ρ.length
  | _, [], _, _, h => by
    unfold outs at h
    cases h
    rfl
  | k, .ow _ _ :: r, .ow t ds :: r', ρ', h => by
    unfold outs at h
    split at h
    case isFalse => cases h
    obtain ⟨l, hl, rfl⟩ := Option.map_eq_some_iff.mp h
    rw [List.length_cons, List.length_cons, outs_len hl]
  | k, .ow _ _ :: r, .un :: _, _, h => by
    unfold outs at h
    cases h
  | k, .ow _ _ :: r, .fz _ :: _, _, h => by
    unfold outs at h
    cases h
  | k, .ow _ _ :: r, [], _, h => by
    unfold outs at h
    cases h
  | k, .un :: r, x :: r', ρ', h => by
    unfold outs at h
    obtain ⟨l, hl, rfl⟩ := Option.map_eq_some_iff.mp h
    rw [List.length_cons, List.length_cons, outs_len hl]
  | k, .fz _ :: r, x :: r', ρ', h => by
    unfold outs at h
    obtain ⟨l, hl, rfl⟩ := Option.map_eq_some_iff.mp h
    rw [List.length_cons, List.length_cons, outs_len hl]
  | _, .un :: _, [], _, h => by
    unfold outs at h
    cases h
  | _, .fz _ :: _, [], _, h => by
    unfold outs at h
    cases h

/-- what a call is worth: what comes back (a datum, or a fresh list of one's own), and the parameters -/
inductive Rs where
  | d (x : D) | l (ds : List D)
abbrev DN := List Sl → Option (Rs × List Sl)
/-- the parameters' slots of a call: each own list bears its number -/
def Par (ρ : List Sl) : Prop := ∀ (i : Nat) (t : Option Nat) (ds : List D), ρ[i]? = some (.ow t ds) → t = some i
def spD (K : PySem.W.Frag) (m : Nat) (den : DN) : Sp := fun vs H Q _ => vs.length = m ∧ ∃ (F : Hp) (al : Nat → Addr) (ρ : List Sl) (r : Rs) (ρ' : List Sl), Rel K al ⟨F, H, al, ρ⟩ (vs.map some) ∧ Par ρ ∧ den ρ = some (r, ρ') ∧
  match r with
  | .d d => ∀ (w' : Wd) (v : V), Rel K al w' (vs.map some) → w'.al = al → w'.ρ = ρ' → Step ⟨F, H, al, ρ⟩ w' → Rp K w'.F v d → Q v w'.H
  | .l ds => ∀ (w' : Wd) (P : Addr) (acc : List V), Rel K al w' (vs.map some) → w'.al = al → w'.ρ = ρ' → Step ⟨F, H, al, ρ⟩ w' → H P = none → w'.H P = some (.lst acc) → w'.F P = none → ¬ Own w' P → RpA K w'.F acc ds → Q (.ref P) w'.H
def fEnd (ρ : List Sl) : Option (Ou × List Sl) → Option (Rs × List Sl)
  | some (.ret d, ρe) => (outs 0 ρ ρe).map fun l => (.d d, l)
  | some (.rto ds, ρe) => (outs 0 ρ ρe).map fun l => (.l ds, l)
  | some (.nx, ρe) => (outs 0 ρ ρe).map fun l => (.d .non, l)
  | _ => none
def fDef (m n : Nat) (body : FS) : DN := fun ρ => if ρ.length = m then fEnd ρ (body (ρ ++ List.replicate (n - m) .un)) else none
theorem fDef_len {m n : Nat} {body : FS} (ρ : List Sl) (r : Rs) (ρ' : List Sl) (h : fDef m n body ρ = some (r, ρ')) : ρ.length = m := by
  unfold fDef at h
  split at h
  · assumption
  · cases h
section
variable {K : PySem.W.Frag}
theorem rel_start {al : Nat → Addr} {F H : Hp} {ρ : List Sl} {vs : List V} {N : List Str} (R : Rel K al ⟨F, H, al, ρ⟩ (vs.map some)) :
    Rel K al ⟨F, H, al, ρ ++ List.replicate (N.length - ρ.length) .un⟩ (L2.start N vs) := by
  have hl : ρ.length = vs.length := by
    have := R.len
    dsimp only at this
    rw [List.length_map] at this
    exact this
  have at_i : ∀ (i : Nat) (s : Sl), (ρ ++ List.replicate (N.length - ρ.length) .un)[i]? = some s → s ≠ .un → i < ρ.length ∧ ρ[i]? = some s := fun i s h n => by
    by_cases hi : i < ρ.length
    · rw [List.getElem?_append_left hi] at h
      exact ⟨hi, h⟩
    · rw [List.getElem?_append_right (by omega), List.getElem?_replicate] at h
      split at h
      · exact (n (Option.some.inj h).symm).elim
      · cases h
  have sig : ∀ (i : Nat), i < ρ.length → (L2.start N vs)[i]? = (vs.map some)[i]? := fun i hi => by
    unfold L2.start
    rw [List.getElem?_append_left (by rw [List.length_map]; omega)]
  refine ⟨R.ex, ?_, fun i d h => ?_, fun i t ds h => ?_, fun i j t u ds es h h' => ?_⟩
  · unfold L2.start
    dsimp only
    rw [List.length_append, List.length_append, List.length_replicate, List.length_replicate, List.length_map, hl]
  · obtain ⟨hi, h⟩ := at_i i _ h (fun z => by cases z)
    obtain ⟨v, a, b⟩ := R.fz i d h
    exact ⟨v, by rw [sig i hi]; exact a, b⟩
  · obtain ⟨hi, h⟩ := at_i i _ h (fun z => by cases z)
    obtain ⟨a, b⟩ := R.ow i t ds h
    exact ⟨by rw [sig i hi]; exact a, b⟩
  · exact R.inj i j t u ds es (at_i i _ h (fun z => by cases z)).2 (at_i j _ h' (fun z => by cases z)).2

/-- the callee's end, as the caller sees it -/
theorem rel_end {al : Nat → Addr} {F H : Hp} {ρ ρe ρ' : List Sl} {vs : List V} {w : Wd} {σ : L2.St} {N : List Str} (R0 : Rel K al ⟨F, H, al, ρ⟩ (vs.map some)) (R : Rel K al w σ) (p : w.ρ = ρe) (ho : outs 0 ρ ρe = some ρ') (s : Step ⟨F, H, al, ρ ++ List.replicate (N.length - ρ.length) .un⟩ w) :
    Rel K al ⟨w.F, w.H, al, ρ'⟩ (vs.map some) ∧ Step ⟨F, H, al, ρ⟩ ⟨w.F, w.H, al, ρ'⟩ ∧ ∀ b, Own ⟨w.F, w.H, al, ρ'⟩ b → Own w b := by
  subst p
  have key : ∀ (i : Nat) (t : Option Nat) (ds : List D), ρ'[i]? = some (.ow t ds) → t = some i ∧ w.ρ[i]? = some (.ow (some i) ds) ∧ ∃ u es, ρ[i]? = some (.ow u es) := fun i t ds h => by
    rcases outs_at ho h with q | ⟨ds', q, q2, q3⟩
    · cases q
    · cases q
      rw [Nat.zero_add] at q2
      exact ⟨by rw [Nat.zero_add], q2, q3⟩
  have ali : ∀ (i : Nat) (ds : List D), w.ρ[i]? = some (.ow (some i) ds) → w.al i = al i := fun i ds h => (R.ow i _ ds h).2.2.2 i rfl
  have sub : ∀ b, Own ⟨F, H, al, ρ ++ List.replicate (N.length - ρ.length) .un⟩ b → Own ⟨F, H, al, ρ⟩ b := fun b ⟨i, t, ds, h, e⟩ => by
    dsimp only at h
    by_cases hi : i < ρ.length
    · rw [List.getElem?_append_left hi] at h
      exact ⟨i, t, ds, h, e⟩
    · rw [List.getElem?_append_right (by omega), List.getElem?_replicate] at h
      split at h <;> cases h
  refine ⟨⟨R.ex, by rw [outs_len ho]; exact R0.len, fun i d h => ?_, fun i t ds h => ?_, fun i j t u ds es h h' e => ?_⟩, ⟨s.ex, fun b o hb n => s.fr b o hb fun z => n (sub b z), fun b o hb n f => s.ff b o hb (fun z => n (sub b z)) f, fun b ⟨i, t, ds, h, e⟩ => ?_, s.st⟩, fun b ⟨i, t, ds, h, e⟩ => ?_⟩
  · rcases outs_at ho h with q | ⟨ds', q, _⟩
    · cases q
    · cases q
  · obtain ⟨e1, h1, u, es, h2⟩ := key i t ds h
    obtain ⟨a1, a2, a3, a4⟩ := R.ow i _ ds h1
    obtain ⟨b1, _⟩ := R0.ow i u es h2
    dsimp only at b1 ⊢
    rw [← ali i ds h1]
    rw [← ali i ds h1] at b1
    exact ⟨b1, a2, a3, fun j hj => by rw [e1] at hj; cases hj; exact (ali i ds h1)⟩
  · obtain ⟨_, h1, _⟩ := key i t ds h
    obtain ⟨_, h2, _⟩ := key j u es h'
    refine R.inj i j _ _ ds es h1 h2 ?_
    rw [ali i ds h1, ali j es h2]
    exact e
  · obtain ⟨_, _, u, es, h2⟩ := key i t ds h
    exact .inl ⟨i, u, es, h2, e⟩
  · obtain ⟨_, h1, _⟩ := key i t ds h
    exact ⟨i, _, ds, h1, by rw [ali i ds h1]; exact e⟩
section
variable {P : Program} {w : World} {mg : Str → Option Value} {base : Heap}
/-- THE RULE for a def -/
theorem fn_den {x qual : Str} {st : Stmt} {f : Addr} {fd : FuncData} {N ps : List Str} {k : Nat} {body : FS} (F : Fun K x qual st f fd) (S : FnScope N ps (defScope st))
    (h : ∀ (cdv : Value) (A : Around) (outer : List Env) (s : Shared) (H : Hp) (E : XK), Room k (A.deeper (envOfC qual (defScope st) s.heap.objs.size f cdv)) → A.guards = some [] → GSs (cxOf CX0 P w K mg base N qual (defScope st) f cdv A outer s H E).nox (defBody st) body) :
    FnG P w K mg base CX0 (k + 1) f fd ps (spD K ps.length (fDef ps.length N.length body)) := by
  refine okG F S (fun vs H Q E h => h.1) fun cdv A outer s H vs Q E hr hg hsp => ?_
  obtain ⟨ts, a, b⟩ := h cdv A outer s H E hr hg
  refine ⟨ts, a, ?_⟩
  obtain ⟨hl, F0, al, ρ, r, ρ', R, par, hd, want⟩ := hsp
  unfold fDef at hd
  split at hd
  case isFalse => cases hd
  rename_i hlen
  rw [← hlen] at hd
  unfold fEnd at hd
  have R0 : Rel K al ⟨F0, H, al, ρ ++ List.replicate (N.length - ρ.length) .un⟩ (L2.start N vs) := rel_start R
  split at hd
  · rename_i d ρe eb
    obtain ⟨l, hl2, e⟩ := Option.map_eq_some_iff.mp hd
    obtain ⟨q1, q2⟩ := Prod.mk.inj e
    subst q1
    subst q2
    refine b al _ (L2.start N vs) _ ρe R0 eb _ fun w1 σ1 v R1 p1 s1 r1 => ?_
    obtain ⟨R2, s2, _⟩ := rel_end R R1 p1 hl2 s1
    exact want ⟨w1.F, w1.H, al, l⟩ v R2 rfl rfl s2 r1
  · rename_i ds ρe eb
    obtain ⟨l, hl2, e⟩ := Option.map_eq_some_iff.mp hd
    obtain ⟨q1, q2⟩ := Prod.mk.inj e
    subst q1
    subst q2
    refine b al _ (L2.start N vs) _ ρe R0 eb _ fun w1 σ1 P' acc R1 p1 s1 h0 hA hF hO ra => ?_
    obtain ⟨R2, s2, so⟩ := rel_end R R1 p1 hl2 s1
    refine want ⟨w1.F, w1.H, al, l⟩ P' acc R2 rfl rfl s2 (h0.elim (fun z => ?_) id) hA hF (fun z => hO (so P' z)) ra
    -- what was its own at the start is a parameter, and still one's own
    obtain ⟨i, t, es, hi, ez⟩ := z
    have hi' : i < ρ.length ∧ ρ[i]? = some (.ow t es) := by
      dsimp only at hi
      by_cases q : i < ρ.length
      · rw [List.getElem?_append_left q] at hi
        exact ⟨q, hi⟩
      · rw [List.getElem?_append_right (by omega), List.getElem?_replicate] at hi
        split at hi <;> cases hi
    obtain ⟨ds', hd'⟩ := outs_has hl2 hi'.2
    rw [Nat.zero_add] at hd'
    rw [← p1] at hd'
    have ea := (R1.ow i _ ds' hd').2.2.2 i rfl
    exact (hO ⟨i, _, ds', hd', ea.trans ez⟩).elim
  · rename_i ρe eb
    obtain ⟨l, hl2, e⟩ := Option.map_eq_some_iff.mp hd
    obtain ⟨q1, q2⟩ := Prod.mk.inj e
    subst q1
    subst q2
    refine b al _ (L2.start N vs) _ ρe R0 eb _ fun w1 σ1 R1 p1 s1 => ?_
    obtain ⟨R2, s2, _⟩ := rel_end R R1 p1 hl2 s1
    exact want ⟨w1.F, w1.H, al, l⟩ .non R2 rfl rfl s2 .non
  · cases hd
end
end
end Dn
end
section
set_option maxHeartbeats 4000000
namespace Dn
open PySem PySem.Spec PyProof.Rows L2

/-! ### calls of defs -/
inductive Mid where
  | no | var (i : Nat) | fr (ds : List D)
structure Ag where
  pre : List D
  mid : Mid
  post : List D
abbrev FG := List Sl → Option (Ag × List Sl)
def MidV (K : PySem.W.Frag) (w0 w : Wd) (σ : L2.St) (vm : List V) : Mid → Prop
  | .no => vm = []
  | .var i => ∃ v, vm = [v] ∧ σ[i]? = some (some v)
  | .fr ds => ∃ P acc, vm = [V.ref P] ∧ w0.H P = none ∧ w.H P = some (.lst acc) ∧ w.F P = none ∧ ¬ Own w P ∧ RpA K w.F acc ds
def AgV (K : PySem.W.Frag) (w0 w : Wd) (σ : L2.St) (vs : List V) (ag : Ag) : Prop := ∃ v1 vm v2, vs = v1 ++ (vm ++ v2) ∧ RpA K w.F v1 ag.pre ∧ RpA K w.F v2 ag.post ∧ MidV K w0 w σ vm ag.mid
def GoodG (K : PySem.W.Frag) (ta : TA) (f : FG) : Prop := ∀ (pa : Nat → Addr) (w : Wd) (σ : L2.St) (ag : Ag) (ρ' : List Sl), Rel K pa w σ → f w.ρ = some (ag, ρ') →
  ∀ Q : List V → Hp → Prop, (∀ (w' : Wd) (vs : List V), Rel K pa w' σ → w'.ρ = ρ' → Step w w' → AgV K w w' σ vs ag → Q vs w'.H) → ta σ w.H Q
structure GG (X : Cx) (es : List Expr) (f : FG) : Prop where
  ok : ∃ ta, PA X es ta ∧ GoodG X.K ta f
section
variable {X : Cx} {K : PySem.W.Frag} {pa : Nat → Addr}
def GAll (fa : FA) : FG := fun ρ => bnd (fa ρ) fun ds ρ1 => some (⟨[], .no, ds⟩, ρ1)
def GCons (f : FE) (fg : FG) : FG := fun ρ => bnd (f ρ) fun d ρ1 => bnd (fg ρ1) fun ag ρ2 => some (⟨d :: ag.pre, ag.mid, ag.post⟩, ρ2)
def GVar (i : Nat) (fa : FA) : FG := fun ρ => match ρ[i]? with
  | some (.ow _ _) => bnd (fa ρ) fun ds ρ1 => some (⟨[], .var i, ds⟩, ρ1)
  | _ => none
def GFr (f : FL) (fa : FA) : FG := fun ρ => bnd (f ρ) fun es ρ1 => bnd (fa ρ1) fun ds ρ2 => some (⟨[], .fr es, ds⟩, ρ2)
theorem gg_all {es : List Expr} {fa : FA} (h : GA X es fa) : GG X es (GAll fa) := by
  obtain ⟨ta, a, b⟩ := h
  refine ⟨_, a, fun pa w σ ag ρ' R h Q q => ?_⟩
  obtain ⟨ds, ρ1, e1, h2⟩ := bnd_eq h
  obtain ⟨q1, q2⟩ := Prod.mk.inj (Option.some.inj h2)
  subst q1
  subst q2
  exact b pa w σ ds ρ1 R e1 _ fun w1 vs R1 p1 s1 r1 => q w1 vs R1 p1 s1 ⟨[], [], vs, rfl, .nil, r1, rfl⟩
theorem gg_cons {e : Expr} {es : List Expr} {f : FE} {fg : FG} (he : GE X e f) (hg : GG X es fg) (hs : starEach (e :: es) X.env = (false, eval e X.env) :: starEach es X.env := by rfl) : GG X (e :: es) (GCons f fg) := by
  obtain ⟨te, a, b⟩ := he
  obtain ⟨ta, c, d⟩ := hg
  refine ⟨_, pa_cons a c hs, fun pa w σ ag ρ' R h Q q => ?_⟩
  obtain ⟨x, ρ1, e1, h2⟩ := bnd_eq h
  obtain ⟨ag', ρ2, e2, h3⟩ := bnd_eq h2
  obtain ⟨q1, q2⟩ := Prod.mk.inj (Option.some.inj h3)
  subst q1
  subst q2
  refine b pa w σ x ρ1 R e1 _ fun w1 v R1 p1 s1 r1 => ?_
  subst p1
  refine d pa w1 σ ag' ρ2 R1 e2 _ fun w2 vs R2 p2 s2 ⟨v1, vm, v2, ev, a1, a2, a3⟩ => ?_
  refine q w2 _ R2 p2 (s1.trans s2) ⟨v :: v1, vm, v2, by rw [ev]; rfl, .cons (r1.mono s2.ex) a1, a2, ?_⟩
  show MidV X.K w w2 σ vm ag'.mid
  revert a3
  cases ag'.mid with
  | no => exact id
  | var i => exact id
  | fr ds => exact fun ⟨P, acc, b1, b2, b3⟩ => ⟨P, acc, b1, s1.st P b2, b3⟩
theorem gg_var (i : Nat) {x : Str} {px : Pos} {es : List Expr} {fa : FA} (h : GA X es fa) (hN : X.N[i]? = some x := by rfl) (hv : Vis X.env.scope x := by first | exact Or.inl rfl | exact Or.inr (Or.inl rfl) | exact Or.inr (Or.inr rfl)) (hd : (x == ("__debug__" : Str)) = false := by decide)
    (hcd : (x == ("__classdict__" : Str)) = false := by decide) (hs : starEach (.Name x px :: es) X.env = (false, eval (.Name x px) X.env) :: starEach es X.env := by rfl) : GG X (.Name x px :: es) (GVar i fa) := by
  obtain ⟨ta, a, b⟩ := h
  refine ⟨_, pa_cons (pe_var hN hv hd hcd) a hs, fun pa w σ ag ρ' R h Q q => ?_⟩
  unfold GVar at h
  split at h
  case h_2 => cases h
  rename_i t ds0 e0
  obtain ⟨ds, ρ1, e1, h2⟩ := bnd_eq h
  obtain ⟨q1, q2⟩ := Prod.mk.inj (Option.some.inj h2)
  subst q1
  subst q2
  obtain ⟨a1, _⟩ := R.ow i t ds0 e0
  exact ⟨_, a1, b pa w σ ds ρ1 R e1 _ fun w1 vs R1 p1 s1 r1 => q w1 _ R1 p1 s1 ⟨[], [_], vs, rfl, .nil, r1, _, rfl, a1⟩⟩
theorem gg_fr {e : Expr} {es : List Expr} {f : FL} {fa : FA} (he : GL X e f) (h : GA X es fa) (hs : starEach (e :: es) X.env = (false, eval e X.env) :: starEach es X.env := by rfl) : GG X (e :: es) (GFr f fa) := by
  obtain ⟨te, c, d⟩ := he
  obtain ⟨ta, a, b⟩ := h
  refine ⟨_, pa_cons c a hs, fun pa w σ ag ρ' R h Q q => ?_⟩
  obtain ⟨fs, ρ1, e1, h2⟩ := bnd_eq h
  obtain ⟨ds, ρ2, e2, h3⟩ := bnd_eq h2
  obtain ⟨q1, q2⟩ := Prod.mk.inj (Option.some.inj h3)
  subst q1
  subst q2
  refine d pa w σ fs ρ1 R e1 _ fun w1 P acc R1 p1 s1 h0 hA hF hO ra => ?_
  subst p1
  refine b pa w1 σ ds ρ2 R1 e2 _ fun w2 vs R2 p2 s2 r2 => ?_
  exact q w2 _ R2 p2 (s1.trans s2) ⟨[], [.ref P], vs, rfl, .nil, r2, P, acc, rfl, h0, s2.fr P _ hA hO, s2.ff P _ hA hO hF, s2.notOwn hA hO, ra.mono s2.ex⟩

/-- the parameters' slots -/
def parS (pre post : List D) : Option (List D) → List Sl
  | none => (pre ++ post).map .fz
  | some ds => pre.map .fz ++ .ow (some pre.length) ds :: post.map .fz
def callR (den : DN) (fg : FG) : List Sl → Option (Rs × List Sl) := fun ρ => bnd (fg ρ) fun ag ρ1 => match ag.mid with
  | .no => match den (parS ag.pre ag.post none) with
    | some (r, _) => some (r, ρ1)
    | none => none
  | .var i => match ρ1[i]? with
    | some (.ow t ds) => match den (parS ag.pre ag.post (some ds)) with
      | some (r, ρo) => match ρo[ag.pre.length]? with
        | some (.ow _ es) => some (r, ρ1.set i (.ow t es))
        | _ => none
      | none => none
    | _ => none
  | .fr ds => match den (parS ag.pre ag.post (some ds)) with
    | some (r, _) => some (r, ρ1)
    | none => none
theorem par_none {F H : Hp} {vs : List V} {ds : List D} (al : Nat → Addr) (e : Ex F H) (r : RpA K F vs ds) : Rel K al ⟨F, H, al, ds.map .fz⟩ (vs.map some) ∧ Par (ds.map .fz) ∧ ∀ b, ¬ Own ⟨F, H, al, ds.map .fz⟩ b := by
  have no : ∀ (i : Nat) (t : Option Nat) (es : List D), (ds.map Sl.fz)[i]? ≠ some (.ow t es) := fun i t es h => by
    rw [List.getElem?_map] at h
    obtain ⟨x, _, z⟩ := Option.map_eq_some_iff.mp h
    cases z
  refine ⟨⟨e, by rw [List.length_map, List.length_map, r.length], fun i d h => ?_, fun i t es h => (no i t es h).elim, fun i j t u es fs h => (no i t es h).elim⟩, fun i t es h => (no i t es h).elim, fun b ⟨i, t, es, h, _⟩ => no i t es h⟩
  dsimp only at h
  rw [List.getElem?_map] at h
  obtain ⟨x, hx, z⟩ := Option.map_eq_some_iff.mp h
  cases z
  obtain ⟨v, a, b⟩ := r.get hx
  exact ⟨v, by rw [List.getElem?_map, a]; rfl, b⟩
theorem par_some {F H : Hp} {v1 v2 acc : List V} {pre post ds : List D} {P : Addr} (e : Ex F H) (r1 : RpA K F v1 pre) (r2 : RpA K F v2 post) (hA : H P = some (.lst acc)) (hF : F P = none) (ra : RpA K F acc ds) :
    Rel K (fun _ => P) ⟨F, H, fun _ => P, parS pre post (some ds)⟩ ((v1 ++ ([V.ref P] ++ v2)).map some) ∧ Par (parS pre post (some ds)) ∧ ∀ b, Own ⟨F, H, fun _ => P, parS pre post (some ds)⟩ b ↔ b = P := by
  have at_i : ∀ (i : Nat) (s : Sl), (parS pre post (some ds))[i]? = some s → (∃ d, s = .fz d ∧ pre[i]? = some d) ∨ (i = pre.length ∧ s = .ow (some pre.length) ds) ∨ ∃ j d, i = pre.length + 1 + j ∧ s = .fz d ∧ post[j]? = some d := fun i s h => by
    unfold parS at h
    by_cases h1 : i < pre.length
    · rw [List.getElem?_append_left (by rw [List.length_map]; exact h1), List.getElem?_map] at h
      obtain ⟨d, hd, z⟩ := Option.map_eq_some_iff.mp h
      exact .inl ⟨d, z.symm, hd⟩
    · rw [List.getElem?_append_right (by rw [List.length_map]; omega), List.length_map] at h
      by_cases h2 : i = pre.length
      · subst h2
        rw [Nat.sub_self] at h
        exact .inr (.inl ⟨rfl, (Option.some.inj h).symm⟩)
      · obtain ⟨j, hj⟩ : ∃ j, i = pre.length + 1 + j := ⟨i - pre.length - 1, by omega⟩
        rw [hj, show pre.length + 1 + j - pre.length = j + 1 by omega, List.getElem?_cons_succ, List.getElem?_map] at h
        obtain ⟨d, hd, z⟩ := Option.map_eq_some_iff.mp h
        exact .inr (.inr ⟨j, d, hj, z.symm, hd⟩)
  have own_i : ∀ (i : Nat) (t : Option Nat) (es : List D), (parS pre post (some ds))[i]? = some (.ow t es) → i = pre.length ∧ t = some pre.length ∧ es = ds := fun i t es h => by
    rcases at_i i _ h with ⟨d, z, _⟩ | ⟨z1, z2⟩ | ⟨j, d, _, z, _⟩
    · cases z
    · cases z2
      exact ⟨z1, rfl, rfl⟩
    · cases z
  have hmid : (parS pre post (some ds))[pre.length]? = some (.ow (some pre.length) ds) := by
    unfold parS
    rw [List.getElem?_append_right (by rw [List.length_map]; omega), List.length_map, Nat.sub_self]
    rfl
  have vmid : ((v1 ++ ([V.ref P] ++ v2)).map some)[pre.length]? = some (some (V.ref P)) := by
    rw [List.getElem?_map, List.getElem?_append_right (by rw [r1.length]; omega), r1.length, Nat.sub_self]
    rfl
  refine ⟨⟨e, ?_, fun i d h => ?_, fun i t es h => ?_, fun i j t u es fs h h' _ => ?_⟩, fun i t es h => ?_, fun b => ⟨fun ⟨i, t, es, _, z⟩ => z.symm, fun z => ⟨pre.length, _, _, hmid, z.symm⟩⟩⟩
  · unfold parS
    simp only [List.length_map, List.length_append, List.length_cons, List.length_nil, r1.length, r2.length]
    omega
  · rcases at_i i _ h with ⟨d', z, hd⟩ | ⟨z1, z2⟩ | ⟨j, d', ei, z, hd⟩
    · cases z
      obtain ⟨v, a, b⟩ := r1.get hd
      have hlt : i < v1.length := (List.getElem?_eq_some_iff.mp a).1
      exact ⟨v, by rw [List.getElem?_map, List.getElem?_append_left hlt, a]; rfl, b⟩
    · cases z2
    · cases z
      obtain ⟨v, a, b⟩ := r2.get hd
      refine ⟨v, ?_, b⟩
      rw [ei, List.getElem?_map, List.getElem?_append_right (by rw [r1.length]; omega), r1.length, show pre.length + 1 + j - pre.length = j + 1 by omega]
      show Option.map some (([V.ref P] ++ v2)[j + 1]?) = some (some v)
      rw [List.getElem?_append_right (by simp)]
      simp only [List.length_cons, List.length_nil, Nat.zero_add, Nat.add_sub_cancel, a]
      rfl
  · obtain ⟨z1, z2, z3⟩ := own_i i t es h
    subst z1
    subst z3
    exact ⟨vmid, hF, ⟨acc, hA, ra⟩, fun _ _ => rfl⟩
  · obtain ⟨z1, _, _⟩ := own_i i t es h
    obtain ⟨z2, _, _⟩ := own_i j u fs h'
    rw [z1, z2]
  · obtain ⟨z1, z2, _⟩ := own_i i t es h
    rw [z1, z2]
/-- what the caller wants of a call -/
def Want (K : PySem.W.Frag) (pa : Nat → Addr) (w : Wd) (σ : L2.St) (ρ' : List Sl) (Q : VK) : Rs → Prop
  | .d d => ∀ (w' : Wd) (v : V), Rel K pa w' σ → w'.ρ = ρ' → Step w w' → Rp K w'.F v d → Q v w'.H
  | .l ds => ∀ (w' : Wd) (P : Addr) (acc : List V), Rel K pa w' σ → w'.ρ = ρ' → Step w w' → w.H P = none → w'.H P = some (.lst acc) → w'.F P = none → ¬ Own w' P → RpA K w'.F acc ds → Q (.ref P) w'.H
theorem good_call {den : DN} {fg : FG} {ta : TA} {m : Nat} {E : XK} (hm : ∀ ρ r ρ', den ρ = some (r, ρ') → ρ.length = m) (ha : GoodG K ta fg) {w : Wd} {σ : L2.St} {r : Rs} {ρ' : List Sl} {Q : VK} (R : Rel K pa w σ) (h : callR den fg w.ρ = some (r, ρ')) (q : Want K pa w σ ρ' Q r) :
    tCall (spD K m den) [] E ta σ w.H Q := by
  obtain ⟨ag, ρ1, e1, h2⟩ := bnd_eq h
  refine ha pa w σ ag ρ1 R e1 _ fun w1 vs R1 p1 s1 ⟨v1, vm, v2, ev, a1, a2, a3⟩ => ?_
  subst p1
  subst ev
  obtain ⟨pre, mid, post⟩ := ag
  dsimp only at h2 a1 a2 a3
  show spD K m den ((v1 ++ (vm ++ v2)) ++ []) w1.H Q E
  rw [List.append_nil]
  cases mid with
  | no =>
    have evm : vm = [] := a3
    subst evm
    dsimp only at h2
    split at h2
    case h_2 => cases h2
    rename_i r' ρo eo
    obtain ⟨q1, q2⟩ := Prod.mk.inj (Option.some.inj h2)
    subst q1
    subst q2
    obtain ⟨R2, par, no⟩ := par_none (K := K) w1.al R1.ex (show RpA K w1.F (v1 ++ ([] ++ v2)) (pre ++ post) from a1.append a2)
    have gr : ∀ {w' : Wd}, Rel K w1.al w' ((v1 ++ ([] ++ v2)).map some) → Step ⟨w1.F, w1.H, w1.al, (pre ++ post).map .fz⟩ w' → Grow w1.F w1.H w'.F w'.H := fun {w'} R' s' => ⟨s'.ex, R'.ex, fun b o hb => s'.fr b o hb (no b), fun b o hb f => s'.ff b o hb (no b) f⟩
    refine ⟨?_, w1.F, w1.al, _, r', ρo, R2, par, eo, ?_⟩
    · have := hm _ _ _ eo
      unfold parS at this
      rw [← this]
      simp only [List.length_map, List.length_append, List.length_nil, a1.length, a2.length, Nat.zero_add]
    · cases r' with
      | d d =>
        intro w' v R' _ _ s' rp
        obtain ⟨R3, s3⟩ := R1.grow (gr R' s')
        exact q ⟨w'.F, w'.H, w1.al, w1.ρ⟩ v R3 rfl (s1.trans s3) rp
      | l ds =>
        intro w' P acc R' _ _ s' h0 hA hF hO ra
        obtain ⟨R3, s3⟩ := R1.grow (gr R' s')
        refine q ⟨w'.F, w'.H, w1.al, w1.ρ⟩ P acc R3 rfl (s1.trans s3) (s1.st P h0) hA hF (fun z => ?_) ra
        obtain ⟨⟨us, hu⟩, _⟩ := R1.own_at (b := P) z
        rw [h0] at hu
        cases hu
  | var i =>
    obtain ⟨v, evm, hv⟩ := a3
    subst evm
    dsimp only at h2
    split at h2
    case h_2 => cases h2
    rename_i t ds ei
    split at h2
    case h_2 => cases h2
    rename_i r' ρo eo
    split at h2
    case h_2 => cases h2
    rename_i t' es eo2
    obtain ⟨q1, q2⟩ := Prod.mk.inj (Option.some.inj h2)
    subst q1
    subst q2
    obtain ⟨b1, b2, ⟨acc0, b3, b4⟩, b5⟩ := R1.ow i t ds ei
    have evP : v = .ref (w1.al i) := Option.some.inj (Option.some.inj (hv.symm.trans b1))
    subst evP
    obtain ⟨R2, par, own⟩ := par_some R1.ex a1 a2 b3 b2 b4
    have hlt : i < w1.ρ.length := (List.getElem?_eq_some_iff.mp ei).1
    -- behind the call
    have back : ∀ {w' : Wd}, Rel K (fun _ => w1.al i) w' ((v1 ++ ([V.ref (w1.al i)] ++ v2)).map some) → w'.al = (fun _ => w1.al i) → w'.ρ = ρo → Step ⟨w1.F, w1.H, fun _ => w1.al i, parS pre post (some ds)⟩ w' →
        Rel K pa ⟨w'.F, w'.H, w1.al, w1.ρ.set i (.ow t es)⟩ σ ∧ Step w1 ⟨w'.F, w'.H, w1.al, w1.ρ.set i (.ow t es)⟩ := by
      intro w' R' ea er s'
      have at_j : ∀ (j : Nat) (u : Option Nat) (fs : List D), (w1.ρ.set i (.ow t es))[j]? = some (.ow u fs) → (j = i ∧ u = t ∧ fs = es) ∨ (i ≠ j ∧ w1.ρ[j]? = some (.ow u fs)) := fun j u fs h => by
        by_cases z : i = j
        · subst z
          rw [List.getElem?_set_self hlt] at h
          cases h
          exact .inl ⟨rfl, rfl, rfl⟩
        · rw [List.getElem?_set_ne z] at h
          exact .inr ⟨z, h⟩
      have old : ∀ (j : Nat) (u : Option Nat) (fs : List D), (w1.ρ.set i (.ow t es))[j]? = some (.ow u fs) → ∃ u fs, w1.ρ[j]? = some (.ow u fs) := fun j u fs h => by
        rcases at_j j u fs h with ⟨y, _, _⟩ | ⟨_, h⟩
        · rw [y]
          exact ⟨t, ds, ei⟩
        · exact ⟨u, fs, h⟩
      have apart : ∀ b, ¬ Own w1 b → ¬ Own ⟨w1.F, w1.H, fun _ => w1.al i, parS pre post (some ds)⟩ b := fun b n z => n ⟨i, t, ds, ei, ((own b).mp z).symm⟩
      refine ⟨⟨R'.ex, by rw [List.length_set]; exact R1.len, fun j d h => ?_, fun j u fs h => ?_, fun j j' u u' fs fs' h h' e => ?_⟩, ⟨s'.ex, fun b o hb n => s'.fr b o hb (apart b n), fun b o hb n f => s'.ff b o hb (apart b n) f, fun b ⟨j, u, fs, h, e⟩ => ?_, s'.st⟩⟩
      · have z : i ≠ j := fun z => by
          subst z
          dsimp only at h
          rw [List.getElem?_set_self hlt] at h
          cases h
        dsimp only at h
        rw [List.getElem?_set_ne z] at h
        obtain ⟨v, c1, c2⟩ := R1.fz j d h
        exact ⟨v, c1, c2.mono s'.ex⟩
      · rcases at_j j u fs h with ⟨y1, y2, y3⟩ | ⟨z, h⟩
        · subst y1
          subst y2
          subst y3
          rw [← er] at eo2
          obtain ⟨_, c2, c3, _⟩ := R'.ow _ _ _ eo2
          rw [ea] at c2 c3
          exact ⟨b1, c2, c3, b5⟩
        · obtain ⟨c1, c2, ⟨us', c3, c4⟩, c5⟩ := R1.ow j u fs h
          have n : ¬ Own ⟨w1.F, w1.H, fun _ => w1.al i, parS pre post (some ds)⟩ (w1.al j) := fun y => z (R1.inj i j t u ds fs ei h ((own _).mp y).symm)
          exact ⟨c1, s'.ff _ _ c3 n c2, ⟨us', s'.fr _ _ c3 n, c4.mono s'.ex⟩, c5⟩
      · obtain ⟨_, _, k⟩ := old j u fs h
        obtain ⟨_, _, k'⟩ := old j' u' fs' h'
        exact R1.inj j j' _ _ _ _ k k' e
      · obtain ⟨_, _, k⟩ := old j u fs h
        exact .inl ⟨j, _, _, k, e⟩
    refine ⟨?_, w1.F, _, _, r', ρo, R2, par, eo, ?_⟩
    · have := hm _ _ _ eo
      rw [← this]
      unfold parS
      simp only [List.length_map, List.length_append, List.length_cons, List.length_nil, a1.length, a2.length]
      omega
    · cases r' with
      | d d =>
        intro w' v R' ea er s' rp
        obtain ⟨R3, s3⟩ := back R' ea er s'
        exact q ⟨w'.F, w'.H, w1.al, w1.ρ.set i (.ow t es)⟩ v R3 rfl (s1.trans s3) rp
      | l fs =>
        intro w' P acc R' ea er s' h0 hA hF hO ra
        obtain ⟨R3, s3⟩ := back R' ea er s'
        refine q ⟨w'.F, w'.H, w1.al, w1.ρ.set i (.ow t es)⟩ P acc R3 rfl (s1.trans s3) (s1.st P h0) hA hF (fun z => ?_) ra
        rcases s3.ow P z with y | y
        · obtain ⟨⟨us, hu⟩, _⟩ := R1.own_at y
          rw [h0] at hu
          cases hu
        · obtain ⟨j, u, gs, hj, ez⟩ := z
          obtain ⟨_, hn, _⟩ := R3.ow j u gs hj
          have own3 : ∃ u fs, w1.ρ[j]? = some (.ow u fs) := by
            dsimp only at hj
            by_cases z : i = j
            · subst z
              exact ⟨t, ds, ei⟩
            · rw [List.getElem?_set_ne z] at hj
              exact ⟨u, gs, hj⟩
          obtain ⟨u', gs', k⟩ := own3
          obtain ⟨_, _, ⟨us, hu, _⟩, _⟩ := R1.ow j u' gs' k
          have ez : w1.al j = P := ez
          rw [ez, h0] at hu
          cases hu
  | fr ds =>
    obtain ⟨P0, acc0, evm, c0, c1, c2, c3, c4⟩ := a3
    subst evm
    dsimp only at h2
    split at h2
    case h_2 => cases h2
    rename_i r' ρo eo
    obtain ⟨q1, q2⟩ := Prod.mk.inj (Option.some.inj h2)
    subst q1
    subst q2
    obtain ⟨R2, par, own⟩ := par_some R1.ex a1 a2 c1 c2 c4
    have back : ∀ {w' : Wd}, Rel K (fun _ => P0) w' ((v1 ++ ([V.ref P0] ++ v2)).map some) → Step ⟨w1.F, w1.H, fun _ => P0, parS pre post (some ds)⟩ w' →
        Rel K pa ⟨w'.F, w'.H, w1.al, w1.ρ⟩ σ ∧ Step w ⟨w'.F, w'.H, w1.al, w1.ρ⟩ := by
      intro w' R' s'
      have apart : ∀ b, b ≠ P0 → ¬ Own ⟨w1.F, w1.H, fun _ => P0, parS pre post (some ds)⟩ b := fun b n z => n ((own b).mp z)
      refine ⟨⟨R'.ex, R1.len, fun j d h => ?_, fun j u fs h => ?_, R1.inj⟩, ⟨s1.ex.trans s'.ex, fun b o hb n => ?_, fun b o hb n f => ?_, fun b z => s1.ow b z, fun b hb => s1.st b (s'.st b hb)⟩⟩
      · obtain ⟨v, c1, c2⟩ := R1.fz j d h
        exact ⟨v, c1, c2.mono s'.ex⟩
      · obtain ⟨d1, d2, ⟨us', d3, d4⟩, d5⟩ := R1.ow j u fs h
        have n : ¬ Own ⟨w1.F, w1.H, fun _ => P0, parS pre post (some ds)⟩ (w1.al j) := apart _ fun y => c3 ⟨j, u, fs, h, y⟩
        exact ⟨d1, s'.ff _ _ d3 n d2, ⟨us', s'.fr _ _ d3 n, d4.mono s'.ex⟩, d5⟩
      · have hne : b ≠ P0 := ne_of_none hb c0
        exact s'.fr b o (s1.fr b o hb n) (apart b hne)
      · have hne : b ≠ P0 := ne_of_none hb c0
        exact s'.ff b o (s1.fr b o hb n) (apart b hne) (s1.ff b o hb n f)
    refine ⟨?_, w1.F, _, _, r', ρo, R2, par, eo, ?_⟩
    · have := hm _ _ _ eo
      rw [← this]
      unfold parS
      simp only [List.length_map, List.length_append, List.length_cons, List.length_nil, a1.length, a2.length]
      omega
    · cases r' with
      | d d =>
        intro w' v R' ea er s' rp
        obtain ⟨R3, s3⟩ := back R' s'
        exact q ⟨w'.F, w'.H, w1.al, w1.ρ⟩ v R3 rfl s3 rp
      | l fs =>
        intro w' P acc R' ea er s' h0 hA hF hO ra
        obtain ⟨R3, s3⟩ := back R' s'
        refine q ⟨w'.F, w'.H, w1.al, w1.ρ⟩ P acc R3 rfl s3 (s1.st P h0) hA hF (fun z => ?_) ra
        obtain ⟨⟨us, hu⟩, _⟩ := R1.own_at (b := P) z
        rw [h0] at hu
        cases hu

/-! ### the rules -/
def FCallE (den : DN) (fg : FG) : FE := fun ρ => bnd (callR den fg ρ) fun r ρ1 => match r with
  | .d d => some (d, ρ1)
  | .l ds => some (.lst ds, ρ1)
def FCallL (den : DN) (fg : FG) : FL := fun ρ => bnd (callR den fg ρ) fun r ρ1 => match r with
  | .d _ => none
  | .l ds => some (ds, ρ1)
theorem good_callE {den : DN} {fg : FG} {ta : TA} {m : Nat} {E : XK} (hm : ∀ ρ r ρ', den ρ = some (r, ρ') → ρ.length = m) (ha : GoodG K ta fg) : GoodE K (tCall (spD K m den) [] E ta) (FCallE den fg) := fun pa w σ d ρ' R h Q q => by
  obtain ⟨r, ρ1, e1, h2⟩ := bnd_eq h
  refine good_call hm ha R e1 ?_
  cases r with
  | d x =>
    obtain ⟨q1, q2⟩ := Prod.mk.inj (Option.some.inj h2)
    subst q1
    subst q2
    exact q
  | l ds =>
    obtain ⟨q1, q2⟩ := Prod.mk.inj (Option.some.inj h2)
    subst q1
    subst q2
    exact fun w' P acc R' p' s' h0 hA hF hO ra => q ⟨upd w'.F P (.lst acc), w'.H, w'.al, w'.ρ⟩ _ (R'.freeze hF hA hO) p' (s'.freeze h0 hF) (.lst upd_same (ra.mono (Ex.new hF)))
theorem good_callL {den : DN} {fg : FG} {ta : TA} {m : Nat} {E : XK} (hm : ∀ ρ r ρ', den ρ = some (r, ρ') → ρ.length = m) (ha : GoodG K ta fg) : GoodL K (tCall (spD K m den) [] E ta) (FCallL den fg) := fun pa w σ d ρ' R h Q q => by
  obtain ⟨r, ρ1, e1, h2⟩ := bnd_eq h
  refine good_call hm ha R e1 ?_
  cases r with
  | d x => cases h2
  | l ds =>
    obtain ⟨q1, q2⟩ := Prod.mk.inj (Option.some.inj h2)
    subst q1
    subst q2
    exact q
/-- a def of the text, to be called by its name -/
structure Cal (P : Program) (w : World) (K : PySem.W.Frag) (mg : Str → Option Value) (base : Heap) (x : Str) (st : Stmt) (ps : List Str) (k : Nat) (den : DN) : Prop where
  ex : ∃ f fd, Fun K x x st f fd ∧ mg x = some (.ref f) ∧ Binds K fd ps [] ∧ FnG P w K mg base CX0 k f fd ps (spD K ps.length den)
  len : ∀ ρ r ρ', den ρ = some (r, ρ') → ρ.length = ps.length
structure Rm (A : Around) (k : Nat) : Prop where
  room : Room k A
  gd : A.guards = some []
theorem Rm.mono {A : Around} {j k : Nat} (r : Rm A k) (h : j ≤ k) : Rm A j := ⟨r.room.mono h, r.gd⟩
theorem Rm.eq {A : Around} {k : Nat} (r : Rm A k) : A.units + 64 < cLine := r.room.units
variable {x : Str} {st : Stmt} {ps : List Str} {k : Nat} {den : DN} {p pos : Pos} {e : Expr} {es : List Expr} {fg : FG}
theorem ge_call (C : Cal X.prog X.w X.K X.mg X.base x st ps k den) (r : Rm X.A k) (ha : GG X (e :: es) fg) (hg : Gl X x := by rfl) (hdb : (x == ("__debug__" : Str)) = false := by decide) (he : starEach (e :: es) X.env = (false, eval e X.env) :: starEach es X.env := by rfl) (hpl : (backTo pos (starEach es X.env)).any (·.1) = false := by rfl) :
    GE X (.Call (.Name x p) (e :: es) [] pos) (FCallE den fg) := by
  obtain ⟨f, fd, F, hm, hb, G⟩ := C.ex
  obtain ⟨ta, a, b⟩ := ha
  exact ⟨_, pe_callG G r.room r.gd hg hm F.kp hb .nil pass0 a hdb he hpl, good_callE C.len b⟩
theorem gl_call (C : Cal X.prog X.w X.K X.mg X.base x st ps k den) (r : Rm X.A k) (ha : GG X (e :: es) fg) (hg : Gl X x := by rfl) (hdb : (x == ("__debug__" : Str)) = false := by decide) (he : starEach (e :: es) X.env = (false, eval e X.env) :: starEach es X.env := by rfl) (hpl : (backTo pos (starEach es X.env)).any (·.1) = false := by rfl) :
    GL X (.Call (.Name x p) (e :: es) [] pos) (FCallL den fg) := by
  obtain ⟨f, fd, F, hm, hb, G⟩ := C.ex
  obtain ⟨ta, a, b⟩ := ha
  exact ⟨_, pe_callG G r.room r.gd hg hm F.kp hb .nil pass0 a hdb he hpl, good_callL C.len b⟩
end
end Dn
end
section
set_option maxHeartbeats 4000000
namespace Dn
open PySem PySem.Spec PyProof.Rows L2

/-! ### data for ==, repr -/
mutual
def toPD : D → PyData
  | .non => .none
  | .bl b => .bool b
  | .int i => .int i
  | .str x => .str x
  | .lst xs => .list (toPDs xs)
  | .tup xs => .tuple (toPDs xs)
  | .frl xs => .list (toPDs xs)
  | .ty _ => .none
def toPDs : List D → List PyData
  | [] => []
  | x :: xs => toPD x :: toPDs xs
end
mutual
def pdOk : D → Bool
  | .non | .bl _ | .int _ | .str _ => true
  | .lst xs | .tup xs | .frl xs => pdOks xs
  | .ty _ => false
def pdOks : List D → Bool
  | [] => true
  | x :: xs => pdOk x && pdOks xs
end
section
variable {K : PySem.W.Frag} {F H : Hp}
mutual
theorem Rp.dp (e : Ex F H) : ∀ (d : D) (v : V), Rp K F v d → pdOk d = true → Dp K H v (toPD d)
  | .non, _, h, _ => by
    cases h
    exact .non
  | .bl b, _, h, _ => by
    cases h
    exact .bl b
  | .int i, _, h, _ => by
    cases h
    exact .int i
  | .str x, _, h, _ => by
    cases h
    exact .str x
  | .lst ds, _, h, o => by
    cases h with
    | lst a b => exact .lst (.inl (.inl (e _ _ a))) (RpA.dp e ds _ b o)
  | .tup ds, _, h, o => by
    cases h with
    | tup a b => exact .tup (e.t a) (RpA.dp e ds _ b o)
  | .frl ds, _, h, o => by
    cases h with
    | frl a b => exact .lst (e.l a) (RpA.dp e ds _ b o)
  | .ty _, _, _, o => by cases o
theorem RpA.dp (e : Ex F H) : ∀ (ds : List D) (vs : List V), RpA K F vs ds → pdOks ds = true → DpAll K H vs (toPDs ds)
  | [], _, h, _ => by
    cases h
    exact .nil
  | d :: ds, _, h, o => by
    cases h with
    | cons a b =>
      unfold pdOks at o
      rw [Bool.and_eq_true] at o
      exact .cons (Rp.dp e d _ a o.1) (RpA.dp e ds _ b o.2)
end
/-! ### numbers -/
def onII (g : Int → Int → Option D) : D → D → Option D
  | .int i, .int j => g i j
  | _, _ => none
theorem opg_I0 {g : Int → Int → V} {h : Int → Int → D} (q : ∀ F i j, Rp K F (g i j) (h i j)) : OpG K (rI0 g) (onII fun i j => some (h i j)) := fun F H x y d e z eF rx ry hz Q k => by
  cases rx <;> cases ry <;> first | (cases hz; done) | skip
  have e := Option.some.inj hz
  subst e
  exact ⟨_, _, rfl, rfl, k F H _ (Grow.refl eF) (q F _ _)⟩
theorem opg_I {C : Int → Int → Prop} [∀ i j, Decidable (C i j)] {g : Int → Int → V} {h : Int → Int → D} (q : ∀ F i j, Rp K F (g i j) (h i j)) : OpG K (rI C g) (onII fun i j => if C i j then some (h i j) else none) := fun F H x y d e z eF rx ry hz Q k => by
  cases rx <;> cases ry <;> first | (cases hz; done) | skip
  unfold onII at hz
  dsimp only at hz
  split at hz
  case isFalse => cases hz
  rename_i hc
  have e := Option.some.inj hz
  subst e
  exact ⟨_, _, rfl, rfl, hc, k F H _ (Grow.refl eF) (q F _ _)⟩
theorem OpG.or {r r' : R2} {g g' : D → D → Option D} (h : OpG K r g) (h' : OpG K r' g') : OpG K (fun x y H Q => r x y H Q ∨ r' x y H Q) (fun d e => match g d e with
    | some z => some z
    | none => g' d e) := fun F H x y d e z eF rx ry hz Q k => by
  dsimp only at hz
  split at hz
  · rename_i z' e'
    cases hz
    exact .inl (h F H x y d e _ eF rx ry e' Q k)
  · exact .inr (h' F H x y d e z eF rx ry hz Q k)
end
instance (i j : Int) : Decidable (CMulW i j) := by unfold CMulW; infer_instance
instance (i j : Int) : Decidable (CDivW i j) := by unfold CDivW; infer_instance
def CPowW (i j : Int) : Prop := 0 ≤ j ∧ (Builtin.Int.intBits i : Int) * j ≤ 2 ^ 27
instance (i j : Int) : Decidable (CPowW i j) := by unfold CPowW; infer_instance
section
variable {X : Cx}
theorem op_powW : OpR X (binaryOp .Pow) (rI CPowW fun i j => .int (i ^ j.toNat)) := opI fun _ _ _ _ _ _ _ hc q => pow_int hc.1 hc.2 q
/-- tuples: two together; by a number -/
def gCatT : D → D → Option D
  | .tup xs, .tup ys => if xs.length + ys.length ≤ 16777216 then some (.tup (xs ++ ys)) else none
  | _, _ => none
theorem opg_catT {K : PySem.W.Frag} : OpG K (rCatA K) gCatT := fun F H x y d e z eF rx ry hz Q k => by
  unfold gCatT at hz
  split at hz
  case h_2 => cases hz
  rename_i xs ys
  split at hz
  case isFalse => cases hz
  rename_i hl
  have e := Option.some.inj hz
  subst e
  cases rx with
  | @tup a vs _ s1 r1 =>
    cases ry with
    | @tup b us _ s2 r2 =>
      refine ⟨a, b, vs, us, rfl, rfl, eF.t s1, eF.t s2, by rw [r1.length, r2.length]; exact line_le hl, fun e0 => ?_, fun _ e1 => ?_, fun _ _ p hp => ?_⟩
      · subst e0
        cases r1
        exact k F H _ (Grow.refl eF) (.tup s2 r2)
      · subst e1
        cases r2
        rw [List.append_nil] at k
        exact k F H _ (Grow.refl eF) (.tup s1 r1)
      · have g := Grow.new (o := .tup (vs ++ us)) eF hp
        exact k _ _ _ g (.tup (.inl (.inl upd_same)) ((r1.mono g.e1).append (r2.mono g.e1)))
/-- lists: two together -/
def gCatL : D → D → Option D
  | .lst xs, .lst ys => if xs.length + ys.length ≤ 16777216 then some (.lst (xs ++ ys)) else none
  | _, _ => none
theorem opg_catL {K : PySem.W.Frag} : OpG K rCat gCatL := fun F H x y d e z eF rx ry hz Q k => by
  unfold gCatL at hz
  split at hz
  case h_2 => cases hz
  rename_i xs ys
  split at hz
  case isFalse => cases hz
  rename_i hl
  have e := Option.some.inj hz
  subst e
  cases rx with
  | @lst a vs _ s1 r1 =>
    cases ry with
    | @lst b us _ s2 r2 =>
      refine ⟨a, b, vs, us, rfl, rfl, eF _ _ s1, eF _ _ s2, by rw [r1.length, r2.length]; exact line_le hl, fun p hp => ?_⟩
      have g := Grow.new (o := .lst (vs ++ us)) eF hp
      exact k _ _ _ g (.lst upd_same ((r1.mono g.e1).append (r2.mono g.e1)))
/-- lists by a number -/
def gRepL : D → D → Option D
  | .lst xs, .int n => if -(2 ^ 63) ≤ n ∧ n < 2 ^ 63 ∧ xs.length * n.toNat ≤ 16777216 then some (.lst (List.replicate n.toNat xs).flatten) else none
  | _, _ => none
theorem opg_repL {K : PySem.W.Frag} : OpG K rRep gRepL := fun F H x y d e z eF rx ry hz Q k => by
  unfold gRepL at hz
  split at hz
  case h_2 => cases hz
  rename_i xs n
  split at hz
  case isFalse => cases hz
  rename_i hl
  have e := Option.some.inj hz
  subst e
  cases rx with
  | @lst a vs _ s1 r1 =>
    cases ry
    refine ⟨a, n, vs, rfl, rfl, eF _ _ s1, hl.1, hl.2.1, by rw [r1.length]; exact line_le hl.2.2, fun p hp => ?_⟩
    have g := Grow.new (o := .lst (List.replicate n.toNat vs).flatten) eF hp
    exact k _ _ _ g (.lst upd_same ((r1.mono g.e1).rep _))
def gAdd : D → D → Option D
  | .int i, .int j => some (.int (i + j))
  | .tup xs, .tup ys => if xs.length + ys.length ≤ 16777216 then some (.tup (xs ++ ys)) else none
  | .lst xs, .lst ys => if xs.length + ys.length ≤ 16777216 then some (.lst (xs ++ ys)) else none
  | _, _ => none
def rAddG (K : PySem.W.Frag) : R2 := fun x y H Q => rI0 (fun i j => .int (i + j)) x y H Q ∨ (rCatA K x y H Q ∨ rCat x y H Q)
theorem op_addG : OpR X (binaryOp .Add) (rAddG X.K) := op_add.or (op_catA.or op_cat)
theorem opg_add {K : PySem.W.Frag} : OpG K (rAddG K) gAdd := fun F H x y d e z eF rx ry hz Q k => by
  unfold gAdd at hz
  split at hz
  · exact .inl (opg_I0 (K := K) (g := fun i j => .int (i + j)) (h := fun i j => .int (i + j)) (fun F i j => .int _) F H x y _ _ z eF rx ry hz Q k)
  · exact .inr (.inl (opg_catT F H x y _ _ z eF rx ry hz Q k))
  · exact .inr (.inr (opg_catL F H x y _ _ z eF rx ry hz Q k))
  · cases hz
def gSub : D → D → Option D := onII fun i j => some (.int (i - j))
theorem opg_sub {K : PySem.W.Frag} : OpG K (rI0 fun i j => .int (i - j)) gSub := opg_I0 fun _ _ _ => .int _
def gMul : D → D → Option D
  | .int i, .int j => if CMulW i j then some (.int (i * j)) else none
  | .lst xs, .int n => if -(2 ^ 63) ≤ n ∧ n < 2 ^ 63 ∧ xs.length * n.toNat ≤ 16777216 then some (.lst (List.replicate n.toNat xs).flatten) else none
  | _, _ => none
def rMulG : R2 := fun x y H Q => rI CMulW (fun i j => .int (i * j)) x y H Q ∨ rRep x y H Q
theorem op_mulG : OpR X (binaryOp .Mult) rMulG := op_mulW.or op_rep
theorem opg_mul {K : PySem.W.Frag} : OpG K rMulG gMul := fun F H x y d e z eF rx ry hz Q k => by
  unfold gMul at hz
  split at hz
  · exact .inl (opg_I (K := K) (C := CMulW) (g := fun i j => .int (i * j)) (h := fun i j => .int (i * j)) (fun F i j => .int _) F H x y _ _ z eF rx ry hz Q k)
  · exact .inr (opg_repL F H x y _ _ z eF rx ry hz Q k)
  · cases hz
def gMod : D → D → Option D := onII fun i j => if 0 < j then some (.int (i % j)) else none
theorem opg_mod {K : PySem.W.Frag} : OpG K (rI (fun _ j => 0 < j) fun i j => .int (i % j)) gMod := opg_I (C := fun _ j => 0 < j) fun _ _ _ => .int _
def gDiv : D → D → Option D := onII fun i j => if CDivW i j then some (.int (i / j)) else none
theorem opg_div {K : PySem.W.Frag} : OpG K (rI CDivW fun i j => .int (i / j)) gDiv := opg_I (C := CDivW) fun _ _ _ => .int _
def gPow : D → D → Option D := onII fun i j => if CPowW i j then some (.int (i ^ j.toNat)) else none
theorem opg_pow {K : PySem.W.Frag} : OpG K (rI CPowW fun i j => .int (i ^ j.toNat)) gPow := opg_I (C := CPowW) fun _ _ _ => .int _
def gLt : D → D → Option D := onII fun i j => some (.bl (decide (i < j)))
def gLe : D → D → Option D := onII fun i j => some (.bl (decide (i ≤ j)))
def gGt : D → D → Option D := onII fun i j => some (.bl (decide (j < i)))
def gGe : D → D → Option D := onII fun i j => some (.bl (decide (j ≤ i)))
theorem opg_lt {K : PySem.W.Frag} : OpG K (rI0 fun i j => .bl (decide (i < j))) gLt := opg_I0 fun _ _ _ => .bl _
theorem opg_le {K : PySem.W.Frag} : OpG K (rI0 fun i j => .bl (decide (i ≤ j))) gLe := opg_I0 fun _ _ _ => .bl _
theorem opg_gt {K : PySem.W.Frag} : OpG K (rI0 fun i j => .bl (decide (j < i))) gGt := opg_I0 fun _ _ _ => .bl _
theorem opg_ge {K : PySem.W.Frag} : OpG K (rI0 fun i j => .bl (decide (j ≤ i))) gGe := opg_I0 fun _ _ _ => .bl _
def gNeg : D → Option D
  | .int i => some (.int (-i))
  | _ => none
theorem ung_neg {K : PySem.W.Frag} : UnG K (rU fun i => .int (-i)) gNeg := fun F H x d z eF rx hz Q k => by
  cases rx <;> first | (cases hz; done) | skip
  have e := Option.some.inj hz
  subst e
  exact ⟨_, rfl, k F H _ (Grow.refl eF) (.int _)⟩
/-- == of data -/
def strD : D → Option Str
  | .str x => some x
  | _ => none
def bothS (d e : D) : Option (Str × Str) := match strD d, strD e with
  | some x, some y => some (x, y)
  | _, _ => none
theorem bothS_eq {d e : D} {x y : Str} (h : bothS d e = some (x, y)) : d = .str x ∧ e = .str y := by
  cases d <;> first | (cases h; done) | skip
  cases e <;> first | (cases h; done) | skip
  cases h
  exact ⟨rfl, rfl⟩
def gEq (d e : D) : Option D := match bothS d e with
  | some (x, y) => some (.bl (decide (x = y)))
  | none => if pdOk d = true ∧ pdOk e = true ∧ SeqAt.shaped (toPD d) = true ∧ SeqAt.shaped (toPD e) = true then some (.bl (PyData.eqv (toPD d) (toPD e))) else none
def gNe (d e : D) : Option D := match bothS d e with
  | some (x, y) => some (.bl (!decide (x = y)))
  | none => if pdOk d = true ∧ pdOk e = true ∧ SeqAt.shaped (toPD d) = true ∧ SeqAt.shaped (toPD e) = true then some (.bl (!PyData.eqv (toPD d) (toPD e))) else none
def rEqDG (K : PySem.W.Frag) : R2 := fun x y H Q => rEq x y H Q ∨ rEqD K x y H Q
def rNeDG (K : PySem.W.Frag) : R2 := fun x y H Q => rNe x y H Q ∨ rNeD K x y H Q
theorem op_eqDG (hu : X.A.units + 64 < cLine) : OpR X (compareOp .Eq) (rEqDG X.K) := op_eq.or (op_eqD hu)
theorem op_neDG (hu : X.A.units + 64 < cLine) : OpR X (compareOp .NotEq) (rNeDG X.K) := op_ne.or (op_neD hu)
theorem strV_eq {x y : Str} : (V.str x = V.str y) ↔ x = y := ⟨fun e => by cases e; rfl, fun e => by rw [e]⟩
theorem opg_eq {K : PySem.W.Frag} : OpG K (rEqDG K) gEq := fun F H x y d e z eF rx ry hz Q k => by
  unfold gEq at hz
  split at hz
  · rename_i u v hb
    obtain ⟨rfl, rfl⟩ := bothS_eq hb
    cases rx
    cases ry
    have ez := Option.some.inj hz
    subst ez
    refine .inl ⟨rfl, ?_⟩
    rw [decide_eq_decide.mpr strV_eq]
    exact k F H _ (Grow.refl eF) (.bl _)
  · split at hz
    case isFalse => cases hz
    rename_i hc
    have ez := Option.some.inj hz
    subst ez
    exact .inr ⟨_, _, rx.dp eF d x hc.1, ry.dp eF e y hc.2.1, hc.2.2.1, hc.2.2.2, k F H _ (Grow.refl eF) (.bl _)⟩
theorem opg_ne {K : PySem.W.Frag} : OpG K (rNeDG K) gNe := fun F H x y d e z eF rx ry hz Q k => by
  unfold gNe at hz
  split at hz
  · rename_i u v hb
    obtain ⟨rfl, rfl⟩ := bothS_eq hb
    cases rx
    cases ry
    have ez := Option.some.inj hz
    subst ez
    refine .inl ⟨rfl, ?_⟩
    rw [decide_eq_decide.mpr strV_eq]
    exact k F H _ (Grow.refl eF) (.bl _)
  · split at hz
    case isFalse => cases hz
    rename_i hc
    have ez := Option.some.inj hz
    subst ez
    exact .inr ⟨_, _, rx.dp eF d x hc.1, ry.dp eF e y hc.2.1, hc.2.2.1, hc.2.2.2, k F H _ (Grow.refl eF) (.bl _)⟩
/-- is None -/
def gIsN : D → D → Option D
  | .non, .non => some (.bl true)
  | _, .non => some (.bl false)
  | _, _ => none
/-- in: an int among ints -/
def intsD : List D → Option (List Int)
  | [] => some []
  | .int i :: r => (intsD r).map fun l => i :: l
  | _ => none
theorem intsD_eq : ∀ {ds : List D} {ns : List Int}, intsD ds = some ns → ds = ns.map D.int
  | [], _, h => by
    unfold intsD at h
    cases h
    rfl
  | .int i :: r, ns, h => by
    unfold intsD at h
    obtain ⟨l, hl, rfl⟩ := Option.map_eq_some_iff.mp h
    rw [intsD_eq hl]
    rfl
  | .non :: _, _, h => by cases h
  | .bl _ :: _, _, h => by cases h
  | .str _ :: _, _, h => by cases h
  | .lst _ :: _, _, h => by cases h
  | .tup _ :: _, _, h => by cases h
  | .frl _ :: _, _, h => by cases h
  | .ty _ :: _, _, h => by cases h
theorem intsD_of : ∀ ns : List Int, intsD (ns.map D.int) = some ns
  | [] => rfl
  | n :: ns => by
    show (intsD (ns.map D.int)).map _ = _
    rw [intsD_of ns]
    rfl
def seqD : D → Option (List D)
  | .lst xs => some xs
  | .tup xs => some xs
  | .frl xs => some xs
  | _ => none
theorem seqD_sq {K : PySem.W.Frag} {F H : Hp} {v : V} {d : D} {ds : List D} (eF : Ex F H) (r : Rp K F v d) (h : seqD d = some ds) : ∃ a xs, v = .ref a ∧ (SqL K H a xs ∨ SqT K H a xs) ∧ RpA K F xs ds := by
  cases r with
  | lst s r =>
    cases h
    exact ⟨_, _, rfl, .inl (.inl (.inl (eF _ _ s))), r⟩
  | tup s r =>
    cases h
    exact ⟨_, _, rfl, .inr (eF.t s), r⟩
  | frl s r =>
    cases h
    exact ⟨_, _, rfl, .inl (eF.l s), r⟩
  | _ => cases h
def gIn (neg : Bool) : D → D → Option D := fun d e => match d, (seqD e).bind intsD with
  | .int i, some ns => some (.bl (if neg then !ns.contains i else ns.contains i))
  | _, _ => none
theorem inV_ints (i : Int) : ∀ ns : List Int, inV (.int i) (ns.map V.int) = ns.contains i
  | [] => rfl
  | n :: ns => by
    have ih := inV_ints i ns
    unfold inV at ih ⊢
    rw [List.map_cons, List.any_cons, ih, List.contains_cons]
    show ((n == i) || _) = _
    rw [show (n == i) = (i == n) from by
      by_cases e : n = i
      · rw [e]
      · rw [beq_false_of_ne e, beq_false_of_ne (Ne.symm e)]]
theorem flat_ints (ns : List Int) : (ns.map V.int).all flatV = true := by
  rw [List.all_eq_true]
  intro x hx
  obtain ⟨n, _, rfl⟩ := List.mem_map.mp hx
  rfl
theorem opg_in {K : PySem.W.Frag} (neg : Bool) : OpG K (rIn K neg) (gIn neg) := fun F H x y d e z eF rx ry hz Q k => by
  unfold gIn at hz
  split at hz
  case h_2 => cases hz
  rename_i i ns en
  have ez := Option.some.inj hz
  subst ez
  cases rx
  obtain ⟨ds, e1, e2⟩ := Option.bind_eq_some_iff.mp en
  obtain ⟨a, xs, rfl, hs, ra⟩ := seqD_sq eF ry e1
  have := intsD_eq e2
  subst this
  have := ra.ints
  subst this
  refine ⟨a, _, rfl, hs, rfl, flat_ints ns, ?_⟩
  rw [inV_ints]
  exact k F H _ (Grow.refl eF) (.bl _)
/-! ### subscripts -/
def gIx : D → D → Option D := fun d e => match seqD d, e with
  | some ds, .int i => atI ds i
  | _, _ => none
theorem opg_ix {K : PySem.W.Frag} : OpG K (rIx K) gIx := fun F H x y d e z eF rx ry hz Q k => by
  unfold gIx at hz
  split at hz
  case h_2 => cases hz
  rename_i ds i e1
  obtain ⟨a, xs, rfl, hs, ra⟩ := seqD_sq eF rx e1
  cases ry
  obtain ⟨v, h1, h2⟩ := atI_rp ra hz
  rcases hs with hs | hs
  · exact .inl ⟨a, xs, i, v, rfl, rfl, hs, h1, k F H v (Grow.refl eF) h2⟩
  · exact .inr (.inl ⟨a, xs, i, v, rfl, rfl, hs, h1, k F H v (Grow.refl eF) h2⟩)
/-- slices -/
def cutD (xs : List D) (lo hi : Option Int) : List D := (xs.drop (HT.sIx xs.length 0 lo)).take (HT.sIx xs.length xs.length hi - HT.sIx xs.length 0 lo)
def gSl : D → Option Int → Option Int → Option D
  | .tup xs, lo, hi => some (.tup (cutD xs lo hi))
  | .lst xs, lo, hi => some (.lst (cutD xs lo hi))
  | .frl xs, lo, hi => some (.lst (cutD xs lo hi))
  | _, _, _ => none
abbrev FO := List Sl → Option (Option Int × List Sl)
def ONone : FO := fun ρ => some (none, ρ)
def OSome (f : FE) : FO := fun ρ => bnd (f ρ) fun d ρ1 => match d with
  | .int i => some (some i, ρ1)
  | _ => none
def GoodO (K : PySem.W.Frag) (t : TO) (f : FO) : Prop := ∀ (pa : Nat → Addr) (w : Wd) (σ : L2.St) (o : Option Int) (ρ' : List Sl), Rel K pa w σ → f w.ρ = some (o, ρ') →
  ∀ Q : Option Int → Hp → Prop, (∀ (w' : Wd), Rel K pa w' σ → w'.ρ = ρ' → Step w w' → Q o w'.H) → t σ w.H Q
structure GO (X : Cx) (e : Option Expr) (f : FO) : Prop where
  ok : ∃ t, PO X e t ∧ GoodO X.K t f
theorem go_none : GO X none ONone := ⟨_, po_none, fun pa w σ o ρ' R h Q q => by
  obtain ⟨q1, q2⟩ := Prod.mk.inj (Option.some.inj h)
  subst q1
  exact q w R q2 (Step.refl w)⟩
theorem go_some {e : Expr} {f : FE} (h : GE X e f) : GO X (some e) (OSome f) := by
  obtain ⟨te, a, b⟩ := h
  refine ⟨_, po_some a, fun pa w σ o ρ' R h Q q => ?_⟩
  obtain ⟨d, ρ1, e1, h2⟩ := bnd_eq h
  split at h2
  case h_2 => cases h2
  obtain ⟨q1, q2⟩ := Prod.mk.inj (Option.some.inj h2)
  subst q1
  subst q2
  refine b pa w σ _ _ R e1 _ fun w1 v R1 p1 s1 r1 => ?_
  cases r1
  exact ⟨_, rfl, q w1 R1 p1 s1⟩
def FSl (f : FE) (lo hi : FO) : FE := fun ρ => bnd (f ρ) fun d ρ1 => bnd (lo ρ1) fun l ρ2 => bnd (hi ρ2) fun u ρ3 => lft (gSl d l u) ρ3
theorem cutD_rp {K : PySem.W.Frag} {F : Hp} {xs : List V} {ds : List D} (r : RpA K F xs ds) (lo hi : Option Int) : RpA K F (cutV xs lo hi) (cutD ds lo hi) := by
  unfold cutV cutD
  rw [r.length]
  exact (r.drop _).take _
theorem cutD_whole {ds : List D} {lo hi : Option Int} (h1 : HT.sIx ds.length 0 lo = 0) (h2 : HT.sIx ds.length ds.length hi = ds.length) : cutD ds lo hi = ds := by
  unfold cutD
  rw [h1, h2, List.drop_zero, Nat.sub_zero, List.take_length]
theorem ge_slice {e : Expr} {lo hi : Option Expr} {f : FE} {fl fh : FO} {p2 pos : Pos} (he : GE X e f) (hl : GO X lo fl) (hh : GO X hi fh) : GE X (.Subscript e (.Slice lo hi none p2) pos) (FSl f fl fh) := by
  obtain ⟨te, a1, a2⟩ := he
  obtain ⟨tl, b1, b2⟩ := hl
  obtain ⟨th, c1, c2⟩ := hh
  refine ⟨_, pe_slice (sl_tupA.or sl_list) a1 b1 c1, fun pa w σ d ρ' R h Q q => ?_⟩
  obtain ⟨x, ρ1, e1, h2⟩ := bnd_eq h
  obtain ⟨l, ρ2, e2, h3⟩ := bnd_eq h2
  obtain ⟨u, ρ3, e3, h4⟩ := bnd_eq h3
  obtain ⟨z, e4, h5⟩ := lft_eq h4
  obtain ⟨q1, q2⟩ := Prod.mk.inj h5
  subst q1
  subst q2
  refine a2 pa w σ x ρ1 R e1 _ fun w1 v R1 p1 s1 r1 => ?_
  subst p1
  refine b2 pa w1 σ l ρ2 R1 e2 _ fun w2 R2 p2 s2 => ?_
  subst p2
  refine c2 pa w2 σ u ρ' R2 e3 _ fun w3 R3 p3 s3 => ?_
  have r3 := (r1.mono s2.ex).mono s3.ex
  have st : Step w w3 := (s1.trans s2).trans s3
  unfold gSl at e4
  split at e4
  · have ez := Option.some.inj e4
    subst ez
    cases r3 with
    | @tup a xs _ hs ra =>
      refine .inl ⟨a, xs, rfl, R3.ex.t hs, fun hw => ?_, fun _ p hp => ?_⟩
      · rw [ra.length] at hw
        rw [cutD_whole hw.1 hw.2] at q
        exact q w3 _ R3 p3 st (.tup hs ra)
      · obtain ⟨R4, s4⟩ := R3.grow (Grow.new (o := .tup (cutV xs l u)) R3.ex hp)
        exact q _ _ R4 p3 (st.trans s4) (.tup (.inl (.inl upd_same)) ((cutD_rp ra l u).mono s4.ex))
  · have ez := Option.some.inj e4
    subst ez
    cases r3 with
    | @lst a xs _ hs ra =>
      refine .inr ⟨a, xs, rfl, .inl (.inl (R3.ex _ _ hs)), fun p hp => ?_⟩
      obtain ⟨R4, s4⟩ := R3.grow (Grow.new (o := .lst (cutV xs l u)) R3.ex hp)
      exact q _ _ R4 p3 (st.trans s4) (.lst upd_same ((cutD_rp ra l u).mono s4.ex))
  · have ez := Option.some.inj e4
    subst ez
    cases r3 with
    | @frl a xs _ hs ra =>
      refine .inr ⟨a, xs, rfl, R3.ex.l hs, fun p hp => ?_⟩
      obtain ⟨R4, s4⟩ := R3.grow (Grow.new (o := .lst (cutV xs l u)) R3.ex hp)
      exact q _ _ R4 p3 (st.trans s4) (.lst upd_same ((cutD_rp ra l u).mono s4.ex))
  · cases e4
end
end Dn
end
section
set_option maxHeartbeats 4000000
namespace Dn
open PySem PySem.Spec PyProof.Rows L2
section
variable {X : Cx} {K : PySem.W.Frag}
/-! ### built-ins by data -/
def gLen : List D → Option D
  | [d] => (seqD d).map fun ds => .int ds.length
  | _ => none
def rLenG (K : PySem.W.Frag) : List V → Hp → VK → Prop := fun xs H Q => ∃ p ys, xs = [.ref p] ∧ (SqL K H p ys ∨ SqT K H p ys) ∧ Q (.int ys.length) H
theorem cg_len : CallG K (rLenG K) gLen := fun F H xs ds z eF r hz Q k => by
  unfold gLen at hz
  split at hz
  case h_2 => cases hz
  obtain ⟨es, e1, e2⟩ := Option.map_eq_some_iff.mp hz
  subst e2
  cases r with
  | cons r rr =>
    cases rr
    obtain ⟨a, ys, rfl, hs, ra⟩ := seqD_sq eF r e1
    refine ⟨a, ys, rfl, hs, ?_⟩
    rw [ra.length]
    exact k F H _ (Grow.refl eF) (.int _)
theorem cr_len : CallR X (.builtin "len") (rLenG X.K) := call_len_seq
def gInt : List D → Option D
  | [.int i] => some (.int i)
  | [.bl b] => some (.int (if b then 1 else 0))
  | _ => none
def rIntG : List V → Hp → VK → Prop := fun xs H Q => (∃ i, xs = [.int i] ∧ Q (.int i) H) ∨ ∃ k, xs = [.bl k] ∧ Q (.int (if k then 1 else 0)) H
theorem cr_int : CallR X (.type "int") rIntG := call_int1
theorem cg_int : CallG K rIntG gInt := fun F H xs ds z eF r hz Q k => by
  unfold gInt at hz
  split at hz
  · have e := Option.some.inj hz
    subst e
    cases r with
    | cons r rr =>
      cases rr
      cases r
      exact .inl ⟨_, rfl, k F H _ (Grow.refl eF) (.int _)⟩
  · have e := Option.some.inj hz
    subst e
    cases r with
    | cons r rr =>
      cases rr
      cases r
      exact .inr ⟨_, rfl, k F H _ (Grow.refl eF) (.int _)⟩
  · cases hz
def gAbs : List D → Option D
  | [.int i] => some (.int (if i < 0 then -i else i))
  | _ => none
def rAbsG : List V → Hp → VK → Prop := fun xs H Q => ∃ i, xs = [.int i] ∧ Q (.int (if i < 0 then -i else i)) H
theorem cr_abs : CallR X (.builtin "abs") rAbsG := call_abs
theorem cg_abs : CallG K rAbsG gAbs := fun F H xs ds z eF r hz Q k => by
  unfold gAbs at hz
  split at hz
  case h_2 => cases hz
  have e := Option.some.inj hz
  subst e
  cases r with
  | cons r rr =>
    cases rr
    cases r
    exact ⟨_, rfl, k F H _ (Grow.refl eF) (.int _)⟩
def gMax : List D → Option D
  | [.int i, .int j] => some (.int (if j > i then j else i))
  | _ => none
def gMin : List D → Option D
  | [.int i, .int j] => some (.int (if j < i then j else i))
  | _ => none
def rMaxG : List V → Hp → VK → Prop := fun xs H Q => ∃ i j, xs = [.int i, .int j] ∧ Q (.int (if j > i then j else i)) H
def rMinG : List V → Hp → VK → Prop := fun xs H Q => ∃ i j, xs = [.int i, .int j] ∧ Q (.int (if j < i then j else i)) H
theorem cr_max2 (hc : X.calm = true) : CallR X (.builtin "max") rMaxG := call_max2 hc
theorem cr_min2 (hc : X.calm = true) : CallR X (.builtin "min") rMinG := call_min2 hc
theorem cg_max : CallG K rMaxG gMax := fun F H xs ds z eF r hz Q k => by
  unfold gMax at hz
  split at hz
  case h_2 => cases hz
  have e := Option.some.inj hz
  subst e
  cases r with
  | cons r rr =>
    cases rr with
    | cons r' rr =>
      cases rr
      cases r
      cases r'
      exact ⟨_, _, rfl, k F H _ (Grow.refl eF) (.int _)⟩
theorem cg_min : CallG K rMinG gMin := fun F H xs ds z eF r hz Q k => by
  unfold gMin at hz
  split at hz
  case h_2 => cases hz
  have e := Option.some.inj hz
  subst e
  cases r with
  | cons r rr =>
    cases rr with
    | cons r' rr =>
      cases rr
      cases r
      cases r'
      exact ⟨_, _, rfl, k F H _ (Grow.refl eF) (.int _)⟩
/-- sum of a list of ints -/
def lstD : D → Option (List D)
  | .lst xs => some xs
  | .frl xs => some xs
  | _ => none
theorem lstD_sq {F H : Hp} {v : V} {d : D} {ds : List D} (eF : Ex F H) (r : Rp K F v d) (h : lstD d = some ds) : ∃ a xs, v = .ref a ∧ SqL K H a xs ∧ RpA K F xs ds := by
  cases r with
  | lst s r =>
    cases h
    exact ⟨_, _, rfl, .inl (.inl (eF _ _ s)), r⟩
  | frl s r =>
    cases h
    exact ⟨_, _, rfl, eF.l s, r⟩
  | _ => cases h
def gSum : List D → Option D
  | [d] => ((lstD d).bind intsD).map fun ns => .int ns.sum
  | _ => none
theorem cg_sum : CallG K (rSum K) gSum := fun F H xs ds z eF r hz Q k => by
  unfold gSum at hz
  split at hz
  case h_2 => cases hz
  obtain ⟨ns, e1, e2⟩ := Option.map_eq_some_iff.mp hz
  subst e2
  obtain ⟨es, e3, e4⟩ := Option.bind_eq_some_iff.mp e1
  cases r with
  | cons r rr =>
    cases rr
    obtain ⟨a, ys, rfl, hs, ra⟩ := lstD_sq eF r e3
    have := intsD_eq e4
    subst this
    have := ra.ints
    subst this
    exact ⟨a, ns, rfl, hs, k F H _ (Grow.refl eF) (.int _)⟩
def boolsD : List D → Option (List Bool)
  | [] => some []
  | .bl i :: r => (boolsD r).map fun l => i :: l
  | _ => none
theorem boolsD_eq : ∀ {ds : List D} {ns : List Bool}, boolsD ds = some ns → ds = ns.map D.bl
  | [], _, h => by
    unfold boolsD at h
    cases h
    rfl
  | .bl i :: r, ns, h => by
    unfold boolsD at h
    obtain ⟨l, hl, rfl⟩ := Option.map_eq_some_iff.mp h
    rw [boolsD_eq hl]
    rfl
  | .non :: _, _, h => by cases h
  | .int _ :: _, _, h => by cases h
  | .str _ :: _, _, h => by cases h
  | .lst _ :: _, _, h => by cases h
  | .tup _ :: _, _, h => by cases h
  | .frl _ :: _, _, h => by cases h
  | .ty _ :: _, _, h => by cases h
theorem boolsD_of : ∀ ns : List Bool, boolsD (ns.map D.bl) = some ns
  | [] => rfl
  | n :: ns => by
    show (boolsD (ns.map D.bl)).map _ = _
    rw [boolsD_of ns]
    rfl
def gAll : List D → Option D
  | [d] => ((lstD d).bind boolsD).map fun bs => .bl (bs.all id)
  | _ => none
theorem cg_all : CallG K (rAll K) gAll := fun F H xs ds z eF r hz Q k => by
  unfold gAll at hz
  split at hz
  case h_2 => cases hz
  obtain ⟨ns, e1, e2⟩ := Option.map_eq_some_iff.mp hz
  subst e2
  obtain ⟨es, e3, e4⟩ := Option.bind_eq_some_iff.mp e1
  cases r with
  | cons r rr =>
    cases rr
    obtain ⟨a, ys, rfl, hs, ra⟩ := lstD_sq eF r e3
    have := boolsD_eq e4
    subst this
    have := ra.bools
    subst this
    exact ⟨a, ns, rfl, hs, k F H _ (Grow.refl eF) (.bl _)⟩
/-- tuple(..), list(..) -/
def gTuple : List D → Option D
  | [.tup xs] => some (.tup xs)
  | [.lst xs] => some (.tup xs)
  | [.frl xs] => some (.tup xs)
  | _ => none
def rTupleG (K : PySem.W.Frag) : List V → Hp → VK → Prop := fun xs H Q => ∃ p ys, xs = [.ref p] ∧ ((SqL K H p ys ∧ ∀ l, H l = none → Q (.ref l) (upd H l (.tup ys))) ∨ (SqT K H p ys ∧ Q (.ref p) H))
theorem cr_tuple : CallR X (.type "tuple") (rTupleG X.K) := call_tuple_of
theorem cg_tuple : CallG K (rTupleG K) gTuple := fun F H xs ds z eF r hz Q k => by
  unfold gTuple at hz
  split at hz
  · have e := Option.some.inj hz
    subst e
    cases r with
    | cons r rr =>
      cases rr
      cases r with
      | tup hs ra => exact ⟨_, _, rfl, .inr ⟨eF.t hs, k F H _ (Grow.refl eF) (.tup hs ra)⟩⟩
  · have e := Option.some.inj hz
    subst e
    cases r with
    | cons r rr =>
      cases rr
      cases r with
      | @lst a ys _ hs ra =>
        refine ⟨a, ys, rfl, .inl ⟨.inl (.inl (eF _ _ hs)), fun p hp => ?_⟩⟩
        have g := Grow.new (o := .tup ys) eF hp
        exact k _ _ _ g (.tup (.inl (.inl upd_same)) (ra.mono g.e1))
  · have e := Option.some.inj hz
    subst e
    cases r with
    | cons r rr =>
      cases rr
      cases r with
      | @frl a ys _ hs ra =>
        refine ⟨a, ys, rfl, .inl ⟨eF.l hs, fun p hp => ?_⟩⟩
        have g := Grow.new (o := .tup ys) eF hp
        exact k _ _ _ g (.tup (.inl (.inl upd_same)) (ra.mono g.e1))
  · cases hz
/-- isinstance(x, T), T a built-in class -/
def tyD : D → Option String
  | .non => some "NoneType"
  | .bl _ => some "bool"
  | .int _ => some "int"
  | .str _ => some "str"
  | .lst _ => some "list"
  | .tup _ => some "tuple"
  | .frl _ => some "list"
  | .ty _ => none
theorem tyD_ok {F H : Hp} {v : V} {d : D} {n : String} (eF : Ex F H) (r : Rp K F v d) (h : tyD d = some n) : TyX K H v (.type n) := by
  cases r with
  | non => cases h; exact .base .non
  | bl b => cases h; exact .base (.bl b)
  | int i => cases h; exact .base (.int i)
  | str x => cases h; exact .base (.str x)
  | lst s _ => cases h; exact .base (.lst (eF _ _ s))
  | tup s _ =>
    cases h
    rcases s with (s | ⟨o, s⟩) | ⟨o, its, m, s, c, _⟩
    · exact .base (.tup (eF _ _ s))
    · exact .fTuple (eF _ _ s)
    · exact .kTuple s c
  | frl s _ =>
    cases h
    rcases s with (s | ⟨o, s⟩) | ⟨o, its, m, s, c, _⟩
    · exact .base (.lst (eF _ _ s))
    · exact .base (.frz (eF _ _ s))
    · exact .kList s c
  | ty n => cases h
/-- the built-in kinds that are asked about here -/
def isiT (n T : String) : Option Bool := match T with
  | "int" => some (n == "int" || n == "bool")
  | "bool" => some (n == "bool")
  | "tuple" => some (n == "tuple")
  | "list" => some (n == "list")
  | "str" => some (n == "str")
  | _ => none
theorem isiT_ok {d : D} {n T : String} {b : Bool} (h : tyD d = some n) (hb : isiT n T = some b) : kitB n T = some b := by
  have hn : n = "NoneType" ∨ n = "bool" ∨ n = "int" ∨ n = "str" ∨ n = "list" ∨ n = "tuple" := by
    cases d <;> first | (cases h; done) | skip
    all_goals (cases h; simp)
  unfold isiT at hb
  split at hb
  · rcases hn with rfl | rfl | rfl | rfl | rfl | rfl <;> cases hb <;> decide +kernel
  · rcases hn with rfl | rfl | rfl | rfl | rfl | rfl <;> cases hb <;> decide +kernel
  · rcases hn with rfl | rfl | rfl | rfl | rfl | rfl <;> cases hb <;> decide +kernel
  · rcases hn with rfl | rfl | rfl | rfl | rfl | rfl <;> cases hb <;> decide +kernel
  · rcases hn with rfl | rfl | rfl | rfl | rfl | rfl <;> cases hb <;> decide +kernel
  · cases hb
def gIsi : List D → Option D
  | [d, .ty T] => (tyD d).bind fun n => (isiT n T).map .bl
  | _ => none
theorem cg_isi : CallG K (rIsi K) gIsi := fun F H xs ds z eF r hz Q k => by
  unfold gIsi at hz
  split at hz
  case h_2 => cases hz
  obtain ⟨n, e1, e2⟩ := Option.bind_eq_some_iff.mp hz
  obtain ⟨b, e3, e4⟩ := Option.map_eq_some_iff.mp e2
  subst e4
  cases r with
  | cons r rr =>
    cases rr with
    | cons r' rr =>
      cases rr
      cases r'
      exact ⟨_, _, _, _, b, rfl, .ty _, tyD_ok eF r e1, kit_ty (isiT_ok e1 e3), k F H _ (Grow.refl eF) (.bl _)⟩
/-- a built-in class as a value -/
theorem ge_ty {x : Str} {T : String} {pos : Pos} (hm : X.mg x = none) (hg : Gl X x := by rfl) (hv : bootBuiltins x = some (.type T) := by decide +kernel) (hn : x ≠ "__name__" := by decide) (hd : (x == ("__debug__" : Str)) = false := by decide) : GE X (.Name x pos) (FC (.ty T)) :=
  ⟨_, pe_bltn hg hm hv (show RelV (.ty T) (.type T) from rfl) hn hd, good_c fun _ => .ty T⟩
/-- list(range(..)) as a list of one's own -/
def LRg1 (f : FE) : FL := fun ρ => bnd (f ρ) fun d ρ1 => match d with
  | .int n => if 0 ≤ n ∧ n ≤ 16777216 then some (rngD 0 n.toNat, ρ1) else none
  | _ => none
theorem rgV_rp {F : Hp} (a b : Int) : RpA K F (rgV a b) (rngD a (b - a).toNat) := by
  have h : ∀ l : List Nat, RpA K F (l.map fun i => V.int (a + (i : Nat))) (l.map fun i => D.int (a + (i : Nat))) := fun l => by
    induction l with
    | nil => exact .nil
    | cons x l ih => exact .cons (.int _) ih
  exact h _
theorem gl_listRg1 {e : Expr} {f : FE} {p p2 pos pos2 : Pos} (h : GE X e f) (hm : X.mg "list" = none) (hm2 : X.mg "range" = none) (hc : X.calm = true := by rfl) (hg : Gl X "list" := by rfl) (hg2 : Gl X "range" := by rfl)
    (na : starEach [Expr.Call (.Name "range" p2) [e] [] pos2] X.env = (false, eval (Expr.Call (.Name "range" p2) [e] [] pos2) X.env) :: starEach [] X.env := by rfl) (na2 : starEach [e] X.env = (false, eval e X.env) :: starEach [] X.env := by rfl) : GL X (.Call (.Name "list" p) [.Call (.Name "range" p2) [e] [] pos2] [] pos) (LRg1 f) := by
  obtain ⟨te, a, b⟩ := h
  refine ⟨_, pe_listRg hc hg hm (prg_1 hg2 hm2 a na2) na, fun pa w σ ds ρ' R h Q q => ?_⟩
  obtain ⟨d, ρ1, e1, h2⟩ := bnd_eq h
  split at h2
  case h_2 => cases h2
  rename_i n
  split at h2
  case isFalse => cases h2
  rename_i hz
  obtain ⟨q1, q2⟩ := Prod.mk.inj (Option.some.inj h2)
  subst q1
  subst q2
  refine b pa w σ _ ρ1 R e1 _ fun w1 v R1 p1 s1 r1 => ?_
  cases r1
  refine ⟨n, rfl, RgOk.of_le (Int.le_refl 0) hz.2 (by decide) hz.1, fun p hp => ?_⟩
  obtain ⟨R2, s2⟩ := R1.grow (Grow.quiet (o := .lst (rgV 0 n)) R1.ex hp)
  refine q ⟨w1.F, upd w1.H p (.lst (rgV 0 n)), w1.al, w1.ρ⟩ p (rgV 0 n) R2 p1 (s1.trans s2) (s1.st p hp) upd_same (R1.ex.free hp) (fun z => ?_) (by
    have z := rgV_rp (K := X.K) (F := w1.F) 0 n
    rw [Int.sub_zero] at z
    exact z)
  obtain ⟨⟨us, hu⟩, _⟩ := R1.own_at z
  rw [hp] at hu
  cases hu
/-- isqrt, bound by an import -/
def gSqrt : List D → Option D
  | [.int n] => if 0 ≤ n ∧ n < 2 ^ 64 then some (.int ((Float64.isqrt n.toNat : Nat) : Int)) else none
  | _ => none
def rSqrt : List V → Hp → VK → Prop := fun xs H Q => ∃ n : Int, xs = [.int n] ∧ 0 ≤ n ∧ n < 2 ^ 64 ∧ Q (.int ((Float64.isqrt n.toNat : Nat) : Int)) H
theorem cr_sqrt : CallR X (.builtin "math.isqrt") rSqrt := by
  intro pins s σ H xs us Q I r h
  obtain ⟨n, rfl, h0, h1, q⟩ := h
  obtain ⟨u, rfl, t, rfl⟩ := vals1 r
  exact PySem.W.mg_isqrt h0 h1 ⟨.int _, H, I.tok _, ⟨_, rfl⟩, q⟩
theorem cg_sqrt : CallG K rSqrt gSqrt := fun F H xs ds z eF r hz Q k => by
  unfold gSqrt at hz
  split at hz
  case h_2 => cases hz
  split at hz
  case isFalse => cases hz
  rename_i hc
  have e := Option.some.inj hz
  subst e
  cases r with
  | cons r rr =>
    cases rr
    cases r
    exact ⟨_, rfl, hc.1, hc.2, k F H _ (Grow.refl eF) (.int _)⟩
/-- a built-in that a global name holds -/
theorem ge_callGB {x : Str} {p pos : Pos} {e : Expr} {es : List Expr} {fa : FA} {id : String} {r : List V → Hp → VK → Prop} {g : List D → Option D} (hc : CallR X (.builtin id) r) (hg : CallG X.K r g) (ha : GA X (e :: es) fa) (hm : X.mg x = some (.builtin id)) (hgl : Gl X x := by rfl) (hdb : (x == ("__debug__" : Str)) = false := by decide)
    (he : starEach (e :: es) X.env = (false, eval e X.env) :: starEach es X.env := by rfl) (hpl : (backTo pos (starEach es X.env)).any (·.1) = false := by rfl) : GE X (.Call (.Name x p) (e :: es) [] pos) (FCall g fa) := by
  obtain ⟨ta, h1, h2⟩ := ha
  refine ⟨_, ⟨fun pins s σ H Q I h => ?_⟩, good_cb hg h2⟩
  refine wpAny_Call_Name_kw (ld_glob I hgl hm ?_ hdb)
  exact PyProof.Rows.callWith_builtin1 (thn (h1.run pos pins s σ H _ I h) fun us s1 ⟨vs, H1, I1, r1, q1⟩ => hc pins s1 σ H1 vs us Q I1 r1 q1) he hpl
/-- repr of data -/
def showOk (d : D) : Bool := pdOk d && (toPD d).showable && decide ((toPD d).depth ≤ 64) && decide ((toPD d).shown.length ≤ 16777216)
def gRepr : List D → Option D
  | [d] => if showOk d = true then some (.str (toPD d).shown) else none
  | _ => none
mutual
theorem toPD_noDict : ∀ d : D, (toPD d).hasDict = false
  | .non | .bl _ | .int _ | .str _ | .ty _ => rfl
  | .lst xs | .tup xs | .frl xs => toPDs_noDict xs
theorem toPDs_noDict : ∀ ds : List D, PyData.hasDictAll (toPDs ds) = false
  | [] => rfl
  | d :: ds => by
    show ((toPD d).hasDict || PyData.hasDictAll (toPDs ds)) = false
    rw [toPD_noDict d, toPDs_noDict ds]
    rfl
end
def rRepr (K : PySem.W.Frag) : List V → Hp → VK → Prop := fun xs H Q => ∃ v d, xs = [v] ∧ Dp K H v d ∧ d.showable = true ∧ d.hasDict = false ∧ d.depth ≤ 64 ∧ d.shown.length ≤ sizeLine ∧ Q (.str d.shown) H
theorem cr_repr {k : Nat} (rm : Rm X.A k) : CallR X (.builtin "repr") (rRepr X.K) := by
  intro pins s σ H xs us Q I r h
  obtain ⟨v, d, rfl, dp, sh, nd, hd, hz, q⟩ := h
  obtain ⟨u, rfl, r1⟩ := vals1 r
  obtain ⟨as, rd⟩ := Dp.reads I d v u dp r1
  have fin : ∀ (h' : Heap) (tu : Tok) (tk : Nat), (∀ b o, s.heap.get? b = some o → h'.get? b = some o) → EP X pins σ Q (.str d.shown tu) { s with heap := h', toks := tk } := fun h' tu tk hk => ⟨.str d.shown, H, I.kept hk, ⟨_, rfl⟩, q⟩
  cases dp with
  | non =>
    cases r1
    exact PySem.P.repr_of_none (fin s.heap _ _ fun _ _ e => e)
  | bl b =>
    cases r1
    exact PySem.P.repr_of_bool (fin s.heap _ _ fun _ _ e => e)
  | int i =>
    obtain ⟨t, rfl⟩ := r1
    exact PySem.P.repr_of_int (of_decide_eq_true sh) (fin s.heap _ _ fun _ _ e => e)
  | str x =>
    obtain ⟨t, rfl⟩ := r1
    exact PySem.P.repr_of_str (fin s.heap _ _ fun _ _ e => e) hz
  | lst hs ha =>
    cases r1
    have hu := rm.room.un
    exact repr_of_reads' rd sh (fun z => by rw [nd] at z; cases z) rm.gd (by omega) (fun _ _ e => e) fin hz
  | tup hs ha =>
    cases r1
    have hu := rm.room.un
    exact repr_of_reads' rd sh (fun z => by rw [nd] at z; cases z) rm.gd (by omega) (fun _ _ e => e) fin hz
theorem cg_repr : CallG K (rRepr K) gRepr := fun F H xs ds z eF r hz Q k => by
  unfold gRepr at hz
  split at hz
  case h_2 => cases hz
  rename_i d
  split at hz
  case isFalse => cases hz
  rename_i hc
  have e := Option.some.inj hz
  subst e
  unfold showOk at hc
  simp only [Bool.and_eq_true, decide_eq_true_eq] at hc
  cases r with
  | cons r rr =>
    cases rr
    exact ⟨_, _, rfl, r.dp eF d _ hc.1.1.1, hc.1.1.2, toPD_noDict d, hc.1.2, line_le hc.2, k F H _ (Grow.refl eF) (.str _)⟩
end
end Dn
end
section
set_option maxHeartbeats 4000000
namespace Dn
open PySem PySem.Spec PyProof.Rows L2
section
variable {X : Cx} {K : PySem.W.Frag}
/-! ### constants of the module -/
theorem ge_gint {x : Str} {n : Int} {pos : Pos} (h : ∃ t, X.mg x = some (.int n t)) (hg : Gl X x := by rfl) (hd : (x == ("__debug__" : Str)) = false := by decide) : GE X (.Name x pos) (FC (.int n)) := by
  obtain ⟨t, h⟩ := h
  exact ge_glob (v := .int n) h ⟨t, rfl⟩ (fun _ => .int n) hg hd
def GTup (K : PySem.W.Frag) (mg : Str → Option Value) (x : Str) (ns : List Int) : Prop := ∃ a o its n, mg x = some (.ref a) ∧ K.lookup a = some o ∧ o.cls = .type "tuple" ∧ o.dict = none ∧ o.data = .seq its n ∧ its.size ≤ sizeLine ∧ Vals (ns.map V.int) its.toList
theorem ge_gtup {x : Str} {ns : List Int} {pos : Pos} (h : GTup X.K X.mg x ns) (hg : Gl X x := by rfl) (hd : (x == ("__debug__" : Str)) = false := by decide) : GE X (.Name x pos) (FC (.tup (ns.map .int))) := by
  obtain ⟨a, o, its, n, hm, hk, hc, _, hs, hz, hv⟩ := h
  exact ge_glob (v := .ref a) hm rfl (fun F => .tup (.inr ⟨o, its, n, hk, hc, hs, hz, hv⟩) RpA.ofInts) hg hd
/-- t.index(n) -/
def rTIx (K : PySem.W.Frag) : V → List V → Hp → VK → Prop := fun x xs H Q => ∃ (p : Addr) (ns : List Int) (z : Int) (j : Nat), x = .ref p ∧ xs = [.int z] ∧ SqT K H p (ns.map V.int) ∧ ns[j]? = some z ∧ (∀ m, m < j → ns[m]? ≠ some z) ∧ Q (.int (j : Nat)) H
theorem mt_tix : MtR X "tuple.index" (rTIx X.K) := by
  intro pins s σ H x xs v us Q I rx rs h
  obtain ⟨p, ns, z, j, rfl, rfl, hq, hy, hno, q⟩ := h
  have ev : v = Value.ref p := rx
  subst ev
  obtain ⟨u, rfl, t, rfl⟩ := vals1 rs
  obtain ⟨its, r, ⟨⟨cls, dd, dt, sl⟩, ho, hc, n, hd⟩, _⟩ := I.tuple hq
  cases hc
  cases hd
  have hl : its.toArray.size = ns.length := by rw [List.size_toArray, ← r.length, List.length_map]
  have hj : j < its.toArray.size := by rw [hl]; exact (List.getElem?_eq_some_iff.mp hy).1
  have look : ∀ (m : Nat) (hm : m < its.toArray.size), ∃ y t', ns[m]? = some y ∧ its.toArray[m] = Value.int y t' := fun m hm => by
    have hm' : m < ns.length := by rw [← hl]; exact hm
    obtain ⟨w, hw, t', rfl⟩ := r.get (i := m) (x := .int ns[m]) (by rw [List.getElem?_map, List.getElem?_eq_getElem hm']; rfl)
    exact ⟨ns[m], t', List.getElem?_eq_getElem hm', by simpa using (List.getElem?_eq_some_iff.mp hw).2⟩
  refine call_meets PySem.F.slot_tuple_index ⟨_, ho, rfl⟩ PySem.F.entry_tuple_index (PySem.F.args_tuple_index_2 _ _) (TI.tuple_indexAt p its.toArray n dd sl (.int z t) (eqU (.int z)) j hj ?_ fun m hm hmj => ?_)
    ⟨ho, fun w hw => mem_eqAt (x := .int z) ⟨t, rfl⟩ rfl r (flat_ints ns) w (by simpa using hw), ⟨.int (j : Nat), H, I.tok _, ⟨_, rfl⟩, q⟩⟩
  · obtain ⟨y, t', h1, h2⟩ := look j hj
    rw [hy] at h1
    cases h1
    rw [h2]
    exact beq_self_eq_true z
  · obtain ⟨y, t', h1, h2⟩ := look m hm
    rw [h2]
    refine beq_false_of_ne fun e => hno m hmj ?_
    rw [h1, e]
def idxI (z : Int) : List Int → Option Nat
  | [] => none
  | n :: ns => if n = z then some 0 else (idxI z ns).map (· + 1)
theorem idxI_at {z : Int} : ∀ {ns : List Int} {j : Nat}, idxI z ns = some j → ns[j]? = some z ∧ ∀ m, m < j → ns[m]? ≠ some z
  | [], _, h => by cases h
  | n :: ns, j, h => by
    unfold idxI at h
    split at h
    · rename_i e
      cases h
      subst e
      exact ⟨rfl, fun m hm => absurd hm (Nat.not_lt_zero m)⟩
    · rename_i e
      obtain ⟨i, hi, rfl⟩ := Option.map_eq_some_iff.mp h
      obtain ⟨h1, h2⟩ := idxI_at hi
      refine ⟨by simpa using h1, fun m hm => ?_⟩
      cases m with
      | zero => exact fun z => e (Option.some.inj z)
      | succ m =>
        rw [List.getElem?_cons_succ]
        exact h2 m (by omega)
def FIndex (ns : List Int) (f : FE) : FE := fun ρ => bnd (f ρ) fun d ρ1 => match d with
  | .int z => match idxI z ns with
    | some j => some (.int (j : Nat), ρ1)
    | none => none
  | _ => none
theorem ge_gindex {x : Str} {ns : List Int} {e : Expr} {f : FE} {px apos cpos : Pos} (h : GTup X.K X.mg x ns) (he : GE X e f) (hg : Gl X x := by rfl) (hd : (x == ("__debug__" : Str)) = false := by decide)
    (hbase : attributeBase (.Name x px) "index" X.env (eval (.Name x px) X.env) = eval (.Name x px) X.env := by rfl)
    (hfew : ((backTo cpos (starEach [e] X.env)).all (fun x => !x.1) && (backToKw cpos (keywordEach [] X.env)).all (fun x => x.1.isSome) && decide ([e].length + ([] : List Keyword).length + (if ([] : List Keyword).isEmpty then 0 else 1) < 30)) = true := by rfl)
    (hline : (apos.endLine == cpos.line) = true := by rfl) (hs : starEach [e] X.env = (false, eval e X.env) :: starEach [] X.env := by rfl) (hplain : (backTo cpos (starEach [] X.env)).any (·.1) = false := by rfl) :
    GE X (.Call (.Attribute (.Name x px) "index" apos) [e] [] cpos) (FIndex ns f) := by
  obtain ⟨a, o, its, n, hm, hk, hc, hdn, hseq, hz, hv⟩ := h
  obtain ⟨te, c, d⟩ := he
  refine ⟨_, pe_bm PySem.F.plainAttrs_tuple PySem.F.slot_tuple_index PySem.F.type_tuple_index mt_tix (pe_glob (v := .ref a) hg hm rfl hd) (pa_cons c pa_nil hs) hbase hfew hline hs hplain, fun pa w σ x' ρ' R h Q q => ?_⟩
  obtain ⟨y, ρ1, e1, h2⟩ := bnd_eq h
  split at h2
  case h_2 => cases h2
  rename_i z
  split at h2
  case h_2 => cases h2
  rename_i j ej
  obtain ⟨q1, q2⟩ := Prod.mk.inj (Option.some.inj h2)
  subst q1
  subst q2
  refine ⟨.inr (.inl ⟨rfl, o, hk, hc, hdn⟩), d pa w σ _ ρ1 R e1 _ fun w1 v R1 p1 s1 r1 => ?_⟩
  cases r1
  obtain ⟨h3, h4⟩ := idxI_at ej
  exact ⟨a, ns, z, j, rfl, rfl, .inr ⟨o, its, n, hk, hc, hseq, hz, hv⟩, h3, h4, q w1 _ R1 p1 s1 (.int _)⟩
/-! ### is None -/
def rIsNG : R2 := fun x y H Q => y = .non ∧ Q (.bl (decide (x = .non))) H
def rNotNG : R2 := fun x y H Q => y = .non ∧ Q (.bl (!decide (x = .non))) H
def isN : D → Bool
  | .non => true
  | _ => false
theorem isN_ok {F : Hp} {v : V} {d : D} (r : Rp K F v d) : decide (v = .non) = isN d := by
  cases r <;> rfl
def gIsNon : D → D → Option D := fun d e => match e with
  | .non => some (.bl (isN d))
  | _ => none
def gNotNon : D → D → Option D := fun d e => match e with
  | .non => some (.bl (!isN d))
  | _ => none
theorem opg_isN : OpG K rIsNG gIsNon := fun F H x y d e z eF rx ry hz Q k => by
  unfold gIsNon at hz
  split at hz
  case h_2 => cases hz
  have ez := Option.some.inj hz
  subst ez
  cases ry
  exact ⟨rfl, by rw [isN_ok rx]; exact k F H _ (Grow.refl eF) (.bl _)⟩
theorem opg_notN : OpG K rNotNG gNotNon := fun F H x y d e z eF rx ry hz Q k => by
  unfold gNotNon at hz
  split at hz
  case h_2 => cases hz
  have ez := Option.some.inj hz
  subst ez
  cases ry
  exact ⟨rfl, by rw [isN_ok rx]; exact k F H _ (Grow.refl eF) (.bl _)⟩
/-! ### name = [..] where the name is no cell -/
section
variable {elt tg iter : Expr} {ifs : List Expr} {scope : Scope} {own : List (Str × Nat)} {it : FA} {gt : FT} {ts : List Nat} {c : FB} {fe : FE} {i : Nat} {y : Str} {py pos spos : Pos}
theorem setLc_core (own : List (Str × Nat)) (hN : X.N.Nodup) (hy : X.N[i]? = some y) (hyl : X.env.scope.names.lookup y = some .local) (hsw : swapsWith (.ListComp elt [⟨tg, iter, ifs, 0⟩] scope pos) (some (.Name y py)) spos.line X.env = pure true) (hi : GI X tg iter it) (ok : blkC X.N X.env.scope scope own = true)
    (hg : ∀ (s : Shared) (H : Hp) (C : Addr) (cl : List (Str × Addr)) (fp : List Addr), GT (X.blk s H scope (compEnvC scope cl C X.env) fp) tg gt ts) (ht : ∀ (s : Shared) (H : Hp) (C : Addr) (cl : List (Str × Addr)) (fp : List Addr), GPs (X.blk s H scope (compEnvC scope cl C X.env) fp) ifs c)
    (he : ∀ (s : Shared) (H : Hp) (C : Addr) (cl : List (Str × Addr)) (fp : List Addr), GE (X.blk s H scope (compEnvC scope cl C X.env) fp) elt fe) (hsub : ∀ i ∈ ts, i ∈ own.map (·.2)) (hc : X.calm = true) (hs : ∀ x, foldedSetIterable iter X.env x = pure x) :
    ∃ te, GoodL X.K te (LComp (own.map (·.2)) it gt c fe) ∧ PS X (.Assign [.Name y py] (.ListComp elt [⟨tg, iter, ifs, 0⟩] scope pos) spos) (tAsg te (gName i)) := by
  obtain ⟨wi, a, b⟩ := hi
  exact ⟨_, good_lcL b good_tOfT hsub good_tOfB good_tOfE, ps_setLc hc hN hy hyl hsw a (blkOk_by ok) (fun s H C cl fp => (hg s H C cl fp).pg) (fun s H C cl fp => (ht s H C cl fp).pts) (fun s H C cl fp => (he s H C cl fp).pe) hs⟩
theorem gs_setLc (i : Nat) (own : List (Str × Nat)) (hN : X.N.Nodup) (hi : GI X tg iter it) (ok : blkC X.N X.env.scope scope own = true) (hsw : swapsWith (.ListComp elt [⟨tg, iter, ifs, 0⟩] scope pos) (some (.Name y py)) spos.line X.env = pure true)
    (hg : ∀ (s : Shared) (H : Hp) (C : Addr) (cl : List (Str × Addr)) (fp : List Addr), GT (X.blk s H scope (compEnvC scope cl C X.env) fp) tg gt ts) (ht : ∀ (s : Shared) (H : Hp) (C : Addr) (cl : List (Str × Addr)) (fp : List Addr), GPs (X.blk s H scope (compEnvC scope cl C X.env) fp) ifs c)
    (he : ∀ (s : Shared) (H : Hp) (C : Addr) (cl : List (Str × Addr)) (fp : List Addr), GE (X.blk s H scope (compEnvC scope cl C X.env) fp) elt fe) (hy : X.N[i]? = some y := by rfl) (hyl : X.env.scope.names.lookup y = some .local := by rfl) (hsub : ∀ i ∈ ts, i ∈ own.map (·.2) := by decide) (hc : X.calm = true := by rfl) (hs : ∀ x, foldedSetIterable iter X.env x = pure x := by intro _; rfl) :
    GS X (.Assign [.Name y py] (.ListComp elt [⟨tg, iter, ifs, 0⟩] scope pos) spos) (SAsg (FOf (LComp (own.map (·.2)) it gt c fe)) (TName i)) := by
  obtain ⟨te, a, b⟩ := setLc_core own hN hy hyl hsw hi ok hg ht he hsub hc hs
  exact ⟨_, b, good_asg (good_ofL a) (good_name i)⟩
theorem gs_ownLc (i : Nat) (own : List (Str × Nat)) (hN : X.N.Nodup) (hi : GI X tg iter it) (ok : blkC X.N X.env.scope scope own = true) (hsw : swapsWith (.ListComp elt [⟨tg, iter, ifs, 0⟩] scope pos) (some (.Name y py)) spos.line X.env = pure true)
    (hg : ∀ (s : Shared) (H : Hp) (C : Addr) (cl : List (Str × Addr)) (fp : List Addr), GT (X.blk s H scope (compEnvC scope cl C X.env) fp) tg gt ts) (ht : ∀ (s : Shared) (H : Hp) (C : Addr) (cl : List (Str × Addr)) (fp : List Addr), GPs (X.blk s H scope (compEnvC scope cl C X.env) fp) ifs c)
    (he : ∀ (s : Shared) (H : Hp) (C : Addr) (cl : List (Str × Addr)) (fp : List Addr), GE (X.blk s H scope (compEnvC scope cl C X.env) fp) elt fe) (hy : X.N[i]? = some y := by rfl) (hyl : X.env.scope.names.lookup y = some .local := by rfl) (hsub : ∀ i ∈ ts, i ∈ own.map (·.2) := by decide) (hc : X.calm = true := by rfl) (hs : ∀ x, foldedSetIterable iter X.env x = pure x := by intro _; rfl) :
    GS X (.Assign [.Name y py] (.ListComp elt [⟨tg, iter, ifs, 0⟩] scope pos) spos) (SOwn i (LComp (own.map (·.2)) it gt c fe)) := by
  obtain ⟨te, a, b⟩ := setLc_core own hN hy hyl hsw hi ok hg ht he hsub hc hs
  exact ⟨_, b, good_own i a⟩
end
theorem blk_by {N : List Str} {sc scope : Scope} {own : List (Str × Nat)} (h : blkC N sc scope own = true) : blkC N sc scope own = true := h
/-! ### len of a list of one's own; a fresh list handed to extend -/
def FLenO (i : Nat) : FE := fun ρ => match ρ[i]? with
  | some (.ow _ ds) => some (.int (ds.length : Nat), ρ)
  | _ => none
theorem ge_lenO (i : Nat) {x : Str} {px p pos : Pos} (hm : X.mg "len" = none) (hN : X.N[i]? = some x := by rfl) (hv : Vis X.env.scope x := by first | exact Or.inl rfl | exact Or.inr (Or.inl rfl) | exact Or.inr (Or.inr rfl)) (hd : (x == ("__debug__" : Str)) = false := by decide)
    (hcd : (x == ("__classdict__" : Str)) = false := by decide) (hgl : Gl X "len" := by rfl) (hs : starEach [Expr.Name x px] X.env = (false, eval (.Name x px) X.env) :: starEach [] X.env := by rfl) : GE X (.Call (.Name "len" p) [.Name x px] [] pos) (FLenO i) := by
  refine ⟨_, pe_callB cr_len hgl hm PySem.boot_len (pa_cons (pe_var hN hv hd hcd) pa_nil hs) (he := hs), fun pa w σ d ρ' R h Q q => ?_⟩
  unfold FLenO at h
  split at h
  case h_2 => cases h
  rename_i t ds e
  obtain ⟨q1, q2⟩ := Prod.mk.inj (Option.some.inj h)
  subst q1
  subst q2
  obtain ⟨a1, a2, ⟨vs, a3, a4⟩, a5⟩ := R.ow i t ds e
  refine ⟨_, a1, _, vs, rfl, .inl (.inl (.inl a3)), ?_⟩
  rw [a4.length]
  exact q w _ R rfl (Step.refl w) (.int _)
def FExt (i : Nat) (f : FL) : FE := fun ρ => match ρ[i]? with
  | some (.ow _ _) => bnd (f ρ) fun es ρ1 => match ρ1[i]? with
    | some (.ow t ds) => if ds.length + es.length ≤ 16777216 then some (.non, ρ1.set i (.ow t (ds ++ es))) else none
    | _ => none
  | _ => none
theorem ge_extend (i : Nat) {x : Str} {e : Expr} {f : FL} {px apos cpos : Pos} (he : GL X e f) (hN : X.N[i]? = some x := by rfl) (hv : Vis X.env.scope x := by first | exact Or.inl rfl | exact Or.inr (Or.inl rfl) | exact Or.inr (Or.inr rfl)) (hd : (x == ("__debug__" : Str)) = false := by decide)
    (hcd : (x == ("__classdict__" : Str)) = false := by decide) (hbase : attributeBase (.Name x px) "extend" X.env (eval (.Name x px) X.env) = eval (.Name x px) X.env := by rfl)
    (hfew : ((backTo cpos (starEach [e] X.env)).all (fun x => !x.1) && (backToKw cpos (keywordEach [] X.env)).all (fun x => x.1.isSome) && decide ([e].length + ([] : List Keyword).length + (if ([] : List Keyword).isEmpty then 0 else 1) < 30)) = true := by rfl)
    (hline : (apos.endLine == cpos.line) = true := by rfl) (hs : starEach [e] X.env = (false, eval e X.env) :: starEach [] X.env := by rfl) (hplain : (backTo cpos (starEach [] X.env)).any (·.1) = false := by rfl) :
    GE X (.Call (.Attribute (.Name x px) "extend" apos) [e] [] cpos) (FExt i f) := by
  obtain ⟨te, a, b⟩ := he
  refine ⟨_, pe_bm PySem.F.plainAttrs_list PySem.F.slot_list_extend PySem.F.type_list_extend mt_extend (pe_var hN hv hd hcd) (pa_cons a pa_nil hs) hbase hfew hline hs hplain, fun pa w σ d ρ' R h Q q => ?_⟩
  unfold FExt at h
  split at h
  case h_2 => cases h
  rename_i t0 ds0 e0
  obtain ⟨es, ρ1, e1, h2⟩ := bnd_eq h
  split at h2
  case h_2 => cases h2
  rename_i t ds e3
  split at h2
  case isFalse => cases h2
  rename_i hz
  obtain ⟨q1, q2⟩ := Prod.mk.inj (Option.some.inj h2)
  subst q1
  subst q2
  obtain ⟨a1, a2, ⟨us, a3, a4⟩, a5⟩ := R.ow i t0 ds0 e0
  refine ⟨_, a1, .inl ⟨rfl, _, .inl (.inl a3)⟩, b pa w σ es ρ1 R e1 _ fun w1 P acc R1 p1 s1 h0 hA hF hO ra => ?_⟩
  subst p1
  obtain ⟨b1, b2, ⟨us', b3, b4⟩, b5⟩ := R1.ow i t ds e3
  have ea : w.al i = w1.al i := V.ref.inj (Option.some.inj (Option.some.inj (a1.symm.trans b1)))
  rw [ea]
  obtain ⟨R2, s2⟩ := R1.put e3 (b4.append ra)
  exact ⟨_, P, us', acc, rfl, rfl, b3, hA, by rw [b4.length, ra.length]; exact line_le hz, q _ .non R2 rfl (s1.trans s2) .non⟩
end
/-! ### f(k = v, ..), keywords alone -/
section
variable {X : Cx} {K : PySem.W.Frag}
/-- the values of the keywords in the parameters' order -/
def permV {α : Type} (π : List Nat) (xs : List α) : List α := π.filterMap fun i => xs[i]?
theorem permV_vals : ∀ (π : List Nat) {vs : List V} {us : List Value}, Vals vs us → Vals (permV π vs) (permV π us)
  | [], _, _, _ => .nil
  | i :: π, vs, us, r => by
    have ih := permV_vals π r
    unfold permV at ih ⊢
    rw [List.filterMap_cons, List.filterMap_cons]
    cases e : vs[i]? with
    | none =>
      rw [r.none_of e]
      exact ih
    | some v =>
      obtain ⟨u, hu, rv⟩ := r.get e
      rw [hu]
      exact .cons rv ih
theorem permV_rp {F : Hp} : ∀ (π : List Nat) {vs : List V} {ds : List D}, RpA K F vs ds → RpA K F (permV π vs) (permV π ds)
  | [], _, _, _ => .nil
  | i :: π, vs, ds, r => by
    have ih := permV_rp π r
    unfold permV at ih ⊢
    rw [List.filterMap_cons, List.filterMap_cons]
    cases e : vs[i]? with
    | none =>
      have : ds[i]? = none := by
        rw [List.getElem?_eq_none_iff] at e ⊢
        rw [← r.length]
        exact e
      rw [this]
      exact ih
    | some v =>
      obtain ⟨u, hu, rv⟩ := r.getV e
      rw [hu]
      exact .cons rv ih
structure GK (X : Cx) (kws : List Keyword) (f : FA) : Prop where
  ok : ∃ t, PK X kws t ∧ GoodA X.K t f
theorem gk_nil : GK X [] ANil := ⟨_, pk_nil, good_nil⟩
theorem gk_cons {e : Expr} {kws : List Keyword} {f : FE} {fa : FA} {nm : Option Str} {kpos : Pos} (he : GE X e f) (ha : GK X kws fa) : GK X (⟨nm, e, kpos⟩ :: kws) (ACons f fa) := let ⟨_, a, b⟩ := he; let ⟨_, c, d⟩ := ha; ⟨_, pk_cons a c, good_cons b d⟩
def onlyK {α : Type} (π : List Nat) : List α → List α → List α
  | [], ws => permV π ws
  | _ :: _, _ => []
/-- how keywords bind, by the def's own text -/
theorem kbinds {x qual : Str} {st : Stmt} {f : Addr} {fd : FuncData} {ps ks : List Str} (π : List Nat) (F : Fun K x qual st f fd) (hp : 0 < ps.length)
    (h : ∀ (kV doc pm : Value) (an : Option Addr) (cdv ct : Value) (ws : List Value), (permV π ws).length = ps.length → bindArgs (PySem.W.fnOf x qual (defArgs st) (defBody st) (defScope st) .none kV doc pm an cdv ct) ⟨[], ks.zip ws⟩ = pure (ps.zip (permV π ws))) :
    KBinds K fd ps ks (onlyK π) (onlyK π) := by
  obtain ⟨oc, od, kV, doc, pm, an, cdv, ct, osl, rfl, lk, hcd⟩ := F.ex
  refine ⟨fun s us ws _ hl => ?_, fun {vs us zs ws} r rz => ?_⟩
  · cases us with
    | nil => exact .of_eq (h kV doc pm an cdv ct ws hl)
    | cons _ _ => exact absurd (show 0 = ps.length from hl) (by omega)
  · cases r with
    | nil => exact permV_vals π rz
    | cons _ _ => exact .nil
def FCallK (den : DN) (π : List Nat) (fa : FA) : FE := FCallE den (GAll fun ρ => bnd (fa ρ) fun ds ρ1 => some (permV π ds, ρ1))
theorem ge_callK {x : Str} {st : Stmt} {ps ks : List Str} {k : Nat} {den : DN} {p pos : Pos} {kws : List Keyword} {fa : FA} (π : List Nat) (C : Cal X.prog X.w X.K X.mg X.base x st ps k den) (r : Rm X.A k) (ha : GK X kws fa) (hp : 0 < ps.length)
    (h : ∀ (kV doc pm : Value) (an : Option Addr) (cdv ct : Value) (ws : List Value), (permV π ws).length = ps.length → bindArgs (PySem.W.fnOf x x (defArgs st) (defBody st) (defScope st) .none kV doc pm an cdv ct) ⟨[], ks.zip ws⟩ = pure (ps.zip (permV π ws)))
    (hall : (backToKw pos (keywordEach kws X.env)).all (·.1.isSome) = true := by rfl) (hks : (backToKw pos (keywordEach kws X.env)).filterMap (·.1) = ks := by rfl) (hg : Gl X x := by rfl) (hdb : (x == ("__debug__" : Str)) = false := by decide)
    (hpl : ((backTo pos (starEach [] X.env)).any (·.1) || (backToKw pos (keywordEach kws X.env)).any (·.1.isNone)) = false := by rfl) : GE X (.Call (.Name x p) [] kws pos) (FCallK den π fa) := by
  obtain ⟨f, fd, F, hm, hb, G⟩ := C.ex
  obtain ⟨tk, a, b⟩ := ha
  refine ⟨_, pe_callKG G r.room r.gd hg hm F.kp (kbinds π F hp h) pass0 a hall hks hdb hpl, fun pa w σ d ρ' R h' Q q => ?_⟩
  have gg : GoodG X.K (fun σ H Q => tk σ H fun zs H2 => Q (permV π zs) H2) (GAll fun ρ => bnd (fa ρ) fun ds ρ1 => some (permV π ds, ρ1)) := fun pa w σ ag ρ' R h Q q => by
    obtain ⟨ds, ρ1, e1, h2⟩ := bnd_eq h
    obtain ⟨es, ρ2, e3, h3⟩ := bnd_eq e1
    obtain ⟨q1, q2⟩ := Prod.mk.inj (Option.some.inj h3)
    subst q1
    subst q2
    obtain ⟨q1, q2⟩ := Prod.mk.inj (Option.some.inj h2)
    subst q1
    subst q2
    exact b pa w σ es _ R e3 _ fun w1 vs R1 p1 s1 r1 => q w1 _ R1 p1 s1 ⟨[], [], permV π vs, rfl, .nil, permV_rp π r1, rfl⟩
  have z := good_callE (E := E0) C.len gg pa w σ d ρ' R h' Q q
  have e : (fun (zs : List V) (H2 : Hp) => spD X.K ps.length den (permV π zs ++ []) H2 Q E0) = fun zs H2 => spD X.K ps.length den (permV π zs) H2 Q E0 := by
    funext zs H2
    rw [List.append_nil]
  show tk σ w.H fun zs H2 => spD X.K ps.length den (permV π zs) H2 Q E0
  rw [← e]
  exact z
end
end Dn
end
section
namespace Dn
open PySem PySem.Spec PyProof.Rows L2
theorem b_len : bootBuiltins "len" = some (.builtin "len") := PySem.boot_len
theorem b_abs : bootBuiltins "abs" = some (.builtin "abs") := by decide +kernel
theorem b_sum : bootBuiltins "sum" = some (.builtin "sum") := by decide +kernel
theorem b_all : bootBuiltins "all" = some (.builtin "all") := by decide +kernel
theorem b_any : bootBuiltins "any" = some (.builtin "any") := by decide +kernel
theorem b_repr : bootBuiltins "repr" = some (.builtin "repr") := by decide +kernel
theorem b_isinstance : bootBuiltins "isinstance" = some (.builtin "isinstance") := by decide +kernel
theorem b_max : bootBuiltins "max" = some (.builtin "max") := by decide +kernel
theorem b_min : bootBuiltins "min" = some (.builtin "min") := by decide +kernel
theorem b_sorted : bootBuiltins "sorted" = some (.builtin "sorted") := by decide +kernel
theorem b_int : bootBuiltins "int" = some (.type "int") := by decide +kernel
theorem b_bool : bootBuiltins "bool" = some (.type "bool") := by decide +kernel
theorem b_tuple : bootBuiltins "tuple" = some (.type "tuple") := by decide +kernel
theorem b_list : bootBuiltins "list" = some (.type "list") := by decide +kernel
theorem b_str : bootBuiltins "str" = some (.type "str") := by decide +kernel
/-- the law's own end: what it is worth at every script -/
theorem sp_law {K : PySem.W.Frag} {den : DN} (h : ∀ ns : List Int, ns.length ≤ 63 → ∃ ρ', den [.fz (.frl (ns.map D.int))] = some (.d (.bl true), ρ')) (H : Hp) (a : Addr) (ns : List Int) (hl : ns.length ≤ 63) (hS : SqL K H a (ns.map V.int)) :
    spD K 1 den [.ref a] H (fun v _ => v = .bl true) fun _ _ _ => False := by
  obtain ⟨ρ', e⟩ := h ns hl
  refine ⟨rfl, H, fun _ => 0, [.fz (.frl (ns.map D.int))], .d (.bl true), ρ', ⟨Ex.refl H, rfl, fun i d hi => ?_, fun i t ds hi => ?_, fun i j t u ds es hi => ?_⟩, fun i t ds hi => ?_, e, fun w' v _ _ _ _ r => ?_⟩
  · cases i with
    | zero =>
      cases hi
      exact ⟨_, rfl, .frl hS RpA.ofInts⟩
    | succ i => simp at hi
  · cases i <;> simp at hi
  · cases i <;> simp at hi
  · cases i <;> simp at hi
  · cases r
    rfl
end Dn
end
section
/-! The pure side: small data (shown, compared), loops. -/
namespace Dn
open PySem PySem.Spec PyProof.Rows L2

/-! ### small data -/
structure Sm (k w : Nat) (d : D) : Prop where
  ok : pdOk d = true
  sh : (toPD d).showable = true
  lf : (toPD d).leavesShort 13 = true
  cl : (toPD d).canLay0 = true
  dp : (toPD d).depth ≤ k
  wt : (toPD d).weight ≤ w
structure SmA (k w : Nat) (ds : List D) : Prop where
  ok : pdOks ds = true
  sh : PyData.showableAll (toPDs ds) = true
  lf : PyData.leavesShortAll 13 (toPDs ds) = true
  cl : PyData.canLayAll0 (toPDs ds) = true
  dp : PyData.depthAll (toPDs ds) ≤ k
  wt : PyData.weightAll (toPDs ds) ≤ w
theorem Sm.mono {k w k' w' : Nat} {d : D} (h : Sm k w d) (hk : k ≤ k') (hw : w ≤ w') : Sm k' w' d := ⟨h.ok, h.sh, h.lf, h.cl, Nat.le_trans h.dp hk, Nat.le_trans h.wt hw⟩
theorem natAbs_lt {i : Int} (h : -1000000000000 < i ∧ i < 1000000000000) : i.natAbs < 10 ^ 12 := by
  have : (10 : Nat) ^ 12 = 1000000000000 := by decide
  omega
theorem Sm.int {i : Int} (h : -1000000000000 < i ∧ i < 1000000000000) : Sm 0 41 (.int i) := by
  have h1 := natAbs_lt h
  have h2 : i.natAbs.log2 < 41 := by
    by_cases e : i.natAbs = 0
    · rw [e]; decide
    · refine (Nat.log2_lt e).mpr (Nat.lt_of_lt_of_le h1 (by decide))
  refine ⟨rfl, ?_, ?_, rfl, Nat.le_refl _, ?_⟩
  · show decide (i.natAbs.log2 < 1920) = true
    exact decide_eq_true (by omega)
  · show decide ((PyData.shown (.int i)).length ≤ 13) = true
    exact decide_eq_true (PyData.shown_int_le h1)
  · show (if i == 0 then 0 else i.natAbs.log2 + 1) ≤ 41
    split <;> omega
theorem Sm.bl {b : Bool} : Sm 0 0 (.bl b) := ⟨rfl, rfl, rfl, rfl, Nat.le_refl _, Nat.le_refl _⟩
theorem SmA.nil {k w : Nat} : SmA k w [] := ⟨rfl, rfl, rfl, rfl, Nat.zero_le _, Nat.zero_le _⟩
theorem SmA.cons {k w v : Nat} {d : D} {ds : List D} (h : Sm k w d) (hs : SmA k v ds) : SmA k (w + 1 + v) (d :: ds) := by
  refine ⟨?_, ?_, ?_, ?_, ?_, ?_⟩
  · show (pdOk d && pdOks ds) = true
    rw [h.ok, hs.ok]; rfl
  · show ((toPD d).showable && PyData.showableAll (toPDs ds)) = true
    rw [h.sh, hs.sh]; rfl
  · show ((toPD d).leavesShort 13 && PyData.leavesShortAll 13 (toPDs ds)) = true
    rw [h.lf, hs.lf]; rfl
  · show ((toPD d).canLay0 && PyData.canLayAll0 (toPDs ds)) = true
    rw [h.cl, hs.cl]; rfl
  · show max (toPD d).depth (PyData.depthAll (toPDs ds)) ≤ k
    exact Nat.max_le.mpr ⟨h.dp, hs.dp⟩
  · show (toPD d).weight + 1 + PyData.weightAll (toPDs ds) ≤ _
    exact Nat.add_le_add (Nat.add_le_add_right h.wt 1) hs.wt
theorem SmA.of {k w : Nat} : ∀ {ds : List D}, (∀ d ∈ ds, Sm k w d) → SmA k ((w + 1) * ds.length) ds
  | [], _ => .nil
  | d :: ds, h => by
    have a := SmA.cons (h d List.mem_cons_self) (SmA.of fun x hx => h x (List.mem_cons_of_mem _ hx))
    rw [List.length_cons, Nat.mul_add, Nat.mul_one, Nat.add_comm]
    exact a
theorem SmA.lst {k w : Nat} {ds : List D} (h : SmA k w ds) : Sm (k + 1) w (.lst ds) := ⟨h.ok, by simpa only [toPD, PyData.showable] using h.sh, by simpa only [toPD, PyData.leavesShort] using h.lf, by simpa only [toPD, PyData.canLay0] using h.cl, by simpa only [toPD, PyData.depth, Nat.add_le_add_iff_right] using h.dp, by simpa only [toPD, PyData.weight] using h.wt⟩
theorem SmA.tup {k w : Nat} {ds : List D} (h : SmA k w ds) : Sm (k + 1) w (.tup ds) := ⟨h.ok, by simpa only [toPD, PyData.showable] using h.sh, by simpa only [toPD, PyData.leavesShort] using h.lf, by simpa only [toPD, PyData.canLay0] using h.cl, by simpa only [toPD, PyData.depth, Nat.add_le_add_iff_right] using h.dp, by simpa only [toPD, PyData.weight] using h.wt⟩
/-- lists of small whole numbers -/
theorem SmA.ints {ns : List Int} (h : ∀ n ∈ ns, -1000000000000 < n ∧ n < 1000000000000) : SmA 0 (42 * ns.length) (ns.map D.int) := by
  have := SmA.of (k := 0) (w := 41) (ds := ns.map D.int) fun d hd => by
    obtain ⟨n, hn, rfl⟩ := List.mem_map.mp hd
    exact .int (h n hn)
  rwa [List.length_map] at this
theorem Sm.showOk {k w : Nat} {d : D} (h : Sm k w d) (hk : k ≤ 64) (hw : w ≤ 2 ^ 20) : showOk d = true := by
  have h1 := PyData.shown_fits (B := 13) (by decide) (by decide) h.lf (Nat.le_trans h.wt hw)
  rw [sizeLine_eq] at h1
  unfold Dn.showOk
  rw [h.ok, h.sh, decide_eq_true (Nat.le_trans h.dp hk), decide_eq_true h1]
  rfl
theorem gRepr_of {k w : Nat} {d : D} (h : Sm k w d) (hk : k ≤ 64) (hw : w ≤ 2 ^ 20) : gRepr [d] = some (.str (toPD d).shown) := by
  show (if Dn.showOk d = true then some (D.str (toPD d).shown) else none) = _
  rw [if_pos (h.showOk hk hw)]
theorem Sm.shaped {k w : Nat} {d : D} (h : Sm k w d) (hk : k ≤ 64) : SeqAt.shaped (toPD d) = true := by
  show ((toPD d).canLay0 && decide ((toPD d).depth ≤ 64)) = true
  rw [h.cl, decide_eq_true (Nat.le_trans h.dp hk)]
  rfl
theorem gEq_of {k w : Nat} {d e : D} (h : Sm k w d) (h' : Sm k w e) (hk : k ≤ 64) (hb : bothS d e = none) : gEq d e = some (.bl (PyData.eqv (toPD d) (toPD e))) := by
  unfold gEq
  rw [hb]
  dsimp only
  rw [if_pos ⟨h.ok, h'.ok, h.shaped hk, h'.shaped hk⟩]
theorem gNe_of {k w : Nat} {d e : D} (h : Sm k w d) (h' : Sm k w e) (hk : k ≤ 64) (hb : bothS d e = none) : gNe d e = some (.bl (!PyData.eqv (toPD d) (toPD e))) := by
  unfold gNe
  rw [hb]
  dsimp only
  rw [if_pos ⟨h.ok, h'.ok, h.shaped hk, h'.shaped hk⟩]
theorem gNe_str (x y : Str) : gNe (.str x) (.str y) = some (.bl (!decide (x = y))) := rfl
theorem gEq_str (x y : Str) : gEq (.str x) (.str y) = some (.bl (decide (x = y))) := rfl
theorem eqv_ints : ∀ xs ys : List Int, PyData.eqvAll (toPDs (xs.map D.int)) (toPDs (ys.map D.int)) = decide (xs = ys)
  | [], [] => rfl
  | [], _ :: _ => rfl
  | _ :: _, [] => rfl
  | x :: xs, y :: ys => by
    show (PyData.eqv (.int x) (.int y) && PyData.eqvAll (toPDs (xs.map D.int)) (toPDs (ys.map D.int))) = _
    rw [eqv_ints xs ys]
    show ((x == y) && _) = _
    by_cases e : x = y
    · subst e
      rw [beq_self_eq_true, Bool.true_and]
      exact decide_eq_decide.mpr ⟨fun e => by rw [e], fun e => (List.cons.inj e).2⟩
    · rw [beq_eq_false_iff_ne.mpr e, Bool.false_and]
      exact (decide_eq_false fun h => e (List.cons.inj h).1).symm
/-- whole numbers of any size are compared -/
theorem gEq_int (i j : Int) : gEq (.int i) (.int j) = some (.bl (decide (i = j))) := by
  have e : PyData.eqv (.int i) (.int j) = decide (i = j) := by
    show (i == j) = _
    by_cases e : i = j
    · rw [beq_iff_eq.mpr e, decide_eq_true e]
    · rw [beq_eq_false_iff_ne.mpr e, decide_eq_false e]
  rw [← e]
  rfl
theorem gNe_int (i j : Int) : gNe (.int i) (.int j) = some (.bl (!decide (i = j))) := by
  have e : PyData.eqv (.int i) (.int j) = decide (i = j) := by
    show (i == j) = _
    by_cases e : i = j
    · rw [beq_iff_eq.mpr e, decide_eq_true e]
    · rw [beq_eq_false_iff_ne.mpr e, decide_eq_false e]
  rw [← e]
  rfl
/-- small whole numbers -/
def Si (ns : List Int) : Prop := ∀ n ∈ ns, -1000000000000 < n ∧ n < 1000000000000
theorem Sm.tupI {ns : List Int} (h : Si ns) : Sm 1 (42 * ns.length) (.tup (ns.map D.int)) := (SmA.ints h).tup
theorem Sm.lstI {ns : List Int} (h : Si ns) : Sm 1 (42 * ns.length) (.lst (ns.map D.int)) := (SmA.ints h).lst
theorem gEq_tupI {xs ys : List Int} (h : Si xs) (h' : Si ys) : gEq (.tup (xs.map D.int)) (.tup (ys.map D.int)) = some (.bl (decide (xs = ys))) := by
  rw [← eqv_ints]
  exact gEq_of ((Sm.tupI h).mono (Nat.le_refl _) (Nat.le_max_left _ _)) ((Sm.tupI h').mono (Nat.le_refl _) (Nat.le_max_right _ _)) (by decide) rfl
theorem gNe_repr {k w : Nat} {d : D} (hd : Sm k w d) (hk : k ≤ 64) (hw : w ≤ 2 ^ 20) : ((gRepr [d]).bind fun x => (gRepr [d]).bind fun y => gNe x y) = some (.bl false) := by
  rw [gRepr_of hd hk hw]
  show gNe (.str _) (.str _) = _
  rw [gNe_str, decide_eq_true rfl]
  rfl
end Dn
end
section
/-! The pure side: loops by induction. -/
namespace Dn
open PySem PySem.Spec PyProof.Rows L2

section
variable {g : FT} {body : FS} {vs : List Nat} {c : FB} {elt : FE} {α β : Type}
/-- a loop that goes through, by a fold -/
theorem SLoop_fold (e : α → D) (f : β → α → β) (R : β → List Sl → Prop) : ∀ (xs : List α) (b : β) (ρ : List Sl), R b ρ →
    (∀ x ∈ xs, ∀ b ρ, R b ρ → ∃ ρ1 ρ2, g (e x) ρ = some ρ1 ∧ body ρ1 = some (.nx, ρ2) ∧ R (f b x) ρ2) → ∃ ρ', SLoop g body (xs.map e) ρ = some (.nx, ρ') ∧ R (xs.foldl f b) ρ'
  | [], b, ρ, h, _ => ⟨ρ, rfl, h⟩
  | x :: xs, b, ρ, h, s => by
    obtain ⟨ρ1, ρ2, h1, h2, h3⟩ := s x List.mem_cons_self b ρ h
    obtain ⟨ρ', h4, h5⟩ := SLoop_fold e f R xs (f b x) ρ2 h3 fun y hy => s y (List.mem_cons_of_mem _ hy)
    refine ⟨ρ', ?_, h5⟩
    rw [List.map_cons]
    unfold SLoop
    rw [h1]
    dsimp only
    rw [h2]
    exact h4
/-- a loop that goes through, by an invariant that counts -/
theorem SLoop_inv (e : α → D) (I : Nat → List Sl → Prop) (M : Nat) : ∀ (xs : List α) (k : Nat) (ρ : List Sl), k + xs.length ≤ M → I k ρ →
    (∀ x ∈ xs, ∀ k ρ, k < M → I k ρ → ∃ ρ1 ρ2, g (e x) ρ = some ρ1 ∧ body ρ1 = some (.nx, ρ2) ∧ I (k + 1) ρ2) → ∃ ρ', SLoop g body (xs.map e) ρ = some (.nx, ρ') ∧ I (k + xs.length) ρ'
  | [], k, ρ, _, h, _ => ⟨ρ, rfl, h⟩
  | x :: xs, k, ρ, hM, h, s => by
    rw [List.length_cons] at hM
    obtain ⟨ρ1, ρ2, h1, h2, h3⟩ := s x List.mem_cons_self k ρ (by omega) h
    obtain ⟨ρ', h4, h5⟩ := SLoop_inv e I M xs (k + 1) ρ2 (by omega) h3 fun y hy => s y (List.mem_cons_of_mem _ hy)
    refine ⟨ρ', ?_, ?_⟩
    · rw [List.map_cons]
      unfold SLoop
      rw [h1]
      dsimp only
      rw [h2]
      exact h4
    · rw [List.length_cons, show k + (xs.length + 1) = k + 1 + xs.length from by omega]
      exact h5
/-- a comprehension whose items change nothing -/
theorem CLoop_map (e h : α → D) (ρ : List Sl) : ∀ (xs : List α), (∀ x ∈ xs, ∃ ρ1 ρ2 ρ3, g (e x) ρ = some ρ1 ∧ c ρ1 = some (true, ρ2) ∧ elt ρ2 = some (h x, ρ3) ∧ wipeS ρ3 vs = ρ) →
    CLoop vs g c elt (xs.map e) ρ = some (xs.map h, ρ)
  | [], _ => rfl
  | x :: xs, s => by
    obtain ⟨ρ1, ρ2, ρ3, h1, h2, h3, h4⟩ := s x List.mem_cons_self
    have ih := CLoop_map e h ρ xs fun y hy => s y (List.mem_cons_of_mem _ hy)
    rw [List.map_cons, List.map_cons]
    unfold CLoop
    rw [h1]
    dsimp only
    rw [h2, bnd_some, if_pos rfl, h3, bnd_some, h4, ih]
    rfl
/-- a comprehension whose items are whole numbers that a pot gives -/
theorem CLoop_ints (e : α → D) (I : Nat → List Sl → Prop) (P : Int → Prop) (M : Nat) : ∀ (xs : List α) (k : Nat) (ρ : List Sl), k + xs.length ≤ M → I k ρ →
    (∀ x ∈ xs, ∀ k ρ, k < M → I k ρ → ∃ ρ1 ρ2 r ρ3, g (e x) ρ = some ρ1 ∧ c ρ1 = some (true, ρ2) ∧ elt ρ2 = some (.int r, ρ3) ∧ P r ∧ I (k + 1) (wipeS ρ3 vs)) →
    ∃ (rs : List Int) (ρ' : List Sl), CLoop vs g c elt (xs.map e) ρ = some (rs.map D.int, ρ') ∧ rs.length = xs.length ∧ (∀ r ∈ rs, P r) ∧ I (k + xs.length) ρ'
  | [], k, ρ, _, h, _ => ⟨[], ρ, rfl, rfl, (fun _ q => absurd q List.not_mem_nil), h⟩
  | x :: xs, k, ρ, hM, h, s => by
    rw [List.length_cons] at hM
    obtain ⟨ρ1, ρ2, r, ρ3, h1, h2, h3, h4, h5⟩ := s x List.mem_cons_self k ρ (by omega) h
    obtain ⟨rs, ρ', h6, h7, h8, h9⟩ := CLoop_ints e I P M xs (k + 1) _ (by omega) h5 fun y hy => s y (List.mem_cons_of_mem _ hy)
    refine ⟨r :: rs, ρ', ?_, by rw [List.length_cons, List.length_cons, h7], fun q hq => ?_, ?_⟩
    · rw [List.map_cons, List.map_cons]
      unfold CLoop
      rw [h1]
      dsimp only
      rw [h2, bnd_some, if_pos rfl, h3, bnd_some, h6]
      rfl
    · cases hq with
      | head => exact h4
      | tail _ h => exact h8 q h
    · rw [List.length_cons, show k + (xs.length + 1) = k + 1 + xs.length from by omega]
      exact h9
end
theorem rngD_eq (n : Nat) : rngD 0 n = (List.range n).map fun i => D.int (i : Nat) := by
  unfold rngD
  refine List.map_congr_left fun i _ => ?_
  rw [Int.zero_add]
theorem zipWith_pair {α β : Type} (f : α → D) (h : β → D) : ∀ (xs : List α) (ys : List β), List.zipWith pairD (xs.map f) (ys.map h) = (List.zip xs ys).map fun p => D.tup [f p.1, h p.2]
  | [], _ => rfl
  | _ :: _, [] => rfl
  | x :: xs, y :: ys => by
    rw [List.map_cons, List.map_cons, List.zipWith_cons_cons, List.zip_cons_cons, List.map_cons, zipWith_pair f h xs ys]
    rfl
theorem intsD_ints : ∀ ns : List Int, intsD (ns.map D.int) = some ns
  | [] => rfl
  | n :: ns => by
    show (intsD (ns.map D.int)).map _ = _
    rw [intsD_ints ns]
    rfl
theorem boolsD_bools : ∀ ns : List Bool, boolsD (ns.map D.bl) = some ns
  | [] => rfl
  | n :: ns => by
    show (boolsD (ns.map D.bl)).map _ = _
    rw [boolsD_bools ns]
    rfl
theorem gSum_ints (ns : List Int) : gSum [.lst (ns.map D.int)] = some (.int ns.sum) := by
  show ((intsD (ns.map D.int)).map _) = _
  rw [intsD_ints]
  rfl
theorem gAll_bools (bs : List Bool) : gAll [.lst (bs.map D.bl)] = some (.bl (bs.all id)) := by
  show ((boolsD (bs.map D.bl)).map _) = _
  rw [boolsD_bools]
  rfl
theorem gAll_true {α : Type} (xs : List α) (f : α → D) (h : ∀ x ∈ xs, f x = .bl true) : gAll [.lst (xs.map f)] = some (.bl true) := by
  have e : xs.map f = (xs.map fun _ => true).map D.bl := by
    rw [List.map_map]
    exact List.map_congr_left h
  rw [e, gAll_bools]
  have : (xs.map fun _ => true).all id = true := List.all_eq_true.mpr fun b hb => by
    obtain ⟨_, _, rfl⟩ := List.mem_map.mp hb
    rfl
  rw [this]
theorem gMod_int {i j : Int} (h : 0 < j) : gMod (.int i) (.int j) = some (.int (i % j)) := if_pos h
theorem gDiv_int {i j : Int} (h : 0 < j) (h2 : j < 1152921504606846976) : gDiv (.int i) (.int j) = some (.int (i / j)) := by
  refine if_pos ⟨h, ?_⟩
  have : j.natAbs < 2 ^ 60 := by
    have : (2 : Nat) ^ 60 = 1152921504606846976 := by decide
    omega
  by_cases e : j.natAbs = 0
  · rw [e]; decide
  · exact Nat.lt_of_lt_of_le ((Nat.log2_lt e).mpr this) (by decide)
/-- sizes -/
theorem log2_lt_of {i : Int} {k : Nat} (h : i.natAbs < 2 ^ k) (hk : 0 < k) : i.natAbs.log2 < k := by
  by_cases e : i.natAbs = 0
  · rw [e]
    exact hk
  · exact (Nat.log2_lt e).mpr h
theorem gMul_int {i j : Int} (k l : Nat) (h : i.natAbs < 2 ^ k) (h2 : j.natAbs < 2 ^ l) (hk : 0 < k) (hl : 0 < l) (s : k + l ≤ 1000000) : gMul (.int i) (.int j) = some (.int (i * j)) := by
  refine if_pos ?_
  have h1 := log2_lt_of h hk
  have h3 := log2_lt_of h2 hl
  show _ + _ < 1000000
  omega
theorem abs_lt_pow {i : Int} {k : Nat} (h1 : -((2 ^ k : Nat) : Int) < i) (h2 : i < ((2 ^ k : Nat) : Int)) : i.natAbs < 2 ^ k := by omega
/-- two numbers below 2^60 -/
theorem gMul_small {i j : Int} (h : -1152921504606846976 < i ∧ i < 1152921504606846976) (h2 : -1152921504606846976 < j ∧ j < 1152921504606846976) : gMul (.int i) (.int j) = some (.int (i * j)) := by
  have e : (2 : Nat) ^ 60 = 1152921504606846976 := by decide
  exact gMul_int 60 60 (abs_lt_pow (by rw [e]; omega) (by rw [e]; omega)) (abs_lt_pow (by rw [e]; omega) (by rw [e]; omega)) (by decide) (by decide) (by decide)
theorem isi_int_int (i : Int) : gIsi [.int i, .ty "int"] = some (.bl true) := rfl
theorem isi_int_bool (i : Int) : gIsi [.int i, .ty "bool"] = some (.bl false) := rfl
theorem isi_bl_int (b : Bool) : gIsi [.bl b, .ty "int"] = some (.bl true) := rfl
theorem isi_bl_bool (b : Bool) : gIsi [.bl b, .ty "bool"] = some (.bl true) := rfl
theorem isi_tup_int (ds : List D) : gIsi [.tup ds, .ty "int"] = some (.bl false) := rfl
theorem isi_lst_int (ds : List D) : gIsi [.lst ds, .ty "int"] = some (.bl false) := rfl
theorem isi_str_int (x : Str) : gIsi [.str x, .ty "int"] = some (.bl false) := rfl
theorem isi_non_int : gIsi [.non, .ty "int"] = some (.bl false) := rfl
theorem isi_tup_tup (ds : List D) : gIsi [.tup ds, .ty "tuple"] = some (.bl true) := rfl
theorem isi_lst_tup (ds : List D) : gIsi [.lst ds, .ty "tuple"] = some (.bl false) := rfl
theorem isi_int_tup (i : Int) : gIsi [.int i, .ty "tuple"] = some (.bl false) := rfl
theorem gLt_int (i j : Int) : gLt (.int i) (.int j) = some (.bl (decide (i < j))) := rfl
theorem gLe_int (i j : Int) : gLe (.int i) (.int j) = some (.bl (decide (i ≤ j))) := rfl
theorem gGt_int (i j : Int) : gGt (.int i) (.int j) = some (.bl (decide (j < i))) := rfl
theorem gGe_int (i j : Int) : gGe (.int i) (.int j) = some (.bl (decide (j ≤ i))) := rfl
theorem gAdd_int (i j : Int) : gAdd (.int i) (.int j) = some (.int (i + j)) := rfl
theorem gSub_int (i j : Int) : gSub (.int i) (.int j) = some (.int (i - j)) := rfl
theorem gInt_int (i : Int) : gInt [.int i] = some (.int i) := rfl
theorem gInt_bl (b : Bool) : gInt [.bl b] = some (.int (if b then 1 else 0)) := rfl
theorem gLen_tup (ds : List D) : gLen [.tup ds] = some (.int ds.length) := rfl
theorem gLen_lst (ds : List D) : gLen [.lst ds] = some (.int ds.length) := rfl
theorem gLen_frl (ds : List D) : gLen [.frl ds] = some (.int ds.length) := rfl
theorem gTuple_lst (ds : List D) : gTuple [.lst ds] = some (.tup ds) := rfl
theorem gTuple_tup (ds : List D) : gTuple [.tup ds] = some (.tup ds) := rfl
theorem atI_nat {α : Type} {xs : List α} {i : Int} {x : α} (h0 : 0 ≤ i) (h : xs[i.toNat]? = some x) : atI xs i = some x := by
  have hlt : i.toNat < xs.length := (List.getElem?_eq_some_iff.mp h).1
  unfold atI ixN
  rw [if_pos h0, if_pos (by omega)]
  exact h
theorem gIx_lst {ds : List D} {i : Int} {d : D} (h0 : 0 ≤ i) (h : ds[i.toNat]? = some d) : gIx (.lst ds) (.int i) = some d := atI_nat h0 h
theorem gIx_tup {ds : List D} {i : Int} {d : D} (h0 : 0 ≤ i) (h : ds[i.toNat]? = some d) : gIx (.tup ds) (.int i) = some d := atI_nat h0 h
theorem gIx_frl {ds : List D} {i : Int} {d : D} (h0 : 0 ≤ i) (h : ds[i.toNat]? = some d) : gIx (.frl ds) (.int i) = some d := atI_nat h0 h
end Dn
end
section
set_option maxHeartbeats 4000000
/-! zip of a list and a tuple, in either place. -/
namespace Dn
open PySem PySem.Spec PyProof.Rows L2

/-- true: a tuple, false: a list -/
def KS (t : Bool) (K : PySem.W.Frag) (H : Hp) (a : Addr) (xs : List V) : Prop := match t with
  | true => SqT K H a xs
  | false => SqL K H a xs
def KSq (t : Bool) (h : Heap) (a : Addr) (its : Array Value) : Prop := match t with
  | true => h.IsTuple a its
  | false => h.IsList a its
def KIt (t : Bool) (h : Heap) (it a : Addr) (i : Nat) : Prop := match t with
  | true => h.IsTupleIter it a i
  | false => h.IsListIter it a i
theorem KIt.cell {t : Bool} {h : Heap} {it a : Addr} {i : Nat} (k : KIt t h it a i) : ∃ o, h.get? it = some o ∧ ∀ v, o.data ≠ .cell v := by
  cases t
  · obtain ⟨o, e, _, d⟩ := k
    exact ⟨o, e, fun v q => by rw [d] at q; cases q⟩
  · obtain ⟨o, e, _, d⟩ := k
    exact ⟨o, e, fun v q => by rw [d] at q; cases q⟩
theorem KIt.keep {t : Bool} {h h' : Heap} {it a : Addr} {i : Nat} (k : KIt t h it a i) (f : ∀ o, h.get? it = some o → h'.get? it = some o) : KIt t h' it a i := by
  cases t
  · exact Heap.IsListIter.at k f
  · exact Heap.IsTupleIter.at k f
theorem KSq.lt {t : Bool} {h : Heap} {a : Addr} {its : Array Value} (k : KSq t h a its) : a < h.objs.size := by
  cases t
  · obtain ⟨o, e, _⟩ := k
    exact Heap.lt_size e
  · obtain ⟨o, e, _⟩ := k
    exact Heap.lt_size e
theorem KS.inv {X : Cx} {pins : List (Addr × Obj)} {σ : L2.St} {H : Hp} {s : Shared} (I : Inv X pins σ H s) {t : Bool} {a : Addr} {xs : List V} (k : KS t X.K H a xs) : ∃ its : List Value, Vals xs its ∧ KSq t s.heap a its.toArray := by
  cases t
  · obtain ⟨its, rv, p, _⟩ := I.list k
    exact ⟨its, rv, p.isList⟩
  · obtain ⟨its, rv, p, _⟩ := I.tuple k
    exact ⟨its, rv, p⟩
theorem kDraws {prog : Program} {w : World} {A : Around} (hh : A.handled = none) (t : Bool) (it l : Addr) (hne : l ≠ it) (items : Array Value) :
    Draws prog w A it [it, l] items.size (fun i v => items[i]? = some v) (fun i h => KIt t h it l i ∧ KSq t h l items) := by
  cases t
  · exact Draws.list hh it l hne items
  · exact Draws.tuple hh it l hne items
def kObj (t : Bool) (l : Addr) : Obj := { cls := .type (if t then "tuple_iterator" else "list_iterator"), data := .fields #[.ref l, .int 0 0] }
theorem kBegins (t : Bool) (l : Addr) (items : Array Value) : Begins (.ref l) (kObj t l) fun h => KSq t h l items := by
  cases t
  · exact begins_list l items
  · exact begins_tuple l items
theorem kIt0 {t : Bool} {h : Heap} {it l : Addr} (e : h.get? it = some (kObj t l)) : KIt t h it l 0 := by
  cases t
  · exact ⟨_, e, rfl, rfl⟩
  · exact ⟨_, e, rfl, rfl⟩
theorem zsep {z TI TO i1 i2 a b : Addr} (D : ZipApart z TI TO i1 i2 a b) : ZipSep2 z TI TO i1 i2 [i1, a] [i2, b] where
  TIz := D.TIz
  TOz := D.TOz
  TITO := D.TITO
  TIi1 := D.TIi1
  mem1 := List.mem_cons_self
  zf1 := by simp only [List.mem_cons, List.not_mem_nil, or_false, not_or]; exact ⟨D.i1z.symm, D.l1z.symm⟩
  Tf1 := by simp only [List.mem_cons, List.not_mem_nil, or_false, not_or]; exact ⟨D.TOi1, D.l1TO.symm⟩
  TIi2 := D.TIi2
  mem2 := List.mem_cons_self
  zf2 := by simp only [List.mem_cons, List.not_mem_nil, or_false, not_or]; exact ⟨D.i2z.symm, D.l2z.symm⟩
  Tf2 := by simp only [List.mem_cons, List.not_mem_nil, or_false, not_or]; exact ⟨D.TOi2, D.l2TO.symm⟩
  sep1_2 := by simp only [List.mem_cons, List.not_mem_nil, or_false, not_or]; exact ⟨D.i12, D.l2i1.symm⟩
  sep2_1 := by simp only [List.mem_cons, List.not_mem_nil, or_false, not_or]; exact ⟨D.i12.symm, D.l1i2.symm⟩
/-- two sequences of any kind, the items in new pairs -/
def ItzM (K : PySem.W.Frag) (t u : Bool) (a b : Addr) (xs ys : List V) : It :=
  ⟨fun i H => KS t K H a xs ∧ KS u K H b ys ∧ i < xs.length ∧ i < ys.length,
    fun i H v H' => ∃ T x y, v = .ref T ∧ H T = none ∧ H' = upd H T (.tup [x, y]) ∧ xs[i]? = some x ∧ ys[i]? = some y,
    fun i H => KS t K H a xs ∧ KS u K H b ys ∧ (xs.length ≤ i ∨ ys.length ≤ i)⟩
theorem vals_back {xs : List V} {its : List Value} (rv : Vals xs its) {i : Nat} {v : Value} (h : its[i]? = some v) : ∃ x, xs[i]? = some x ∧ RelV x v := by
  have hl := rv.length
  have hi : i < its.length := (List.getElem?_eq_some_iff.mp h).1
  have e : xs[i]? = some (xs[i]'(by omega)) := List.getElem?_eq_getElem (by omega)
  obtain ⟨u, hu, ru⟩ := rv.get e
  rw [h] at hu
  cases hu
  exact ⟨_, e, ru⟩
theorem turn_zipM {P : Program} {w : World} {K : PySem.W.Frag} {elts : List Expr} {kk : Nat} {tpos : Pos} {t u : Bool} {a b z TI TO i1 i2 : Addr} {xs ys : List V} (D : ZipApart z TI TO i1 i2 a b) :
    Turn P w K (.Tuple elts kk tpos) (ItzM K t u a b xs ys) [z, TI, TO, i1, i2] z (fun i h => (i ≤ xs.length ∧ i ≤ ys.length) ∧ IsZip h z TI TO .none ∧ IsTupOf2 h TI (.ref i1) (.ref i2) ∧ (∃ x y, IsTupOf2 h TO x y) ∧ KIt t h i1 a i ∧ KIt u h i2 b i) where
  mem := List.mem_cons_self
  obj := fun i h st c hc => by
    obtain ⟨_, g1, g2, ⟨x, y, g3⟩, g4, g5⟩ := st
    have e' : c = z ∨ c = TI ∨ c = TO ∨ c = i1 ∨ c = i2 := by simpa only [List.mem_cons, List.not_mem_nil, or_false] using hc
    rcases e' with q | q | q | q | q <;> subst q
    · exact ⟨_, g1, fun v q => nomatch q⟩
    · exact ⟨_, g2, fun v q => nomatch q⟩
    · exact ⟨_, g3, fun v q => nomatch q⟩
    · exact g4.cell
    · exact g5.cell
  keep := fun i h h' st k => by
    obtain ⟨g0, g1, g2, ⟨x, y, g3⟩, g4, g5⟩ := st
    exact ⟨g0, k z (by simp) _ g1, k TI (by simp) _ g2, ⟨x, y, k TO (by simp) _ g3⟩, g4.keep (k i1 (by simp)), g5.keep (k i2 (by simp))⟩
  item := by
    intro X hP hw hK hc i pins s σ H E I hf st hg
    subst hP hw hK
    obtain ⟨g0, g1, g2, ⟨x0, y0, g3⟩, g4, g5⟩ := st
    obtain ⟨ka, kb, hx, hy⟩ := hg
    obtain ⟨its, rv, p⟩ := ka.inv I
    obtain ⟨its2, rv2, p2⟩ := kb.inv I
    have l1 := rv.length
    have l2 := rv2.length
    have hzl : z < s.heap.objs.size := Heap.lt_size g1
    have hd : X.A.in1.handled = none := I.ok.hd hc
    refine wpAny_pyNext_zipD2_item (zsep D) (kDraws hd t i1 a D.l1i1 its.toArray) (kDraws hd u i2 b D.l2i2 its2.toArray) g1 g2 g3 ⟨g4, p⟩ ⟨g5, p2⟩ (by rw [List.size_toArray]; omega) (by rw [List.size_toArray]; omega) fun v1 v2 h' tk e1 e2 n1 n2 n3 n4 n5 n6 n7 => ?_
    obtain ⟨x, hvx, rx⟩ := vals_back rv (by simpa using e1)
    obtain ⟨y, hvy, ry⟩ := vals_back rv2 (by simpa using e2)
    refine ⟨_, rfl, wpAny_letOwnedTupleGo_zip (s := { s with heap := h', toks := tk }) n1 fun h'' z'' sb => ?_⟩
    have hT2 : h''.get? s.heap.objs.size = some { cls := .type "tuple", data := .seq #[v1, v2] } := (sb.2 _ (Nat.ne_of_gt hzl)).trans n5
    have new : ObjOk X.prog X.w (upd H s.heap.objs.size (.tup [x, y])) h'' s.heap.objs.size (.tup [x, y]) :=
      ⟨by show 2 ≤ sizeLine; decide, [v1, v2], .cons rx (.cons ry .nil), ⟨_, hT2, rfl, _, rfl⟩⟩
    have I1 : Inv X pins σ (upd H s.heap.objs.size (.tup [x, y])) { s with heap := h'', toks := tk } :=
      I.turnedNew (ch := [z, TI, TO, i1, i2]) (fun c o hb q => (sb.2 c (fun q' => hb (by simp [q']))).trans (n7 c o (fun q' => hb (by simp [q'])) (fun q' => hb (by simp [q'])) (fun q' => hb (by simp [q'])) (fun q' => hb (by simp [q'])) q)) hf (Nat.le_refl _) new
    refine ⟨.ref s.heap.objs.size, _, I1, rfl, ⟨_, x, y, rfl, I.hok.fresh (Nat.le_refl _), rfl, hvx, hvy⟩, ⟨⟨hx, hy⟩, z'', ?_, ⟨v1, v2, ?_⟩, ?_, ?_⟩, fun c hcm => ?_⟩
    · exact (sb.2 _ D.TIz).trans (n7 _ _ D.TIz D.TITO D.TIi1 D.TIi2 g2)
    · exact (sb.2 _ D.TOz).trans n2
    · exact n3.1.keep fun o q => (sb.2 _ D.i1z).trans q
    · exact n4.1.keep fun o q => (sb.2 _ D.i2z).trans q
    · have hlt : c < s.heap.objs.size := by
        have e' : c = z ∨ c = TI ∨ c = TO ∨ c = i1 ∨ c = i2 := by simpa only [List.mem_cons, List.not_mem_nil, or_false] using hcm
        rcases e' with q | q | q | q | q <;> subst q
        · exact hzl
        · exact Heap.lt_size g2
        · exact Heap.lt_size g3
        · obtain ⟨_, e, _⟩ := g4.cell
          exact Heap.lt_size e
        · obtain ⟨_, e, _⟩ := g5.cell
          exact Heap.lt_size e
      rw [upd_ne (Nat.ne_of_lt hlt)]
      exact (hf c hcm).1
  done := by
    intro X hP hw hK hc i pins s σ H E I hf st hg
    subst hP hw hK
    obtain ⟨g0, g1, g2, ⟨x0, y0, g3⟩, g4, g5⟩ := st
    obtain ⟨ka, kb, hend⟩ := hg
    obtain ⟨its, rv, p⟩ := ka.inv I
    obtain ⟨its2, rv2, p2⟩ := kb.inv I
    have l1 := rv.length
    have l2 := rv2.length
    have hd : X.A.in1.handled = none := I.ok.hd hc
    exact wpAny_pyNext_zipD2_end (zsep D) (kDraws hd t i1 a D.l1i1 its.toArray) (kDraws hd u i2 b D.l2i2 its2.toArray) g1 g2 g3 ⟨g4, p⟩ ⟨g5, p2⟩ (by rw [List.size_toArray]; omega) (by rw [List.size_toArray]; omega) (by rw [List.size_toArray, List.size_toArray]; omega) fun h' tk hk =>
      ⟨rfl, I.turnedL (ch := [z, TI, TO, i1, i2]) (fun c o hb q => hk c o (fun q' => hb (by simp [q'])) (fun q' => hb (by simp [q'])) (fun q' => hb (by simp [q'])) (fun q' => hb (by simp [q'])) q) hf⟩
  self := fun A i s Q E st h => wpAny_pyIter_zip st.2.1 h
def iZipM (K : PySem.W.Frag) (ta : TA) : TI := fun σ H R => ta σ H fun vs H1 => ∃ a b t u xs ys, vs = [.ref a, .ref b] ∧ KS t K H1 a xs ∧ KS u K H1 b ys ∧ R (ItzM K t u a b xs ys) H1
theorem fp_new {X : Cx} {pins : List (Addr × Obj)} {σ : L2.St} {H : Hp} {s : Shared} (I : Inv X pins σ H s) {l : List Addr} (h : ∀ c ∈ l, s.heap.objs.size ≤ c) : ∀ c ∈ l, FpOk X pins H c := fun c hc => I.fpOk (h c hc) (I.hok.fresh (h c hc))
theorem pi_zipM {X : Cx} {e e2 : Expr} {ta : TA} {p pos tpos : Pos} {elts : List Expr} {kk : Nat} (hg : Gl X "zip") (hm : X.mg "zip" = none) (ha : PA X [e, e2] ta)
    (hs : starEach [e, e2] X.env = (false, eval e X.env) :: starEach [e2] X.env := by rfl) (hpl : (backTo pos (starEach [e2] X.env)).any (·.1) = false := by rfl) :
    PI X (.Tuple elts kk tpos) (.Call (.Name "zip" p) [e, e2] [] pos) (iZipM X.K ta) := by
  refine ⟨fun pins s σ H R I h => ?_⟩
  refine Call_ (ld_blt I hg hm PyProof.Rows.boot_zip (PyProof.Rows.callWith_type1 (thn (ha.run pos pins s σ H _ I h) fun us s1 hv => ?_) hs hpl))
  obtain ⟨vs, H1, I1, r1, a, b, t, u, xs, ys, ex, ka, kb, q⟩ := hv
  subst ex
  cases r1 with
  | cons r rr =>
    cases rr with
    | cons r' rr =>
      cases rr
      cases r
      cases r'
      obtain ⟨its, rv, p1⟩ := ka.inv I1
      obtain ⟨its2, rv2, p2⟩ := kb.inv I1
      refine zip_begins2 (kBegins t a its.toArray) (kBegins u b its2.toArray) p1 p2 fun h' hz hTI hTO h1 h2 hsz hk => wpAny_pyIter_zip hz ?_
      have I2 : Inv X pins σ H1 { s1 with heap := h' } := I1.kept (t' := s1.toks) hk
      refine ⟨s1.heap.objs.size + 4, [s1.heap.objs.size + 4, s1.heap.objs.size + 2, s1.heap.objs.size + 3, s1.heap.objs.size, s1.heap.objs.size + 1], _, _, H1, rfl, I2, turn_zipM (PySem.W.ktu_apart s1.heap.objs.size a b p1.lt p2.lt), ⟨⟨Nat.zero_le _, Nat.zero_le _⟩, hz, hTI, ⟨_, _, hTO⟩, kIt0 h1, kIt0 h2⟩, fp_new I1 fun c hc => ?_, q⟩
      simp only [List.mem_cons, List.not_mem_nil, or_false] at hc
      rcases hc with q' | q' | q' | q' | q' <;> rw [q'] <;> first | exact Nat.le_add_right _ _ | exact Nat.le_refl _
/-- a list or a tuple, its items -/
def seqZ : D → Option (List D)
  | .lst xs => some xs
  | .tup xs => some xs
  | .frl xs => some xs
  | _ => none
theorem seqZ_ks {K : PySem.W.Frag} {F : Hp} {v : V} {d : D} {ds : List D} (r : Rp K F v d) (h : seqZ d = some ds) : ∃ a t xs, v = .ref a ∧ KS t K F a xs ∧ RpA K F xs ds := by
  cases r with
  | lst h1 h2 =>
    cases h
    exact ⟨_, false, _, rfl, .inl (.inl h1), h2⟩
  | tup h1 h2 =>
    cases h
    exact ⟨_, true, _, rfl, h1, h2⟩
  | frl h1 h2 =>
    cases h
    exact ⟨_, false, _, rfl, h1, h2⟩
  | _ => cases h
theorem KS.ex {K : PySem.W.Frag} {H H' : Hp} {t : Bool} {a : Addr} {xs : List V} (e : Ex H H') (k : KS t K H a xs) : KS t K H' a xs := by
  cases t
  · exact e.l k
  · exact e.t k
theorem jok_zipM {K : PySem.W.Frag} {F : Hp} {t u : Bool} {a b : Addr} {xs ys : List V} {ds es : List D} (h : KS t K F a xs) (h' : KS u K F b ys) (r : RpA K F xs ds) (r' : RpA K F ys es) : JOk K (ItzM K t u a b xs ys) F (List.zipWith pairD ds es) := fun F1 H i e1 e2 => by
  have hs := h.ex (e1.trans e2)
  have hs' := h'.ex (e1.trans e2)
  refine ⟨fun d hd => ?_, fun hd => ⟨hs, hs', by rw [r.length, r'.length]; exact zip_none hd⟩⟩
  obtain ⟨x, y, hx, hy, rfl⟩ := zip_some hd
  obtain ⟨v, h1, h2⟩ := r.get hx
  obtain ⟨w, h3, h4⟩ := r'.get hy
  refine ⟨⟨hs, hs', (List.getElem?_eq_some_iff.mp h1).1, (List.getElem?_eq_some_iff.mp h3).1⟩, fun z H' ⟨T, p, q, ez, nT, eH, f1, f2⟩ => ?_⟩
  subst ez
  subst eH
  rw [h1] at f1
  cases f1
  rw [h3] at f2
  cases f2
  have g := Grow.new (o := .tup [v, w]) e2 nT
  exact ⟨_, g, .tup (.inl (.inl upd_same)) (.cons ((h2.mono e1).mono g.e1) (.cons ((h4.mono e1).mono g.e1) .nil))⟩
def IZipM (fa : FA) : FA := fun ρ => bnd (fa ρ) fun ds ρ1 => match ds with
  | [x, y] => match seqZ x, seqZ y with
    | some xs, some ys => some (List.zipWith pairD xs ys, ρ1)
    | _, _ => none
  | _ => none
section
variable {X : Cx} {pos : Pos}
theorem gi_zipM {e e2 : Expr} {fa : FA} {p tpos : Pos} {elts : List Expr} {kk : Nat} (ha : GA X [e, e2] fa) (hm : X.mg "zip" = none) (hg : Gl X "zip" := by rfl)
    (hs : starEach [e, e2] X.env = (false, eval e X.env) :: starEach [e2] X.env := by rfl) (hpl : (backTo pos (starEach [e2] X.env)).any (·.1) = false := by rfl) : GI X (.Tuple elts kk tpos) (.Call (.Name "zip" p) [e, e2] [] pos) (IZipM fa) := by
  obtain ⟨ta, a, b⟩ := ha
  refine ⟨_, pi_zipM hg hm a hs hpl, fun pa w σ ds ρ' R h R' q => ?_⟩
  obtain ⟨es, ρ1, e1, h2⟩ := bnd_eq h
  refine b pa w σ es ρ1 R e1 _ fun w1 vs R1 p1 s1 r1 => ?_
  split at h2
  case h_2 => cases h2
  rename_i x y
  split at h2
  case h_2 => cases h2
  rename_i xs ys z1 z2
  obtain ⟨q1, q2⟩ := Prod.mk.inj (Option.some.inj h2)
  subst q1
  subst q2
  cases r1 with
  | cons r rr =>
    cases rr with
    | cons r' rr =>
      cases rr
      obtain ⟨a, t, us, rfl, k1, k2⟩ := seqZ_ks r z1
      obtain ⟨b, u, ws, rfl, k3, k4⟩ := seqZ_ks r' z2
      exact ⟨a, b, t, u, us, ws, rfl, k1.ex R1.ex, k3.ex R1.ex, q w1 _ R1 p1 s1 (jok_zipM k1 k3 k2 k4)⟩
end

/-! ### a, b = x, y (all plain names: stored without a tuple) -/
def SPar2 (i j : Nat) (fa : FA) : FS := fun ρ => bnd (fa ρ) fun ds ρ1 => match ds with
  | [d, e] => if i < ρ1.length ∧ j < ρ1.length then some (.nx, (ρ1.set i (.fz d)).set j (.fz e)) else none
  | _ => none
def SPar3 (i j l : Nat) (fa : FA) : FS := fun ρ => bnd (fa ρ) fun ds ρ1 => match ds with
  | [d, e, f] => if i < ρ1.length ∧ j < ρ1.length ∧ l < ρ1.length then some (.nx, ((ρ1.set i (.fz d)).set j (.fz e)).set l (.fz f)) else none
  | _ => none
section
variable {X : Cx}
theorem good_par2 {K : PySem.W.Frag} {i j : Nat} {ta : TA} {fa : FA} (ha : GoodA K ta fa) : GoodS K (tPar i j ta) (SPar2 i j fa) := fun pa w σ o ρ' R h E q => by
  obtain ⟨ds, ρ1, e1, h2⟩ := bnd_eq h
  refine ha pa w σ ds ρ1 R e1 _ fun w1 vs R1 p1 s1 r1 => ?_
  subst p1
  split at h2
  case h_2 => cases h2
  rename_i d e
  split at h2
  case isFalse => cases h2
  rename_i hl
  obtain ⟨q1, q2⟩ := Prod.mk.inj (Option.some.inj h2)
  subst q1
  subst q2
  cases r1 with
  | cons r rr =>
    cases rr with
    | cons r' rr =>
      cases rr
      obtain ⟨R2, s2⟩ := R1.store r hl.1
      obtain ⟨R3, s3⟩ := R2.store (i := j) (r'.mono s2.ex) (by rw [List.length_set]; exact hl.2)
      exact ⟨_, _, rfl, q ⟨w1.F, w1.H, w1.al, (w1.ρ.set i (.fz d)).set j (.fz e)⟩ _ R3 rfl (s1.trans (s2.trans s3))⟩
theorem gs_par2 (i j : Nat) {x y : Str} {a b : Expr} {fa : FA} {px py pt pos : Pos} {kt k2 : Nat} {pt2 : Pos} (hN : X.N.Nodup) (ha : GA X [a, b] fa) (hij : i ≠ j := by decide) (hc : X.calm = true := by rfl) (hi : X.N[i]? = some x := by rfl) (hj : X.N[j]? = some y := by rfl)
    (hx : X.env.scope.names.lookup x = some .local := by rfl) (hy : X.env.scope.names.lookup y = some .local := by rfl)
    (hw : swappedStores [.Tuple [.Name x px, .Name y py] kt pt] (.Tuple [a, b] k2 pt2) X.env = pure (some [x, y]) := by rfl)
    (hs : swapsWithSole [.Tuple [.Name x px, .Name y py] kt pt] (.Tuple [a, b] k2 pt2) pos.line X.env = pure false := by rfl) :
    GS X (.Assign [.Tuple [.Name x px, .Name y py] kt pt] (.Tuple [a, b] k2 pt2) pos) (SPar2 i j fa) := let ⟨_, c, d⟩ := ha; ⟨_, ps_par hc hN hi hj hij hx hy c hw hs, good_par2 d⟩
theorem good_par3 {K : PySem.W.Frag} {i j l : Nat} {ta : TA} {fa : FA} (ha : GoodA K ta fa) : GoodS K (tPar3 i j l ta) (SPar3 i j l fa) := fun pa w σ o ρ' R h E q => by
  obtain ⟨ds, ρ1, e1, h2⟩ := bnd_eq h
  refine ha pa w σ ds ρ1 R e1 _ fun w1 vs R1 p1 s1 r1 => ?_
  subst p1
  split at h2
  case h_2 => cases h2
  rename_i d e f
  split at h2
  case isFalse => cases h2
  rename_i hl
  obtain ⟨q1, q2⟩ := Prod.mk.inj (Option.some.inj h2)
  subst q1
  subst q2
  cases r1 with
  | cons r rr =>
    cases rr with
    | cons r' rr =>
      cases rr with
      | cons r'' rr =>
        cases rr
        obtain ⟨R2, s2⟩ := R1.store r hl.1
        obtain ⟨R3, s3⟩ := R2.store (i := j) (r'.mono s2.ex) (by rw [List.length_set]; exact hl.2.1)
        obtain ⟨R4, s4⟩ := R3.store (i := l) ((r''.mono s2.ex).mono s3.ex) (by rw [List.length_set, List.length_set]; exact hl.2.2)
        exact ⟨_, _, _, rfl, q ⟨w1.F, w1.H, w1.al, ((w1.ρ.set i (.fz d)).set j (.fz e)).set l (.fz f)⟩ _ R4 rfl (s1.trans (s2.trans (s3.trans s4)))⟩
theorem gs_par3 (i j l : Nat) {x y z : Str} {a b c : Expr} {fa : FA} {px py pz pt pos : Pos} {kt k2 : Nat} {pt2 : Pos} (hN : X.N.Nodup) (ha : GA X [a, b, c] fa) (hij : i ≠ j := by decide) (hil : i ≠ l := by decide) (hjl : j ≠ l := by decide) (hc : X.calm = true := by rfl) (hi : X.N[i]? = some x := by rfl) (hj : X.N[j]? = some y := by rfl) (hl : X.N[l]? = some z := by rfl)
    (hx : X.env.scope.names.lookup x = some .local := by rfl) (hy : X.env.scope.names.lookup y = some .local := by rfl) (hz : X.env.scope.names.lookup z = some .local := by rfl)
    (hw : swappedStores [.Tuple [.Name x px, .Name y py, .Name z pz] kt pt] (.Tuple [a, b, c] k2 pt2) X.env = pure (some [x, y, z]) := by rfl)
    (hs : swapsWithSole [.Tuple [.Name x px, .Name y py, .Name z pz] kt pt] (.Tuple [a, b, c] k2 pt2) pos.line X.env = pure false := by rfl) :
    GS X (.Assign [.Tuple [.Name x px, .Name y py, .Name z pz] kt pt] (.Tuple [a, b, c] k2 pt2) pos) (SPar3 i j l fa) := let ⟨_, c, d⟩ := ha; ⟨_, ps_par3 hc hN hi hj hl hij hil hjl hx hy hz c hw hs, good_par3 d⟩
end
end Dn
end
section
/-! The pure side of the laws over tables: pots, places, weights, tables folded (of no law of its own). -/
namespace Dn
open PySem PySem.Spec PyProof.Rows L2
set_option maxHeartbeats 1000000
/-- a pot after at most k takes -/
def Pot (k : Nat) (ds : List D) : Prop := ∃ x y z : Int, ds = [.int x, .int y, .int z] ∧ 0 ≤ x ∧ x < 10 ^ 300 ∧ 0 ≤ y ∧ y < 2305843009213693921 ∧ 0 ≤ z ∧ z ≤ k
theorem gPow_int {i j : Int} (k : Nat) (hj : 0 ≤ j) (h : i.natAbs < 2 ^ k) (hk : 0 < k) (hs : (k : Int) * j ≤ 134217728) : gPow (.int i) (.int j) = some (.int (i ^ j.toNat)) := by
  refine if_pos ⟨hj, ?_⟩
  have h1 := log2_lt_of h hk
  have e : (Builtin.Int.intBits i : Int) ≤ k := by
    unfold Builtin.Int.intBits
    split <;> omega
  have : (Builtin.Int.intBits i : Int) * j ≤ (k : Int) * j := Int.mul_le_mul_of_nonneg_right e hj
  show _ ≤ (2 ^ 27 : Int)
  omega
theorem prs (j : Int) (h : 0 ≤ j) (h2 : j < 5) : ∃ q : Int, gIx (.lst [.int 2147483647, .int 2147483629, .int 2147483587, .int 2147483579, .int 2147483563]) (.int j) = some (.int q) ∧ 2147483563 ≤ q ∧ q ≤ 2147483647 := by
  have : j = 0 ∨ j = 1 ∨ j = 2 ∨ j = 3 ∨ j = 4 := by omega
  rcases this with rfl | rfl | rfl | rfl | rfl
  · exact ⟨_, rfl, by decide, by decide⟩
  · exact ⟨_, rfl, by decide, by decide⟩
  · exact ⟨_, rfl, by decide, by decide⟩
  · exact ⟨_, rfl, by decide, by decide⟩
  · exact ⟨_, rfl, by decide, by decide⟩
theorem pow300 : gPow (.int 10) (.int 60) = some (.int (10 ^ 60)) := by
  have := gPow_int (i := 10) (j := 60) 4 (by decide) (by decide) (by decide) (by decide)
  exact this
set_option exponentiation.threshold 2000
theorem pow300b : gPow (.int (10 ^ 60)) (.int 5) = some (.int (10 ^ 300)) := by
  have := gPow_int (i := 10 ^ 60) (j := 5) 200 (by decide) (by decide) (by decide) (by decide)
  rw [this]
  congr 2
theorem pow18 : gPow (.int 10) (.int 18) = some (.int (10 ^ 18)) := by
  have := gPow_int (i := 10) (j := 18) 4 (by decide) (by decide) (by decide) (by decide)
  exact this
theorem gSl_frl1 (ns : List Int) : gSl (.frl (ns.map D.int)) none (some 1) = some (.lst ((ns.take 1).map D.int)) := by
  show some (D.lst (cutD (ns.map D.int) none (some 1))) = _
  unfold cutD
  rw [HT.sIx_none, show (some (1 : Int)) = some ((1 : Nat) : Int) from rfl, HT.sIx_nat, List.drop_zero, Nat.sub_zero, List.length_map]
  cases ns with
  | nil => rfl
  | cons n ns => rw [List.length_cons, Nat.min_eq_left (by omega), ← List.map_take]
theorem abs_mod (c : Int) : 0 ≤ (if c < 0 then -c else c) % 10 ^ 300 ∧ (if c < 0 then -c else c) % 10 ^ 300 < 10 ^ 300 := ⟨Int.emod_nonneg _ (by decide), Int.emod_lt_of_pos _ (by decide)⟩
theorem pow_lt : (10 ^ 300 : Int) < ((2 ^ 1000 : Nat) : Int) := by decide
theorem pow_pos300 : (0 : Int) < 10 ^ 300 := by decide
theorem gAbs_int (c : Int) : gAbs [.int c] = some (.int (if c < 0 then -c else c)) := rfl
theorem LComp_eq {vs : List Nat} {it : FA} {g : FT} {c : FB} {elt : FE} {ρ ρ1 ρ2 : List Sl} {ds out : List D} (h : it ρ = some (ds, ρ1)) (hl : ds.length ≤ 16777216) (hc : CLoop vs g c elt ds (wipeS ρ1 vs) = some (out, ρ2)) :
    LComp vs it g c elt ρ = some (out, backS ρ1 ρ2 vs) := by
  unfold LComp
  rw [h, bnd_some, if_pos hl, hc, bnd_some]
theorem SFor_eq {it : FA} {g : FT} {body : FS} {ρ ρ1 : List Sl} {ds : List D} {x : Option (Ou × List Sl)} (h : it ρ = some (ds, ρ1)) (hl : SLoop g body ds ρ1 = x) : SFor it g body ρ = x := by
  unfold SFor
  rw [h, bnd_some, hl]
theorem SSeq_nx {f g : FS} {ρ ρ1 : List Sl} {x : Option (Ou × List Sl)} (h : f ρ = some (.nx, ρ1)) (h2 : g ρ1 = x) : SSeq f g ρ = x := by
  unfold SSeq
  rw [h, bnd_some]
  exact h2
theorem fDef_ret {m n : Nat} {body : FS} {ρ ρ0 ρe l : List Sl} {d : D} (hl : ρ.length = m) (h0 : ρ ++ List.replicate (n - m) .un = ρ0) (hb : body ρ0 = some (.ret d, ρe)) (ho : outs 0 ρ ρe = some l) : fDef m n body ρ = some (.d d, l) := by
  unfold fDef
  rw [if_pos hl, h0, hb]
  show (outs 0 ρ ρe).map _ = _
  rw [ho]
  rfl
theorem Pot.up {k l : Nat} {ds : List D} (h : Pot k ds) (hl : k ≤ l) : Pot l ds := by
  obtain ⟨x, y, z, e, a, b, c, d, f, g⟩ := h
  exact ⟨x, y, z, e, a, b, c, d, f, by omega⟩
/-- residues -/
def Rz (p : Int) (ts : List Int) : Prop := ∀ t ∈ ts, 0 ≤ t ∧ t < p
abbrev T (q : List Int) : D := .tup (q.map D.int)
theorem rng_ok {i : Nat} {n : Int} {ρ : List Sl} (f : FE) (h : f ρ = some (.int n, ρ)) (h0 : 0 ≤ n) (h1 : n < 1000000) : IRange1 (ACons f ANil) ρ = some ((List.range n.toNat).map fun i => D.int (i : Nat), ρ) := by
  unfold IRange1
  rw [show ACons f ANil ρ = some ([.int n], ρ) from by unfold ACons ANil; rw [h]; rfl, bnd_some]
  dsimp only
  rw [if_pos ⟨by omega, by omega⟩, rngD_eq]
/-- bits -/
def Bs (q : List Int) : Prop := ∀ b ∈ q, b = 0 ∨ b = 1
/-- the weight, name by name -/
def stW (p : Int) (w : Int) (x : Int × Int) : Int := (w * (if x.1 = 1 then x.2 else 1 - x.2)) % p
def wt (p c : Int) (q t : List Int) : Int := (List.zip q t).foldl (stW p) c
/-- all places -/
def pl : Nat → List (List Int)
  | 0 => [[]]
  | n + 1 => (pl n).map (fun q => 0 :: q) ++ (pl n).map (fun q => 1 :: q)
def snoc (ps : List (List Int)) : List (List Int) := (ps.map fun q => [q ++ [0], q ++ [1]]).flatten
theorem snoc_append (a b : List (List Int)) : snoc (a ++ b) = snoc a ++ snoc b := by
  unfold snoc
  rw [List.map_append, List.flatten_append]
theorem snoc_cons (x : Int) : ∀ ps : List (List Int), snoc (ps.map fun q => x :: q) = (snoc ps).map fun q => x :: q
  | [] => rfl
  | q :: ps => by
    have ih := snoc_cons x ps
    unfold snoc at ih ⊢
    rw [List.map_cons, List.map_cons, List.map_cons, List.flatten_cons, List.flatten_cons, ih, List.map_append]
    rfl
theorem pl_snoc : ∀ n : Nat, snoc (pl n) = pl (n + 1)
  | 0 => rfl
  | n + 1 => by
    show snoc ((pl n).map (fun q => 0 :: q) ++ (pl n).map (fun q => 1 :: q)) = (pl (n + 1)).map (fun q => 0 :: q) ++ (pl (n + 1)).map (fun q => 1 :: q)
    rw [snoc_append, snoc_cons, snoc_cons, pl_snoc n]
theorem pl_length : ∀ n : Nat, (pl n).length = 2 ^ n
  | 0 => rfl
  | n + 1 => by
    show ((pl n).map (fun q => 0 :: q) ++ (pl n).map (fun q => 1 :: q)).length = _
    rw [List.length_append, List.length_map, List.length_map, pl_length n, Nat.pow_succ]
    omega
theorem pl_mem : ∀ (n : Nat) (q : List Int), q ∈ pl n → q.length = n ∧ Bs q
  | 0, q, h => by
    rw [List.mem_singleton.mp h]
    exact ⟨rfl, fun b hb => absurd hb List.not_mem_nil⟩
  | n + 1, q, h => by
    rcases List.mem_append.mp h with h | h
    all_goals
      obtain ⟨r, hr, rfl⟩ := List.mem_map.mp h
      obtain ⟨h1, h2⟩ := pl_mem n r hr
      refine ⟨by rw [List.length_cons, h1], fun b hb => ?_⟩
      cases hb with
      | head => first | exact .inl rfl | exact .inr rfl
      | tail _ hb => exact h2 b hb
theorem pow_le {n : Nat} (h : n ≤ 6) : 2 ^ n ≤ 64 := Nat.pow_le_pow_right (by decide) h
theorem gAdd_T {q r : List Int} (h : q.length + r.length ≤ 16777216) : gAdd (T q) (.tup (r.map D.int)) = some (T (q ++ r)) := by
  show (if (q.map D.int).length + (r.map D.int).length ≤ 16777216 then some (D.tup (q.map D.int ++ r.map D.int)) else none) = _
  rw [List.length_map, List.length_map, if_pos h, ← List.map_append]
theorem places_inner {n : Int} : ∀ (ps : List (List Int)) (acc : List D) (s1 s2 s4 : Sl), acc.length + 2 * ps.length ≤ 1000 → (∀ q ∈ ps, q.length ≤ 1000) → ∃ s4', SLoop (TName 4) (SDrop (FExt 3 (LDisp (ACons (FBin gAdd (FVar 4) (FTup (ACons (FC (.int 0)) ANil))) (ACons (FBin gAdd (FVar 4) (FTup (ACons (FC (.int 1)) ANil))) ANil))))) (ps.map T) [.fz (.int n), s1, s2, .ow none acc, s4] = some (.nx, [.fz (.int n), s1, s2, .ow none (acc ++ (snoc ps).map T), s4'])
  | [], acc, s1, s2, s4, _, _ => ⟨s4, by rw [show (snoc []).map T = [] from rfl, List.append_nil]; rfl⟩
  | q :: ps, acc, s1, s2, s4, h, hq => by
    rw [List.length_cons] at h
    have hq1 := hq q List.mem_cons_self
    obtain ⟨s4', e⟩ := places_inner ps (acc ++ [T (q ++ [0]), T (q ++ [1])]) s1 s2 (.fz (T q)) (by rw [List.length_append]; simp only [List.length_cons, List.length_nil]; omega) fun r hr => hq r (List.mem_cons_of_mem _ hr)
    refine ⟨s4', ?_⟩
    have a0 := gAdd_T (q := q) (r := [0]) (by simp only [List.length_cons, List.length_nil]; omega)
    have a1 := gAdd_T (q := q) (r := [1]) (by simp only [List.length_cons, List.length_nil]; omega)
    simp only [List.map_cons, List.map_nil] at a0 a1
    have hl : acc.length + 2 ≤ 16777216 := by omega
    rw [List.map_cons]
    unfold SLoop
    rw [show TName 4 (T q) [.fz (.int n), s1, s2, .ow none acc, s4] = some [.fz (.int n), s1, s2, .ow none acc, .fz (T q)] from rfl]
    dsimp only
    rw [show SDrop (FExt 3 (LDisp (ACons (FBin gAdd (FVar 4) (FTup (ACons (FC (.int 0)) ANil))) (ACons (FBin gAdd (FVar 4) (FTup (ACons (FC (.int 1)) ANil))) ANil)))) [.fz (.int n), s1, s2, .ow none acc, .fz (T q)] = some (.nx, [.fz (.int n), s1, s2, .ow none (acc ++ [T (q ++ [0]), T (q ++ [1])]), .fz (T q)]) from by
      simp only [a0, a1, hl, bnd_some, lft_some, SSeq, SAsg, SRet, SRetL, SRetN, SIf, SPar2, SPar3, SFor, SDrop, SOwn, SNx, FVar, FFrz, FC, FBin, FUn, FCall, FChain, FAnd, FOr, FNot, FIf, FTup, FLst, FSl, ONone, OSome, FIxO, FExt, FOf, FCallE, FCallL, FCallK, BVal, BAnd, BOr, BNot, BYes, LDisp, ISeq, IZip, IZipM, seqZ, TName, TTup, TCons, TNil, ANil, ACons, GAll, GVar, GFr, callR, parS, wipeS, backS, List.getElem?_cons_zero, List.getElem?_cons_succ, List.getElem?_nil, List.set_cons_zero, List.set_cons_succ, List.length_cons, List.length_nil, List.map_cons, List.map_nil, List.nil_append, List.cons_append, List.append_nil, List.length_append, Option.map_some, Option.map_none, Option.bind_some, Option.some.injEq, Bool.false_eq_true, if_true, if_false, reduceIte, Bool.not_true, Bool.not_false, Nat.reduceLT, Nat.reduceAdd, Nat.reduceLeDiff, Nat.zero_add, decide_true, decide_false, true_and, false_and, and_true, and_self, gLt_int, gLe_int, gGt_int, gGe_int, gAdd_int, gSub_int, gInt_int, gInt_bl, gLen_tup, gLen_lst, gLen_frl, gTuple_lst, gTuple_tup, gEq_int, gNe_int, isi_int_int, isi_int_bool, isi_tup_tup, fDef, fEnd, outs, List.replicate, Nat.sub_self, Nat.reduceSub, not_true_eq_false, not_false_eq_true]]
    rw [bnd_some]
    dsimp only
    rw [e, List.append_assoc]
    rfl
/-- a table folded by a residue -/
def fo (p : Int) (tb : List Int) (r : Int) : List Int := (List.zip (tb.take (tb.length / 2)) (tb.drop (tb.length / 2))).map fun x => (x.1 + r * (x.2 - x.1)) % p
theorem gSl_lo (q : List Int) (k : Nat) (hk : k ≤ q.length) : gSl (T q) none (some (k : Int)) = some (T (q.take k)) := by
  show some (D.tup (cutD (q.map D.int) none (some (k : Int)))) = _
  unfold cutD
  rw [HT.sIx_none, HT.sIx_nat, List.drop_zero, Nat.sub_zero, List.length_map, Nat.min_eq_left hk, ← List.map_take]
theorem gSl_hi (q : List Int) (k : Nat) (hk : k ≤ q.length) : gSl (T q) (some (k : Int)) none = some (T (q.drop k)) := by
  show some (D.tup (cutD (q.map D.int) (some (k : Int)) none)) = _
  unfold cutD
  rw [HT.sIx_none, HT.sIx_nat, List.length_map, Nat.min_eq_left hk, ← List.map_drop]
  rw [List.take_of_length_le (by rw [List.length_map, List.length_drop]; omega)]
theorem fo_Rs {p r : Int} {tb : List Int} (hp : 0 < p) : Rz p (fo p tb r) := fun x hx => by
  obtain ⟨y, _, rfl⟩ := List.mem_map.mp hx
  exact ⟨Int.emod_nonneg _ (by omega), Int.emod_lt_of_pos _ hp⟩
theorem fo_length (p r : Int) (tb : List Int) : (fo p tb r).length = tb.length / 2 := by
  unfold fo
  rw [List.length_map, List.length_zip, List.length_take, List.length_drop]
  omega
/-- the place with a number -/
def pq : Nat → Nat → List Int
  | 0, _ => []
  | n + 1, i => if i < 2 ^ n then 0 :: pq n i else 1 :: pq n (i - 2 ^ n)
theorem pq_lo {n i : Nat} (h : i < 2 ^ n) : pq (n + 1) i = 0 :: pq n i := if_pos h
theorem pq_hi {n i : Nat} (h : ¬ i < 2 ^ n) : pq (n + 1) i = 1 :: pq n (i - 2 ^ n) := if_neg h
theorem pl_at : ∀ (n i : Nat), i < 2 ^ n → (pl n)[i]? = some (pq n i)
  | 0, i, h => by
    have : i = 0 := by omega
    subst this
    rfl
  | n + 1, i, h => by
    show ((pl n).map (fun q => 0 :: q) ++ (pl n).map (fun q => 1 :: q))[i]? = _
    rw [Nat.pow_succ] at h
    by_cases hi : i < 2 ^ n
    · rw [List.getElem?_append_left (by rw [List.length_map, pl_length]; exact hi), List.getElem?_map, pl_at n i hi, pq_lo hi]
      rfl
    · rw [List.getElem?_append_right (by rw [List.length_map, pl_length]; omega), List.getElem?_map, List.length_map, pl_length, pl_at n (i - 2 ^ n) (by omega), pq_hi hi]
      rfl
theorem pl_range (n : Nat) : pl n = (List.range (2 ^ n)).map (pq n) := by
  refine List.ext_getElem? fun i => ?_
  by_cases h : i < 2 ^ n
  · rw [pl_at n i h, List.getElem?_map, List.getElem?_range h]
    rfl
  · rw [List.getElem?_eq_none (by rw [pl_length]; omega), List.getElem?_eq_none (by rw [List.length_map, List.length_range]; omega)]
theorem pq_mem {n i : Nat} (h : i < 2 ^ n) : pq n i ∈ pl n := List.mem_of_getElem? (pl_at n i h)
theorem wt_cons (p c : Int) (b r : Int) (q t : List Int) : wt p c (b :: q) (r :: t) = wt p (stW p c (b, r)) q t := rfl
theorem stW0 (p c r : Int) : stW p c (0, r) = (c * (1 - r)) % p := rfl
theorem stW1 (p c r : Int) : stW p c (1, r) = (c * r) % p := rfl
theorem stW_range {p c : Int} {x : Int × Int} (hp : 0 < p) : 0 ≤ stW p c x ∧ stW p c x < p := ⟨Int.emod_nonneg _ (by omega), Int.emod_lt_of_pos _ hp⟩
/-- all weights together -/
theorem wt_sum (p : Int) : ∀ (n : Nat) (c : Int) (t : List Int), t.length = n → ((pl n).map fun q => wt p c q t).sum % p = c % p
  | 0, c, [], _ => by
    show (c + 0) % p = _
    rw [Int.add_zero]
  | n + 1, c, r :: t, h => by
    have hl : t.length = n := by simpa using h
    show (((pl n).map (fun q => 0 :: q) ++ (pl n).map (fun q => 1 :: q)).map fun q => wt p c q (r :: t)).sum % p = _
    rw [List.map_append, List.map_map, List.map_map, List.sum_append]
    show (((pl n).map fun q => wt p (stW p c (0, r)) q t).sum + ((pl n).map fun q => wt p (stW p c (1, r)) q t).sum) % p = _
    rw [Int.add_emod, wt_sum p n _ t hl, wt_sum p n _ t hl, ← Int.add_emod, stW0, stW1, ← Int.add_emod, ← Int.mul_add]
    congr 1
    rw [Int.sub_add_cancel, Int.mul_one]
/-- the weight of a place at a place -/
theorem wt_at {p : Int} (hp : 2 ≤ p) : ∀ (n i j : Nat) (c : Int), i < 2 ^ n → j < 2 ^ n → 0 ≤ c → c < p → wt p c (pq n i) (pq n j) = if i = j then c else 0
  | 0, i, j, c, hi, hj, _, _ => by
    have : i = j := by omega
    rw [if_pos this]
    rfl
  | n + 1, i, j, c, hi, hj, c0, c1 => by
    rw [Nat.pow_succ] at hi hj
    have e1 : (c * 1) % p = c := by rw [Int.mul_one]; exact Int.emod_eq_of_lt c0 c1
    have e0 : (c * 0) % p = 0 := by rw [Int.mul_zero]; exact Int.zero_emod _
    by_cases h1 : i < 2 ^ n <;> by_cases h2 : j < 2 ^ n
    · rw [pq_lo h1, pq_lo h2, wt_cons, stW0, Int.sub_zero, e1, wt_at hp n i j c h1 h2 c0 c1]
    · rw [pq_lo h1, pq_hi h2, wt_cons, stW0, Int.sub_self, e0, wt_at hp n i _ 0 h1 (by omega) (by omega) (by omega), if_neg (by omega : ¬ i = j)]
      split <;> rfl
    · rw [pq_hi h1, pq_lo h2, wt_cons, stW1, e0, wt_at hp n _ j 0 (by omega) h2 (by omega) (by omega), if_neg (by omega : ¬ i = j)]
      split <;> rfl
    · rw [pq_hi h1, pq_hi h2, wt_cons, stW1, e1, wt_at hp n _ _ c (by omega) (by omega) c0 c1]
      by_cases h : i = j
      · rw [if_pos h, if_pos (by omega)]
      · rw [if_neg h, if_neg (by omega)]
theorem pq_inj {n i j : Nat} (hi : i < 2 ^ n) (hj : j < 2 ^ n) : pq n i = pq n j ↔ i = j := by
  refine ⟨fun e => ?_, fun e => by rw [e]⟩
  have a := wt_at (p := 3) (by decide) n i j 1 hi hj (by decide) (by decide)
  rw [e, wt_at (p := 3) (by decide) n j j 1 hj hj (by decide) (by decide), if_pos rfl] at a
  by_cases h : i = j
  · exact h
  · rw [if_neg h] at a
    cases a
/-- the table of one place -/
def tbl (n a : Nat) (c : Int) : List Int := (List.range (2 ^ n)).map fun i => if i = a then c else 0
theorem tbl_length (n a : Nat) (c : Int) : (tbl n a c).length = 2 ^ n := by unfold tbl; rw [List.length_map, List.length_range]
theorem tbl_at {n a : Nat} {c : Int} {i : Nat} (h : i < 2 ^ n) : (tbl n a c)[i]? = some (if i = a then c else 0) := by
  unfold tbl
  rw [List.getElem?_map, List.getElem?_range h]
  rfl
theorem fo_at {p r : Int} {tb : List Int} {m i : Nat} {x y : Int} (hl : tb.length = 2 * m) (hx : tb[i]? = some x) (hy : tb[m + i]? = some y) (hi : i < m) : (fo p tb r)[i]? = some ((x + r * (y - x)) % p) := by
  unfold fo
  rw [show tb.length / 2 = m from by omega, List.getElem?_map]
  have : (List.zip (tb.take m) (tb.drop m))[i]? = some (x, y) := by
    rw [List.getElem?_zip_eq_some]
    refine ⟨?_, ?_⟩
    · rw [List.getElem?_take, if_pos hi, hx]
    · rw [List.getElem?_drop, hy]
  rw [this]
  rfl
theorem fo_tbl {p c r : Int} {n a : Nat} (hp : 0 < p) : fo p (tbl (n + 1) a c) r = if a < 2 ^ n then tbl n a (stW p c (0, r)) else tbl n (a - 2 ^ n) (stW p c (1, r)) := by
  have hl : (tbl (n + 1) a c).length = 2 * 2 ^ n := by rw [tbl_length, Nat.pow_succ, Nat.mul_comm]
  refine List.ext_getElem? fun i => ?_
  have e2 : 2 ^ (n + 1) = 2 ^ n * 2 := Nat.pow_succ ..
  by_cases h : i < 2 ^ n
  · rw [fo_at (m := 2 ^ n) hl (tbl_at (by omega)) (tbl_at (by omega)) h]
    by_cases ha : a < 2 ^ n
    · rw [if_pos ha, tbl_at h, if_neg (by omega : ¬ 2 ^ n + i = a), stW0]
      by_cases hi : i = a
      · rw [if_pos hi, if_pos hi, Int.zero_sub, Int.mul_neg, ← Int.sub_eq_add_neg, Int.mul_sub, Int.mul_one, Int.mul_comm r c]
      · rw [if_neg hi, if_neg hi, Int.sub_self, Int.mul_zero, Int.add_zero, Int.zero_emod]
    · rw [if_neg ha, tbl_at h, if_neg (by omega : ¬ i = a), stW1]
      by_cases hi : i = a - 2 ^ n
      · rw [if_pos hi, if_pos (by omega), Int.sub_zero, Int.zero_add, Int.mul_comm]
      · rw [if_neg hi, if_neg (by omega), Int.sub_self, Int.mul_zero, Int.add_zero, Int.zero_emod]
  · rw [List.getElem?_eq_none (by rw [fo_length, hl]; omega), List.getElem?_eq_none]
    split <;> (rw [tbl_length]; omega)
theorem fold_tbl {p : Int} (hp : 0 < p) : ∀ (n a : Nat) (c : Int) (t : List Int), t.length = n → a < 2 ^ n → t.foldl (fo p) (tbl n a c) = [wt p c (pq n a) t]
  | 0, a, c, [], _, ha => by
    have : a = 0 := by omega
    subst this
    rfl
  | n + 1, a, c, r :: t, h, ha => by
    have hl : t.length = n := by simpa using h
    rw [Nat.pow_succ] at ha
    rw [List.foldl_cons, fo_tbl hp]
    by_cases h1 : a < 2 ^ n
    · rw [if_pos h1, fold_tbl hp n a _ t hl h1, pq_lo h1, wt_cons]
    · rw [if_neg h1, fold_tbl hp n (a - 2 ^ n) _ t hl (by omega), pq_hi h1, wt_cons]
theorem tbl_pl {n a : Nat} (ha : a < 2 ^ n) : ((pl n).map fun q => if q = pq n a then (1 : Int) else 0) = tbl n a 1 := by
  unfold tbl
  rw [pl_range, List.map_map]
  refine List.map_congr_left fun i hi => ?_
  have := pq_inj (List.mem_range.mp hi) ha
  show (if pq n i = pq n a then (1 : Int) else 0) = _
  by_cases h : i = a
  · rw [if_pos h, if_pos (this.mpr h)]
  · rw [if_neg h, if_neg fun e => h (this.mp e)]
theorem tbl_Rs {p : Int} {n a : Nat} (hp : 2 ≤ p) : Rz p (tbl n a 1) := fun x hx => by
  unfold tbl at hx
  obtain ⟨i, _, rfl⟩ := List.mem_map.mp hx
  split <;> omega
theorem lens (n : Nat) (h : n ≤ 6) : gIn true (.int ((2 ^ n : Nat) : Int)) (.tup (([1, 2, 4, 8, 16, 32, 64] : List Int).map .int)) = some (.bl false) ∧ idxI ((2 ^ n : Nat) : Int) [1, 2, 4, 8, 16, 32, 64] = some n := by
  have : n = 0 ∨ n = 1 ∨ n = 2 ∨ n = 3 ∨ n = 4 ∨ n = 5 ∨ n = 6 := by omega
  rcases this with rfl | rfl | rfl | rfl | rfl | rfl | rfl <;> exact ⟨rfl, rfl⟩
theorem Rz.si {p : Int} {ts : List Int} (hp : p ≤ 1000003) (h : Rz p ts) : Si ts := fun t ht => by
  have := h t ht
  omega
theorem repr_same {k w : Nat} {d : D} (hd : Sm k w d) (hk : k ≤ 64) (hw : w ≤ 2 ^ 20) : ∃ x, gRepr [d] = some (.str x) ∧ gNe (.str x) (.str x) = some (.bl false) :=
  ⟨_, gRepr_of hd hk hw, by rw [gNe_str, decide_eq_true rfl]; rfl⟩
theorem repr_int {i : Int} (h : -1000000000000 < i ∧ i < 1000000000000) : ∃ x, gRepr [.int i] = some (.str x) ∧ gNe (.str x) (.str x) = some (.bl false) := repr_same (Sm.int h) (by decide) (by decide)
theorem perm3 (a b c : D) : permV [2, 1, 0] [a, b, c] = [c, b, a] := rfl
theorem pl_T {n i : Nat} {j : Int} (h : i < 2 ^ n) (hj : j = (i : Nat)) : gIx (.lst ((pl n).map T)) (.int j) = some (T (pq n i)) := by
  subst hj
  refine gIx_lst (by omega) ?_
  rw [Int.toNat_natCast, List.getElem?_map, pl_at n i h]
  rfl
theorem bs_Rs {p : Int} {q : List Int} (hp : 3 ≤ p) (h : Bs q) : Rz p q := fun b hb => by
  rcases h b hb with rfl | rfl <;> omega
/-! ### the one polynomial of a table, over the whole numbers -/
/-- alike modulo p -/
def Mo (p a b : Int) : Prop := ∃ k, a = b + p * k
theorem Mo.refl (p a : Int) : Mo p a a := ⟨0, by grind⟩
theorem Mo.symm {p a b : Int} (h : Mo p a b) : Mo p b a := by
  obtain ⟨k, h⟩ := h
  exact ⟨-k, by grind⟩
theorem Mo.trans {p a b c : Int} (h : Mo p a b) (h' : Mo p b c) : Mo p a c := by
  obtain ⟨k, h⟩ := h
  obtain ⟨l, h'⟩ := h'
  exact ⟨k + l, by grind⟩
theorem Mo.add {p a b c d : Int} (h : Mo p a b) (h' : Mo p c d) : Mo p (a + c) (b + d) := by
  obtain ⟨k, h⟩ := h
  obtain ⟨l, h'⟩ := h'
  exact ⟨k + l, by grind⟩
theorem Mo.sub {p a b c d : Int} (h : Mo p a b) (h' : Mo p c d) : Mo p (a - c) (b - d) := by
  obtain ⟨k, h⟩ := h
  obtain ⟨l, h'⟩ := h'
  exact ⟨k - l, by grind⟩
theorem Mo.mul {p a b c d : Int} (h : Mo p a b) (h' : Mo p c d) : Mo p (a * c) (b * d) := by
  obtain ⟨k, h⟩ := h
  obtain ⟨l, h'⟩ := h'
  exact ⟨k * d + b * l + p * k * l, by grind⟩
theorem Mo.mod (p a : Int) : Mo p (a % p) a := ⟨-(a / p), by have := Int.emod_add_mul_ediv a p; grind⟩
theorem Mo.eq {p a b : Int} (h : Mo p a b) : a % p = b % p := by
  obtain ⟨k, rfl⟩ := h
  exact Int.add_mul_emod_self_left ..
/-- the value at a point -/
def ev : List Int → List Int → Int
  | [], tb => tb.headD 0
  | r :: t, tb => (1 - r) * ev t (tb.take (tb.length / 2)) + r * ev t (tb.drop (tb.length / 2))
theorem half_len {tb : List Int} {n : Nat} (h : tb.length = 2 ^ (n + 1)) : tb.length / 2 = 2 ^ n := by rw [h, Nat.pow_succ]; omega
theorem take_len {tb : List Int} {n : Nat} (h : tb.length = 2 ^ (n + 1)) : (tb.take (tb.length / 2)).length = 2 ^ n := by
  rw [List.length_take, half_len h, h, Nat.pow_succ]
  omega
theorem drop_len {tb : List Int} {n : Nat} (h : tb.length = 2 ^ (n + 1)) : (tb.drop (tb.length / 2)).length = 2 ^ n := by
  rw [List.length_drop, half_len h, h, Nat.pow_succ]
  omega
theorem one_of {tb : List Int} (h : tb.length = 2 ^ 0) : ∃ v, tb = [v] := by
  match tb, h with
  | [v], _ => exact ⟨v, rfl⟩
/-- alike item by item, alike there -/
theorem ev_mo {p : Int} : ∀ (n : Nat) (t x y : List Int), t.length = n → x.length = 2 ^ n → y.length = 2 ^ n → (∀ (i : Nat) (a b : Int), x[i]? = some a → y[i]? = some b → Mo p a b) → Mo p (ev t x) (ev t y)
  | 0, [], x, y, _, hx, hy, h => by
    obtain ⟨a, rfl⟩ := one_of hx
    obtain ⟨b, rfl⟩ := one_of hy
    exact h 0 a b rfl rfl
  | n + 1, r :: t, x, y, ht, hx, hy, h => by
    have hl : t.length = n := by simpa using ht
    have e : x.length / 2 = y.length / 2 := by rw [hx, hy]
    refine ((Mo.refl p _).mul (ev_mo n t _ _ hl (take_len hx) (take_len hy) fun i a b ha hb => ?_)).add ((Mo.refl p _).mul (ev_mo n t _ _ hl (drop_len hx) (drop_len hy) fun i a b ha hb => ?_))
    · rw [List.getElem?_take] at ha hb
      split at ha
      · rw [if_pos (by omega)] at hb
        exact h i a b ha hb
      · cases ha
    · rw [List.getElem?_drop] at ha hb
      rw [← e] at hb
      exact h _ a b ha hb
/-- two tables together, one of them times a number -/
theorem ev_lin (k l : Int) : ∀ (n : Nat) (t x y z : List Int), t.length = n → x.length = 2 ^ n → y.length = 2 ^ n → z.length = 2 ^ n → (∀ (i : Nat) (a b c : Int), x[i]? = some a → y[i]? = some b → z[i]? = some c → c = k * a + l * b) → ev t z = k * ev t x + l * ev t y
  | 0, [], x, y, z, _, hx, hy, hz, h => by
    obtain ⟨a, rfl⟩ := one_of hx
    obtain ⟨b, rfl⟩ := one_of hy
    obtain ⟨c, rfl⟩ := one_of hz
    exact h 0 a b c rfl rfl rfl
  | n + 1, r :: t, x, y, z, ht, hx, hy, hz, h => by
    have hl : t.length = n := by simpa using ht
    have e1 : x.length / 2 = z.length / 2 := by rw [hx, hz]
    have e2 : y.length / 2 = z.length / 2 := by rw [hy, hz]
    have i1 := ev_lin k l n t _ _ _ hl (take_len hx) (take_len hy) (take_len hz) fun i a b c ha hb hc => by
      rw [List.getElem?_take] at ha hb hc
      split at hc
      · rw [if_pos (by omega)] at ha hb
        exact h i a b c ha hb hc
      · cases hc
    have i2 := ev_lin k l n t _ _ _ hl (drop_len hx) (drop_len hy) (drop_len hz) fun i a b c ha hb hc => by
      rw [List.getElem?_drop] at ha hb hc
      rw [e1] at ha
      rw [e2] at hb
      exact h _ a b c ha hb hc
    show (1 - r) * ev t (z.take (z.length / 2)) + r * ev t (z.drop (z.length / 2)) = k * ((1 - r) * ev t (x.take (x.length / 2)) + r * ev t (x.drop (x.length / 2))) + l * ((1 - r) * ev t (y.take (y.length / 2)) + r * ev t (y.drop (y.length / 2)))
    rw [i1, i2]
    grind
theorem fo_get {p r : Int} {tb : List Int} {n i : Nat} {c : Int} (h : tb.length = 2 ^ (n + 1)) (hc : (fo p tb r)[i]? = some c) : ∃ a b, (tb.take (tb.length / 2))[i]? = some a ∧ (tb.drop (tb.length / 2))[i]? = some b ∧ c = (a + r * (b - a)) % p := by
  unfold fo at hc
  rw [List.getElem?_map] at hc
  obtain ⟨⟨a, b⟩, h1, h2⟩ := Option.map_eq_some_iff.mp hc
  rw [List.getElem?_zip_eq_some] at h1
  exact ⟨a, b, h1.1, h1.2, h2.symm⟩
theorem fo_len {p r : Int} {tb : List Int} {n : Nat} (h : tb.length = 2 ^ (n + 1)) : (fo p tb r).length = 2 ^ n := by rw [fo_length, half_len h]
/-- folded name by name -/
theorem fold_ev {p : Int} (hp : 0 < p) : ∀ (n : Nat) (t tb : List Int), t.length = n → tb.length = 2 ^ n → Rz p tb → t.foldl (fo p) tb = [ev t tb % p]
  | 0, [], tb, _, hl, hb => by
    obtain ⟨v, rfl⟩ := one_of hl
    have := hb v List.mem_cons_self
    show [v] = [v % p]
    rw [Int.emod_eq_of_lt this.1 this.2]
  | n + 1, r :: t, tb, ht, hl, hb => by
    have htl : t.length = n := by simpa using ht
    rw [List.foldl_cons, fold_ev hp n t _ htl (fo_len hl) (fo_Rs hp)]
    have m : Mo p (ev t (fo p tb r)) (ev (r :: t) tb) := by
      have e := ev_lin (1 - r) r n t (tb.take (tb.length / 2)) (tb.drop (tb.length / 2)) ((List.zip (tb.take (tb.length / 2)) (tb.drop (tb.length / 2))).map fun x => (1 - r) * x.1 + r * x.2) htl (take_len hl) (drop_len hl) (by
        rw [List.length_map, List.length_zip, take_len hl, drop_len hl, Nat.min_self]) fun i a b c ha hb hc => by
          rw [List.getElem?_map] at hc
          obtain ⟨⟨a', b'⟩, h1, h2⟩ := Option.map_eq_some_iff.mp hc
          rw [List.getElem?_zip_eq_some] at h1
          rw [h1.1] at ha
          rw [h1.2] at hb
          cases ha
          cases hb
          exact h2.symm
      refine (ev_mo n t _ ((List.zip (tb.take (tb.length / 2)) (tb.drop (tb.length / 2))).map fun x => (1 - r) * x.1 + r * x.2) htl (fo_len hl) (by
        rw [List.length_map, List.length_zip, take_len hl, drop_len hl, Nat.min_self]) fun i c d hc hd => ?_).trans (by rw [e]; exact Mo.refl p _)
      obtain ⟨a, b, h1, h2, h3⟩ := fo_get hl hc
      rw [List.getElem?_map] at hd
      obtain ⟨⟨a', b'⟩, h4, h5⟩ := Option.map_eq_some_iff.mp hd
      rw [List.getElem?_zip_eq_some] at h4
      rw [h4.1] at h1
      rw [h4.2] at h2
      cases h1
      cases h2
      subst h3
      subst h5
      exact (Mo.mod p _).trans ⟨0, by grind⟩
    rw [m.eq]
/-- the sum over all places of residue times weight -/
def ws (p c : Int) (t : List Int) : List Int → List (List Int) → Int
  | x :: tb, q :: ps => x * wt p c q t + ws p c t tb ps
  | _, _ => 0
theorem ws_append (p c : Int) (t : List Int) : ∀ (x y : List Int) (ps qs : List (List Int)), x.length = ps.length → ws p c t (x ++ y) (ps ++ qs) = ws p c t x ps + ws p c t y qs
  | [], y, [], qs, _ => by
    show _ = 0 + _
    rw [Int.zero_add]
    rfl
  | a :: x, y, q :: ps, qs, h => by
    show a * wt p c q t + ws p c t (x ++ y) (ps ++ qs) = a * wt p c q t + ws p c t x ps + ws p c t y qs
    rw [ws_append p c t x y ps qs (by simpa using h), Int.add_assoc]
theorem ws_cons (p c b r : Int) (t : List Int) : ∀ (x : List Int) (ps : List (List Int)), ws p c (r :: t) x (ps.map fun q => b :: q) = ws p (stW p c (b, r)) t x ps
  | [], [] => rfl
  | [], _ :: _ => rfl
  | _ :: _, [] => rfl
  | a :: x, q :: ps => by
    show a * wt p c (b :: q) (r :: t) + ws p c (r :: t) x (ps.map fun q => b :: q) = a * wt p (stW p c (b, r)) q t + ws p (stW p c (b, r)) t x ps
    rw [ws_cons p c b r t x ps, wt_cons]
theorem ws_ev {p : Int} : ∀ (n : Nat) (c : Int) (t tb : List Int), t.length = n → tb.length = 2 ^ n → Mo p (ws p c t tb (pl n)) (c * ev t tb)
  | 0, c, [], tb, _, hl => by
    obtain ⟨v, rfl⟩ := one_of hl
    show Mo p (v * c + 0) (c * v)
    exact ⟨0, by grind⟩
  | n + 1, c, r :: t, tb, ht, hl => by
    have htl : t.length = n := by simpa using ht
    have e : tb = tb.take (tb.length / 2) ++ tb.drop (tb.length / 2) := (List.take_append_drop ..).symm
    show Mo p (ws p c (r :: t) tb ((pl n).map (fun q => 0 :: q) ++ (pl n).map (fun q => 1 :: q))) _
    have e1 : ws p c (r :: t) tb ((pl n).map (fun q => 0 :: q) ++ (pl n).map (fun q => 1 :: q)) = ws p (stW p c (0, r)) t (tb.take (tb.length / 2)) (pl n) + ws p (stW p c (1, r)) t (tb.drop (tb.length / 2)) (pl n) := by
      conv => lhs; rw [e]
      rw [ws_append p c _ _ _ _ _ (by rw [take_len hl, List.length_map, pl_length]), ws_cons, ws_cons]
    rw [e1]
    refine ((ws_ev n _ t _ htl (take_len hl)).add (ws_ev n _ t _ htl (drop_len hl))).trans ?_
    rw [stW0, stW1]
    refine ((((Mo.mod p _).mul (Mo.refl p _))).add ((Mo.mod p _).mul (Mo.refl p _))).trans ⟨0, ?_⟩
    show _ = c * ((1 - r) * ev t (tb.take (tb.length / 2)) + r * ev t (tb.drop (tb.length / 2))) + p * 0
    grind
/-- in each name on a line -/
theorem ev_line : ∀ (s t : List Int) (tb : List Int) (x : Int), ev (s ++ x :: t) tb = ev (s ++ 0 :: t) tb + x * (ev (s ++ 1 :: t) tb - ev (s ++ 0 :: t) tb)
  | [], t, tb, x => by
    show (1 - x) * _ + x * _ = ((1 - 0) * _ + 0 * _) + x * (((1 - 1) * _ + 1 * _) - ((1 - 0) * _ + 0 * _))
    grind
  | r :: s, t, tb, x => by
    have i1 := ev_line s t (tb.take (tb.length / 2)) x
    have i2 := ev_line s t (tb.drop (tb.length / 2)) x
    show (1 - r) * ev (s ++ x :: t) _ + r * ev (s ++ x :: t) _ = ((1 - r) * ev (s ++ 0 :: t) _ + r * ev (s ++ 0 :: t) _) + x * (((1 - r) * ev (s ++ 1 :: t) _ + r * ev (s ++ 1 :: t) _) - ((1 - r) * ev (s ++ 0 :: t) _ + r * ev (s ++ 0 :: t) _))
    rw [i1, i2]
    grind
/-- at a place the table's residue -/
theorem ev_at : ∀ (n a : Nat) (tb : List Int), tb.length = 2 ^ n → a < 2 ^ n → tb[a]? = some (ev (pq n a) tb)
  | 0, a, tb, hl, ha => by
    obtain ⟨v, rfl⟩ := one_of hl
    have : a = 0 := by omega
    subst this
    rfl
  | n + 1, a, tb, hl, ha => by
    rw [Nat.pow_succ] at ha
    have hh := half_len hl
    by_cases h : a < 2 ^ n
    · rw [pq_lo h]
      have i := ev_at n a (tb.take (tb.length / 2)) (take_len hl) h
      rw [List.getElem?_take, if_pos (by omega)] at i
      rw [i]
      congr 1
      show _ = (1 - 0) * ev (pq n a) (tb.take (tb.length / 2)) + 0 * _
      grind
    · rw [pq_hi h]
      have i := ev_at n (a - 2 ^ n) (tb.drop (tb.length / 2)) (drop_len hl) (by omega)
      rw [List.getElem?_drop, show tb.length / 2 + (a - 2 ^ n) = a from by omega] at i
      rw [i]
      congr 1
      show _ = (1 - 1) * _ + 1 * ev (pq n (a - 2 ^ n)) (tb.drop (tb.length / 2))
      grind
end Dn
end
section
set_option maxHeartbeats 4000000
/-! enumerate of a list or a tuple; new lists by + and *; list(x); xs[i] op= e. -/
namespace Dn
open PySem PySem.Spec PyProof.Rows L2

/-! ### enumerate -/
theorem meets_en {v : Value} {ob : Obj} {P : Heap → Prop} (B : Begins v ob P) :
    Meets (Builtin.«enumerate.__new__» ⟨[.type "enumerate", v], []⟩) (fun _ R s => P s.heap ∧ R (.ok (.ret (.ref (s.heap.push ob).objs.size))) { s with heap := (s.heap.push ob).push { cls := .type "enumerate", data := .fields #[.none, .bool false, .ref s.heap.objs.size, rawInt 0, .none, .none] } }) :=
  .of_wp fun prog w A R s h => by
    obtain ⟨heap, gg, dd, tk, os⟩ := s; obtain ⟨hP, hR⟩ := h; have isE := sub_enumerate
    have begin_ : ∀ {A' : Around} {E : Value → Shared → Prop} {Q : Value → Shared → Prop}, Q (.ref heap.objs.size) ⟨heap.push ob, gg, dd, tk, os⟩ → wpAny (model prog w) A' (pyIter v) Q E ⟨heap, gg, dd, tk, os⟩ := fun q => B.iter prog w _ _ ⟨heap, gg, dd, tk, os⟩ _ hP q
    wp_walk using begin_
    refine wpAny_stack_any fun _ => wpAny_pure ?_; split
    · rename_i c _ _ _ _ _; cases (c == Value.type "enumerate") <;> (wp_walk using begin_; exact ⟨_, rfl, hR⟩)
    · wp_walk using begin_; exact ⟨_, rfl, hR⟩
section
variable {prog : Program} {w : World} {A : Around} {E : Value → Shared → Prop} {s : Shared}
theorem call_en {v : Value} {ob : Obj} {P : Heap → Prop} {Q : Value → Shared → Prop} (B : Begins v ob P) (hP : P s.heap)
    (h : ∀ h', IsEnum h' (s.heap.objs.size + 1) s.heap.objs.size 0 .none → h'.get? s.heap.objs.size = some ob → (∀ b o, s.heap.get? b = some o → h'.get? b = some o) → Q (.ref (s.heap.objs.size + 1)) { s with heap := h' }) :
    wpAny (model prog w) A (call (.type "enumerate") [v]) Q E s := by
  refine callType_new F.called_enumerate (by decide) (F.typeCall_enumerate_1 _) (F.newCall_enumerate_1 _) (fun b => F.args_object_init_2 b _) F.entry_enumerate_new (meets_en B) ⟨hP, ?_⟩
  have sz : (s.heap.push ob).objs.size = s.heap.objs.size + 1 := Heap.size_push ..
  have top : ∀ o : Obj, o.isFreed = false → ((s.heap.push ob).push o).get? (s.heap.objs.size + 1) = some o := fun o ho => by rw [← sz]; exact Heap.get?_push_size _ ho
  show _ ∧ _
  rw [sz]
  have en : IsEnum ((s.heap.push ob).push { cls := .type "enumerate", data := .fields #[.none, .bool false, .ref s.heap.objs.size, rawInt 0, .none, .none] }) (s.heap.objs.size + 1) s.heap.objs.size 0 .none := top _ rfl
  exact ⟨⟨_, en, rfl⟩, h _ en (Heap.get?_push_of_some _ (Heap.get?_push_size _ B.free)) fun b o x => Heap.get?_push_of_some _ (Heap.get?_push_of_some _ x)⟩
end
def ItEn (K : PySem.W.Frag) (t : Bool) (a : Addr) (xs : List V) : It :=
  ⟨fun i H => KS t K H a xs ∧ i < xs.length,
    fun i H v H' => ∃ T x, v = .ref T ∧ H T = none ∧ H' = upd H T (.tup [.int (i : Nat), x]) ∧ xs[i]? = some x,
    fun i H => KS t K H a xs ∧ xs.length ≤ i⟩
theorem turn_en {P : Program} {w : World} {K : PySem.W.Frag} {elts : List Expr} {kk : Nat} {tpos : Pos} {t : Bool} {a e it : Addr} {xs : List V} (h1 : e ≠ it) (h2 : a ≠ it) (h3 : e ≠ a) :
    Turn P w K (.Tuple elts kk tpos) (ItEn K t a xs) [e, it] e (fun i h => i ≤ xs.length ∧ (∃ old, IsEnum h e it (i : Nat) old) ∧ KIt t h it a i) where
  mem := List.mem_cons_self
  obj := fun i h st c hc => by
    obtain ⟨_, ⟨old, g1⟩, g2⟩ := st
    have e' : c = e ∨ c = it := by simpa only [List.mem_cons, List.not_mem_nil, or_false] using hc
    rcases e' with q | q <;> subst q
    · exact ⟨_, g1, fun v q => nomatch q⟩
    · exact g2.cell
  keep := fun i h h' st k => by
    obtain ⟨g0, ⟨old, g1⟩, g2⟩ := st
    exact ⟨g0, ⟨old, k e (by simp) _ g1⟩, g2.keep (k it (by simp))⟩
  item := by
    intro X hP hw hK hc i pins s σ H E I hf st hg
    subst hP hw hK
    obtain ⟨g0, ⟨old, g1⟩, g2⟩ := st
    obtain ⟨ka, hx⟩ := hg
    obtain ⟨its, rv, p⟩ := ka.inv I
    have l1 := rv.length
    have hel : e < s.heap.objs.size := Heap.lt_size g1
    have hd : X.A.in1.handled = none := I.ok.hd hc
    refine wpAny_pyNext_enum_itemC (i := i) (kDraws hd t it a h2 its.toArray) g1 ⟨g2, p⟩ (by rw [List.size_toArray]; omega) h1 (by simp only [List.mem_cons, List.not_mem_nil, or_false, not_or]; exact ⟨h1, h3⟩) fun v1 h' tk e1 n1 n2 n3 n4 n5 => ?_
    obtain ⟨x, hvx, rx⟩ := vals_back rv (by simpa using e1)
    refine ⟨_, rfl, wpAny_letOwnedTupleGo_enum (s := { s with heap := h', toks := tk + 1 }) n1 fun h'' z'' sb => ?_⟩
    have hT2 : h''.get? s.heap.objs.size = some { cls := .type "tuple", data := .seq #[.int (i : Nat) tk, v1] } := (sb.2 _ (Nat.ne_of_gt hel)).trans n3
    have new : ObjOk X.prog X.w (upd H s.heap.objs.size (.tup [.int (i : Nat), x])) h'' s.heap.objs.size (.tup [.int (i : Nat), x]) :=
      ⟨by show 2 ≤ sizeLine; decide, [.int (i : Nat) tk, v1], .cons ⟨tk, rfl⟩ (.cons rx .nil), ⟨_, hT2, rfl, _, rfl⟩⟩
    have I1 : Inv X pins σ (upd H s.heap.objs.size (.tup [.int (i : Nat), x])) { s with heap := h'', toks := tk + 1 } :=
      I.turnedNew (ch := [e, it]) (fun c o hb q => (sb.2 c (fun q' => hb (by simp [q']))).trans (n5 c o (fun q' => hb (by simp [q'])) (fun q' => hb (by simp [q'])) q)) hf (Nat.le_refl _) new
    refine ⟨.ref s.heap.objs.size, _, I1, rfl, ⟨_, x, rfl, I.hok.fresh (Nat.le_refl _), rfl, hvx⟩, ⟨hx, ⟨v1, ?_⟩, ?_⟩, fun c hcm => ?_⟩
    · exact z''
    · exact n2.1.keep fun o q => (sb.2 _ h1.symm).trans q
    · have hlt : c < s.heap.objs.size := by
        have e' : c = e ∨ c = it := by simpa only [List.mem_cons, List.not_mem_nil, or_false] using hcm
        rcases e' with q | q <;> subst q
        · exact hel
        · obtain ⟨_, e, _⟩ := g2.cell
          exact Heap.lt_size e
      rw [upd_ne (Nat.ne_of_lt hlt)]
      exact (hf c hcm).1
  done := by
    intro X hP hw hK hc i pins s σ H E I hf st hg
    subst hP hw hK
    obtain ⟨g0, ⟨old, g1⟩, g2⟩ := st
    obtain ⟨ka, hend⟩ := hg
    obtain ⟨its, rv, p⟩ := ka.inv I
    have l1 := rv.length
    have hd : X.A.in1.handled = none := I.ok.hd hc
    have hi : i = its.toArray.size := by rw [List.size_toArray]; omega
    subst hi
    exact wpAny_pyNext_enum_endD (kDraws hd t it a h2 its.toArray) g1 ⟨g2, p⟩ fun h' hk =>
      ⟨rfl, I.turnedL (t' := s.toks) (ch := [e, it]) (fun c o hb q => hk c o (fun q' => hb (by simp [q'])) q) hf⟩
  self := fun A i s Q E st h => let ⟨_, ⟨_, g⟩, _⟩ := st; wpAny_pyIter_enum g h
def iEn (K : PySem.W.Frag) (ta : TA) : TI := fun σ H R => ta σ H fun vs H1 => ∃ a t xs, vs = [.ref a] ∧ KS t K H1 a xs ∧ R (ItEn K t a xs) H1
theorem pi_en {X : Cx} {e : Expr} {ta : TA} {p pos tpos : Pos} {elts : List Expr} {kk : Nat} (hg : Gl X "enumerate") (hm : X.mg "enumerate" = none) (ha : PA X [e] ta)
    (hs : starEach [e] X.env = [(false, eval e X.env)] := by rfl) : PI X (.Tuple elts kk tpos) (.Call (.Name "enumerate" p) [e] [] pos) (iEn X.K ta) := by
  refine ⟨fun pins s σ H R I h => ?_⟩
  refine Call_ (ld_blt I hg hm boot_enumerate (PyProof.Rows.callWith_type1 (thn (ha.run pos pins s σ H _ I h) fun us s1 hv => ?_) hs rfl))
  obtain ⟨vs, H1, I1, r1, a, t, xs, ex, ka, q⟩ := hv
  subst ex
  cases r1 with
  | cons r rr =>
    cases rr
    cases r
    obtain ⟨its, rv, p1⟩ := ka.inv I1
    refine call_en (kBegins t a its.toArray) p1 fun h' hz h1 hk => wpAny_pyIter_enum hz ?_
    have I2 : Inv X pins σ H1 { s1 with heap := h' } := I1.kept (t' := s1.toks) hk
    refine ⟨s1.heap.objs.size + 1, [s1.heap.objs.size + 1, s1.heap.objs.size], _, _, H1, rfl, I2, turn_en (Nat.succ_ne_self _) (Nat.ne_of_lt p1.lt) (Nat.ne_of_gt (Nat.lt_succ_of_lt p1.lt)), ⟨Nat.zero_le _, ⟨_, hz⟩, kIt0 h1⟩, fp_new I1 fun c hc => ?_, q⟩
    simp only [List.mem_cons, List.not_mem_nil, or_false] at hc
    rcases hc with q' | q' <;> rw [q'] <;> first | exact Nat.le_add_right _ _ | exact Nat.le_refl _
def enD : Nat → List D → List D
  | _, [] => []
  | k, d :: ds => pairD (.int (k : Nat)) d :: enD (k + 1) ds
theorem enD_get : ∀ (k : Nat) (ds : List D) (i : Nat), (enD k ds)[i]? = (ds[i]?).map fun d => pairD (.int ((k + i : Nat) : Int)) d
  | _, [], _ => by simp [enD]
  | k, d :: ds, 0 => by simp [enD]
  | k, d :: ds, i + 1 => by
    show (enD (k + 1) ds)[i]? = _
    rw [enD_get (k + 1) ds i, List.getElem?_cons_succ, show k + 1 + i = k + (i + 1) from by omega]
theorem jok_en {K : PySem.W.Frag} {F : Hp} {t : Bool} {a : Addr} {xs : List V} {ds : List D} (h : KS t K F a xs) (r : RpA K F xs ds) : JOk K (ItEn K t a xs) F (enD 0 ds) := fun F1 H i e1 e2 => by
  have hs := h.ex (e1.trans e2)
  have hl := r.length
  refine ⟨fun d hd => ?_, fun hd => ⟨hs, ?_⟩⟩
  · rw [enD_get] at hd
    obtain ⟨d', h1, h2⟩ := Option.map_eq_some_iff.mp hd
    obtain ⟨v, h3, h4⟩ := r.get h1
    refine ⟨⟨hs, (List.getElem?_eq_some_iff.mp h3).1⟩, fun z H' ⟨T, p, ez, nT, eH, f1⟩ => ?_⟩
    subst ez
    subst eH
    subst h2
    rw [h3] at f1
    cases f1
    have g := Grow.new (o := .tup [.int (i : Nat), v]) e2 nT
    refine ⟨_, g, .tup (.inl (.inl upd_same)) (.cons ?_ (.cons ((h4.mono e1).mono g.e1) .nil))⟩
    rw [Nat.zero_add]
    exact .int _
  · rw [enD_get, Option.map_eq_none_iff, List.getElem?_eq_none_iff] at hd
    omega
def IEnum (f : FE) : FA := fun ρ => bnd (f ρ) fun d ρ1 => match seqZ d with
  | some ds => some (enD 0 ds, ρ1)
  | none => none
section
variable {X : Cx} {pos : Pos}
theorem gi_enum {e : Expr} {f : FE} {p tpos : Pos} {elts : List Expr} {kk : Nat} (ha : GE X e f) (hm : X.mg "enumerate" = none) (hg : Gl X "enumerate" := by rfl)
    (hs : starEach [e] X.env = [(false, eval e X.env)] := by rfl) : GI X (.Tuple elts kk tpos) (.Call (.Name "enumerate" p) [e] [] pos) (IEnum f) := by
  obtain ⟨ta, a, b⟩ := ga_cons ha ga_nil hs
  refine ⟨_, pi_en hg hm a hs, fun pa w σ ds ρ' R h R' q => ?_⟩
  obtain ⟨d, ρ1, e1, h2⟩ := bnd_eq h
  have ea : ACons f ANil w.ρ = some ([d], ρ1) := by
    unfold ACons ANil
    rw [e1]
    rfl
  refine b pa w σ [d] ρ1 R ea _ fun w1 vs R1 p1 s1 r1 => ?_
  split at h2
  case h_2 => cases h2
  rename_i xs z1
  obtain ⟨q1, q2⟩ := Prod.mk.inj (Option.some.inj h2)
  subst q1
  subst q2
  cases r1 with
  | cons r rr =>
    cases rr
    obtain ⟨a, t, us, rfl, k1, k2⟩ := seqZ_ks r z1
    exact ⟨a, t, us, rfl, k1.ex R1.ex, q w1 _ R1 p1 s1 (jok_en k1 k2)⟩
end
end Dn
end
section
set_option maxHeartbeats 4000000
/-! new lists by + and *; list(x); xs[i] op= e of a list of one's own; two own lists at once. -/
namespace Dn
open PySem PySem.Spec PyProof.Rows L2

section
variable {X : Cx} {K : PySem.W.Frag} {pos : Pos}
/-! ### a new list of one's own that an operation makes -/
def OpL (K : PySem.W.Frag) (r : R2) (g : D → D → Option (List D)) : Prop := ∀ (F H : Hp) (x y : V) (d e : D) (zs : List D), Ex F H → Rp K F x d → Rp K F y e → g d e = some zs →
  ∀ Q : VK, (∀ (p : Addr) (acc : List V), H p = none → RpA K F acc zs → Q (.ref p) (upd H p (.lst acc))) → r x y H Q
def LBin (g : D → D → Option (List D)) (f1 f2 : FE) : FL := fun ρ => bnd (f1 ρ) fun x ρ1 => bnd (f2 ρ1) fun y ρ2 => lft (g x y) ρ2
/-- a new object that is not told -/
theorem own_new {pa : Nat → Addr} {w w1 : Wd} {σ : L2.St} {ρ' : List Sl} {zs : List D} {p : Addr} {acc : List V} {Q : VK} (R1 : Rel K pa w1 σ) (p1 : w1.ρ = ρ') (s1 : Step w w1) (hp : w1.H p = none) (ra : RpA K w1.F acc zs)
    (q : ∀ (w' : Wd) (P : Addr) (acc : List V), Rel K pa w' σ → w'.ρ = ρ' → Step w w' → w.H P = none → w'.H P = some (.lst acc) → w'.F P = none → ¬ Own w' P → RpA K w'.F acc zs → Q (.ref P) w'.H) : Q (.ref p) (upd w1.H p (.lst acc)) := by
  obtain ⟨R2, s2⟩ := R1.grow (Grow.quiet (o := .lst acc) R1.ex hp)
  refine q ⟨w1.F, upd w1.H p (.lst acc), w1.al, w1.ρ⟩ p acc R2 p1 (s1.trans s2) (s1.st p hp) upd_same (R1.ex.free hp) (fun z => ?_) ra
  obtain ⟨⟨us, hu⟩, _⟩ := R1.own_at z
  rw [hp] at hu
  cases hu
theorem gl_bin {op : Operator} {r : R2} {g : D → D → Option (List D)} {a b : Expr} {f1 f2 : FE} (ho : OpR X (binaryOp op) r) (hg : OpL X.K r g) (ha : GE X a f1) (hb : GE X b f2) : GL X (.BinOp a op b pos) (LBin g f1 f2) := by
  obtain ⟨ta, h1, h2⟩ := ha
  obtain ⟨tb, h3, h4⟩ := hb
  refine ⟨_, pe_op ho h1 h3, fun pa w σ ds ρ' R h Q q => ?_⟩
  obtain ⟨x, ρ1, e1, h⟩ := bnd_eq h
  obtain ⟨y, ρ2, e2, h⟩ := bnd_eq h
  obtain ⟨z, e3, h⟩ := lft_eq h
  obtain ⟨q1, q2⟩ := Prod.mk.inj h
  subst q1
  subst q2
  refine h2 pa w σ x ρ1 R e1 _ fun w1 v1 R1 p1 s1 r1 => ?_
  subst p1
  refine h4 pa w1 σ y ρ' R1 e2 _ fun w2 v2 R2 p2 s2 r2 => ?_
  exact hg w2.F w2.H v1 v2 x y ds R2.ex (r1.mono s2.ex) r2 e3 _ fun p acc hp ra => own_new R2 p2 (s1.trans s2) hp ra q
def gRepD : D → D → Option (List D)
  | .lst xs, .int n => if -(2 ^ 63) ≤ n ∧ n < 2 ^ 63 ∧ xs.length * n.toNat ≤ 16777216 then some (List.replicate n.toNat xs).flatten else none
  | _, _ => none
def gCatD : D → D → Option (List D)
  | .lst xs, .lst ys => if xs.length + ys.length ≤ 16777216 then some (xs ++ ys) else none
  | _, _ => none
theorem opl_rep : OpL K rRep gRepD := fun F H x y d e zs eF rx ry hz Q k => by
  unfold gRepD at hz
  split at hz
  case h_2 => cases hz
  rename_i xs n
  split at hz
  case isFalse => cases hz
  rename_i hl
  have e := Option.some.inj hz
  subst e
  cases rx with
  | @lst a vs _ s1 r1 =>
    cases ry
    exact ⟨a, n, vs, rfl, rfl, eF _ _ s1, hl.1, hl.2.1, by rw [r1.length]; exact line_le hl.2.2, fun p hp => k p _ hp (r1.rep _)⟩
theorem opl_cat : OpL K rCat gCatD := fun F H x y d e zs eF rx ry hz Q k => by
  unfold gCatD at hz
  split at hz
  case h_2 => cases hz
  rename_i xs ys
  split at hz
  case isFalse => cases hz
  rename_i hl
  have e := Option.some.inj hz
  subst e
  cases rx with
  | @lst a vs _ s1 r1 =>
    cases ry with
    | @lst b us _ s2 r2 => exact ⟨a, b, vs, us, rfl, rfl, eF _ _ s1, eF _ _ s2, by rw [r1.length, r2.length]; exact line_le hl, fun p hp => k p _ hp (r1.append r2)⟩
/-! ### list(x) -/
def LOf (f : FE) : FL := fun ρ => bnd (f ρ) fun d ρ1 => match seqZ d with
  | some ds => some (ds, ρ1)
  | none => none
theorem gl_listOf {p : Pos} {e : Expr} {f : FE} (h : GE X e f) (hm : X.mg "list" = none) (hgl : Gl X "list" := by rfl) (hv : bootBuiltins "list" = some (.type "list") := by decide +kernel)
    (he : starEach [e] X.env = (false, eval e X.env) :: starEach [] X.env := by rfl) (hpl : (backTo pos (starEach [] X.env)).any (·.1) = false := by rfl) (hs : starEach [e] X.env = [(false, eval e X.env)] := by rfl) : GL X (.Call (.Name "list" p) [e] [] pos) (LOf f) := by
  obtain ⟨ta, a, b⟩ := ga_cons h ga_nil hs
  refine ⟨_, pe_callTy call_list_of hgl hm hv a (by decide) (by decide) he hpl, fun pa w σ ds ρ' R h Q q => ?_⟩
  obtain ⟨d, ρ1, e1, h2⟩ := bnd_eq h
  have ea : ACons f ANil w.ρ = some ([d], ρ1) := by
    unfold ACons ANil
    rw [e1]
    rfl
  refine b pa w σ [d] ρ1 R ea _ fun w1 vs R1 p1 s1 r1 => ?_
  split at h2
  case h_2 => cases h2
  rename_i xs z1
  obtain ⟨q1, q2⟩ := Prod.mk.inj (Option.some.inj h2)
  subst q1
  subst q2
  cases r1 with
  | cons r rr =>
    cases rr
    obtain ⟨a, t, us, rfl, k1, k2⟩ := seqZ_ks r z1
    have k3 := k1.ex R1.ex
    refine ⟨a, us, rfl, ?_, fun l hl => own_new R1 p1 s1 hl k2 q⟩
    cases t
    · exact .inl k3
    · exact .inr k3
/-! ### xs[i] op= e -/
def rGetN : V → V → Hp → VK → Prop := fun o i H Q => ∃ p xs k v, o = .ref p ∧ i = .int k ∧ H p = some (.lst xs) ∧ 0 ≤ k ∧ k < 2 ^ 63 ∧ xs[k.toNat]? = some v ∧ Q v H
theorem get_listN : PGet X rGetN := by
  intro pins s σ H o i ov iv Q I ro ri h
  obtain ⟨p, xs, k, v, rfl, rfl, hp, h0, h1, hx, q⟩ := h
  cases ro
  obtain ⟨t, rfl⟩ := ri
  obtain ⟨its, n, r, ho, hz⟩ := I.lst hp
  obtain ⟨u, hu, ru⟩ := r.get hx
  exact wpAny_getItem_list ⟨_, ho, rfl, n, rfl⟩ h0 h1 (by simpa using hu) ⟨v, H, I, ru, q⟩
theorem opg_ipI {f : Int → Int → Int} : OpG K (ipI f) (onII fun i j => some (.int (f i j))) := fun F H x y d e z eF rx ry hz Q k => by
  cases rx <;> cases ry <;> first | (cases hz; done) | skip
  have e := Option.some.inj hz
  subst e
  exact ⟨_, _, rfl, rfl, k F H _ (Grow.refl eF) (.int _)⟩
def SAugO (i : Nat) (g : D → D → Option D) (fi fe : FE) : FS := fun ρ => match ρ[i]? with
  | some (.ow _ _) => bnd (fi ρ) fun k ρ1 => match k, ρ1[i]? with
    | .int k, some (.ow _ ds) => if 0 ≤ k ∧ k < 2 ^ 63 then match ds[k.toNat]? with
      | some d => bnd (fe ρ1) fun y ρ2 => match g d y, ρ2[i]? with
        | some z, some (.ow t es) => if k.toNat < es.length then some (.nx, ρ2.set i (.ow t (es.set k.toNat z))) else none
        | _, _ => none
      | none => none
      else none
    | _, _ => none
  | _ => none
theorem gs_augO (i : Nat) {x : Str} {op : Operator} {tip : TIp} {gg : D → D → Option D} {b e : Expr} {fi fe : FE} {px tpos : Pos} (ho : PIp X op tip) (hg : OpG X.K tip gg) (hb : GE X b fi) (he : GE X e fe) (hN : X.N[i]? = some x := by rfl)
    (hv : Vis X.env.scope x := by first | exact Or.inl rfl | exact Or.inr (Or.inl rfl) | exact Or.inr (Or.inr rfl)) (hd : (x == ("__debug__" : Str)) = false := by decide) (hcd : (x == ("__classdict__" : Str)) = false := by decide)
    (ha : ∀ ov iv new, augStore b ov iv new = (do holding [new, ov, iv] (setItem ov iv new); release [new, ov, iv] []; pure .next) := by intros; rfl) : GS X (.AugAssign (.Subscript (.Name x px) b tpos) op e pos) (SAugO i gg fi fe) := by
  obtain ⟨tb, h1, h2⟩ := hb
  obtain ⟨te, h3, h4⟩ := he
  refine ⟨_, ps_augS (pe_var hN hv hd hcd) h1 get_listN h3 ho set_list ha, fun pa w σ o ρ' R h E q => ?_⟩
  unfold SAugO at h
  split at h
  case h_2 => cases h
  rename_i t0 ds0 e0
  obtain ⟨k, ρ1, e1, h⟩ := bnd_eq h
  split at h
  case h_2 => cases h
  rename_i kk t1 ds e2
  split at h
  case isFalse => cases h
  rename_i hk
  split at h
  case h_2 => cases h
  rename_i d e3
  obtain ⟨y, ρ2, e4, h⟩ := bnd_eq h
  split at h
  case h_2 => cases h
  rename_i z t2 es e5 e6
  split at h
  case isFalse => cases h
  rename_i hl
  obtain ⟨q1, q2⟩ := Prod.mk.inj (Option.some.inj h)
  subst q1
  subst q2
  obtain ⟨a1, _, _, _⟩ := R.ow i t0 ds0 e0
  refine ⟨_, a1, h2 pa w σ _ ρ1 R e1 _ fun w1 v R1 p1 s1 r1 => ?_⟩
  cases r1
  subst p1
  obtain ⟨b1, _, ⟨us, b3, b4⟩, _⟩ := R1.ow i t1 ds e2
  have ea : w.al i = w1.al i := V.ref.inj (Option.some.inj (Option.some.inj (a1.symm.trans b1)))
  obtain ⟨v0, c1, c2⟩ := b4.get e3
  refine ⟨_, us, kk, v0, rfl, rfl, by rw [ea]; exact b3, hk.1, hk.2, c1, h4 pa w1 σ y ρ2 R1 e4 _ fun w2 v2 R2 p2 s2 r2 => ?_⟩
  subst p2
  refine hg w2.F w2.H v0 v2 d y z R2.ex (c2.mono s2.ex) r2 e5 _ fun F' H' u gr rp => ?_
  obtain ⟨R3, s3⟩ := R2.grow gr
  obtain ⟨d1, _, ⟨us', d3, d4⟩, _⟩ := R3.ow i t2 es e6
  have eb : w.al i = w2.al i := V.ref.inj (Option.some.inj (Option.some.inj (a1.symm.trans d1)))
  obtain ⟨R4, s4⟩ := R3.put e6 (d4.set rp kk.toNat)
  refine ⟨_, us', kk, kk.toNat, rfl, rfl, by rw [eb]; exact d3, ?_, ?_⟩
  · unfold ixN
    rw [if_pos hk.1, if_pos (by rw [d4.length]; omega)]
  · rw [eb]
    exact q _ σ R4 rfl (s1.trans (s2.trans (s3.trans s4)))
end
end Dn
end
section
set_option maxHeartbeats 4000000
/-! zip of three sequences of any kind. -/
namespace Dn
open PySem PySem.Spec PyProof.Rows L2

theorem nin2 {x y z : Addr} (h1 : x ≠ y) (h2 : x ≠ z) : x ∉ [y, z] := by
  simp only [List.mem_cons, List.not_mem_nil, or_false, not_or]
  exact ⟨h1, h2⟩
theorem apart3 (I a b c : Nat) (ha : a < I) (hb : b < I) (hc : c < I) : ZipSep3 (I + 5) (I + 3) (I + 4) I (I + 1) (I + 2) [I, a] [I + 1, b] [I + 2, c] where
  TIz := by refine PySem.W.neN ?_; omega
  TOz := by refine PySem.W.neN ?_; omega
  TITO := by refine PySem.W.neN ?_; omega
  TIi1 := by refine PySem.W.neN ?_; omega
  mem1 := List.mem_cons_self
  zf1 := nin2 (by refine PySem.W.neN ?_; omega) (by refine PySem.W.neN ?_; omega)
  Tf1 := nin2 (by refine PySem.W.neN ?_; omega) (by refine PySem.W.neN ?_; omega)
  TIi2 := by refine PySem.W.neN ?_; omega
  mem2 := List.mem_cons_self
  zf2 := nin2 (by refine PySem.W.neN ?_; omega) (by refine PySem.W.neN ?_; omega)
  Tf2 := nin2 (by refine PySem.W.neN ?_; omega) (by refine PySem.W.neN ?_; omega)
  TIi3 := by refine PySem.W.neN ?_; omega
  mem3 := List.mem_cons_self
  zf3 := nin2 (by refine PySem.W.neN ?_; omega) (by refine PySem.W.neN ?_; omega)
  Tf3 := nin2 (by refine PySem.W.neN ?_; omega) (by refine PySem.W.neN ?_; omega)
  sep1_2 := nin2 (by refine PySem.W.neN ?_; omega) (by refine PySem.W.neN ?_; omega)
  sep1_3 := nin2 (by refine PySem.W.neN ?_; omega) (by refine PySem.W.neN ?_; omega)
  sep2_1 := nin2 (by refine PySem.W.neN ?_; omega) (by refine PySem.W.neN ?_; omega)
  sep2_3 := nin2 (by refine PySem.W.neN ?_; omega) (by refine PySem.W.neN ?_; omega)
  sep3_1 := nin2 (by refine PySem.W.neN ?_; omega) (by refine PySem.W.neN ?_; omega)
  sep3_2 := nin2 (by refine PySem.W.neN ?_; omega) (by refine PySem.W.neN ?_; omega)
def Itz3 (K : PySem.W.Frag) (t u v : Bool) (a b c : Addr) (xs ys zs : List V) : It :=
  ⟨fun i H => (KS t K H a xs ∧ KS u K H b ys ∧ KS v K H c zs) ∧ i < xs.length ∧ i < ys.length ∧ i < zs.length,
    fun i H w H' => ∃ T x y z, w = .ref T ∧ H T = none ∧ H' = upd H T (.tup [x, y, z]) ∧ xs[i]? = some x ∧ ys[i]? = some y ∧ zs[i]? = some z,
    fun i H => (KS t K H a xs ∧ KS u K H b ys ∧ KS v K H c zs) ∧ (xs.length ≤ i ∨ ys.length ≤ i ∨ zs.length ≤ i)⟩
theorem mem6 {α : Type} {c z p q r s t : α} (h : c ∈ [z, p, q, r, s, t]) : c = z ∨ c = p ∨ c = q ∨ c = r ∨ c = s ∨ c = t := by simpa only [List.mem_cons, List.not_mem_nil, or_false] using h
theorem turn_z3 {P : Program} {w : World} {K : PySem.W.Frag} {elts : List Expr} {kk : Nat} {tpos : Pos} {t u v : Bool} {a b c z TI TO i1 i2 i3 : Addr} {xs ys zs : List V} (D : ZipSep3 z TI TO i1 i2 i3 [i1, a] [i2, b] [i3, c]) (ha : a ≠ i1) (hb : b ≠ i2) (hcc : c ≠ i3) :
    Turn P w K (.Tuple elts kk tpos) (Itz3 K t u v a b c xs ys zs) [z, TI, TO, i1, i2, i3] z (fun i h => (i ≤ xs.length ∧ i ≤ ys.length ∧ i ≤ zs.length) ∧ IsZip h z TI TO .none ∧ IsTupOf3 h TI (.ref i1) (.ref i2) (.ref i3) ∧ (∃ x y z, IsTupOf3 h TO x y z) ∧ KIt t h i1 a i ∧ KIt u h i2 b i ∧ KIt v h i3 c i) where
  mem := List.mem_cons_self
  obj := fun i h st c hc => by
    obtain ⟨_, g1, g2, ⟨x, y, z, g3⟩, g4, g5, g6⟩ := st
    rcases mem6 hc with q | q | q | q | q | q <;> subst q
    · exact ⟨_, g1, fun v q => nomatch q⟩
    · exact ⟨_, g2, fun v q => nomatch q⟩
    · exact ⟨_, g3, fun v q => nomatch q⟩
    · exact g4.cell
    · exact g5.cell
    · exact g6.cell
  keep := fun i h h' st k => by
    obtain ⟨g0, g1, g2, ⟨x, y, zz, g3⟩, g4, g5, g6⟩ := st
    exact ⟨g0, k z (by simp) _ g1, k TI (by simp) _ g2, ⟨x, y, zz, k TO (by simp) _ g3⟩, g4.keep (k i1 (by simp)), g5.keep (k i2 (by simp)), g6.keep (k i3 (by simp))⟩
  item := by
    intro X hP hw hK hc i pins s σ H E I hf st hg
    subst hP hw hK
    obtain ⟨g0, g1, g2, ⟨x0, y0, z0, g3⟩, g4, g5, g6⟩ := st
    obtain ⟨⟨ka, kb, kc⟩, hx, hy, hz⟩ := hg
    obtain ⟨its, rv, p⟩ := ka.inv I
    obtain ⟨its2, rv2, p2⟩ := kb.inv I
    obtain ⟨its3, rv3, p3⟩ := kc.inv I
    have l1 := rv.length
    have l2 := rv2.length
    have l3 := rv3.length
    have hzl : z < s.heap.objs.size := Heap.lt_size g1
    have hd : X.A.in1.handled = none := I.ok.hd hc
    refine wpAny_pyNext_zipD3_item D (kDraws hd t i1 a ha its.toArray) (kDraws hd u i2 b hb its2.toArray) (kDraws hd v i3 c hcc its3.toArray) g1 g2 g3 ⟨g4, p⟩ ⟨g5, p2⟩ ⟨g6, p3⟩ (by rw [List.size_toArray]; omega) (by rw [List.size_toArray]; omega) (by rw [List.size_toArray]; omega) fun v1 v2 v3 h' tk e1 e2 e3 n1 n2 n3 n4 n8 n5 n6 n7 => ?_
    obtain ⟨x, hvx, rx⟩ := vals_back rv (by simpa using e1)
    obtain ⟨y, hvy, ry⟩ := vals_back rv2 (by simpa using e2)
    obtain ⟨zz, hvz, rz⟩ := vals_back rv3 (by simpa using e3)
    refine ⟨_, rfl, wpAny_letOwnedTupleGo_zip (s := { s with heap := h', toks := tk }) n1 fun h'' z'' sb => ?_⟩
    have hT2 : h''.get? s.heap.objs.size = some { cls := .type "tuple", data := .seq #[v1, v2, v3] } := (sb.2 _ (Nat.ne_of_gt hzl)).trans n5
    have new : ObjOk X.prog X.w (upd H s.heap.objs.size (.tup [x, y, zz])) h'' s.heap.objs.size (.tup [x, y, zz]) :=
      ⟨by show 3 ≤ sizeLine; decide, [v1, v2, v3], .cons rx (.cons ry (.cons rz .nil)), ⟨_, hT2, rfl, _, rfl⟩⟩
    have out : ∀ q o, q ∉ [z, TI, TO, i1, i2, i3] → s.heap.get? q = some o → h''.get? q = some o := fun q o hq e =>
      (sb.2 q (fun q' => hq (by simp [q']))).trans (n7 q o (fun q' => hq (by simp [q'])) (fun q' => hq (by simp [q'])) (fun q' => hq (by simp [q'])) (fun q' => hq (by simp [q'])) (fun q' => hq (by simp [q'])) e)
    have I1 : Inv X pins σ (upd H s.heap.objs.size (.tup [x, y, zz])) { s with heap := h'', toks := tk } := I.turnedNew (ch := [z, TI, TO, i1, i2, i3]) out hf (Nat.le_refl _) new
    refine ⟨.ref s.heap.objs.size, _, I1, rfl, ⟨_, x, y, zz, rfl, I.hok.fresh (Nat.le_refl _), rfl, hvx, hvy, hvz⟩, ⟨⟨hx, hy, hz⟩, z'', ?_, ⟨v1, v2, v3, ?_⟩, ?_, ?_, ?_⟩, fun c hcm => ?_⟩
    · exact (sb.2 _ D.TIz).trans (n7 _ _ D.TIz D.TITO D.TIi1 D.TIi2 D.TIi3 g2)
    · exact (sb.2 _ D.TOz).trans n2
    · exact n3.1.keep fun o q => (sb.2 _ D.zi1.symm).trans q
    · exact n4.1.keep fun o q => (sb.2 _ D.zi2.symm).trans q
    · exact n8.1.keep fun o q => (sb.2 _ D.zi3.symm).trans q
    · have hlt : c < s.heap.objs.size := by
        rcases mem6 hcm with q | q | q | q | q | q <;> subst q
        · exact hzl
        · exact Heap.lt_size g2
        · exact Heap.lt_size g3
        · obtain ⟨_, e, _⟩ := g4.cell
          exact Heap.lt_size e
        · obtain ⟨_, e, _⟩ := g5.cell
          exact Heap.lt_size e
        · obtain ⟨_, e, _⟩ := g6.cell
          exact Heap.lt_size e
      rw [upd_ne (Nat.ne_of_lt hlt)]
      exact (hf c hcm).1
  done := by
    intro X hP hw hK hc i pins s σ H E I hf st hg
    subst hP hw hK
    obtain ⟨g0, g1, g2, ⟨x0, y0, z0, g3⟩, g4, g5, g6⟩ := st
    obtain ⟨⟨ka, kb, kc⟩, hend⟩ := hg
    obtain ⟨its, rv, p⟩ := ka.inv I
    obtain ⟨its2, rv2, p2⟩ := kb.inv I
    obtain ⟨its3, rv3, p3⟩ := kc.inv I
    have l1 := rv.length
    have l2 := rv2.length
    have l3 := rv3.length
    have hd : X.A.in1.handled = none := I.ok.hd hc
    exact wpAny_pyNext_zipD3_end D (kDraws hd t i1 a ha its.toArray) (kDraws hd u i2 b hb its2.toArray) (kDraws hd v i3 c hcc its3.toArray) g1 g2 g3 ⟨g4, p⟩ ⟨g5, p2⟩ ⟨g6, p3⟩ (by rw [List.size_toArray]; omega) (by rw [List.size_toArray]; omega) (by rw [List.size_toArray]; omega) (by rw [List.size_toArray, List.size_toArray, List.size_toArray]; omega) fun h' tk hk =>
      ⟨rfl, I.turnedL (ch := [z, TI, TO, i1, i2, i3]) (fun c o hb q => hk c o (fun q' => hb (by simp [q'])) (fun q' => hb (by simp [q'])) (fun q' => hb (by simp [q'])) (fun q' => hb (by simp [q'])) (fun q' => hb (by simp [q'])) q) hf⟩
  self := fun A i s Q E st h => wpAny_pyIter_zip st.2.1 h
def iZip3 (K : PySem.W.Frag) (ta : TA) : TI := fun σ H R => ta σ H fun vs H1 => ∃ a b c t u v xs ys zs, vs = [.ref a, .ref b, .ref c] ∧ (KS t K H1 a xs ∧ KS u K H1 b ys ∧ KS v K H1 c zs) ∧ R (Itz3 K t u v a b c xs ys zs) H1
theorem pi_zip3 {X : Cx} {e e2 e3 : Expr} {ta : TA} {p pos tpos : Pos} {elts : List Expr} {kk : Nat} (hg : Gl X "zip") (hm : X.mg "zip" = none) (ha : PA X [e, e2, e3] ta)
    (hs : starEach [e, e2, e3] X.env = (false, eval e X.env) :: starEach [e2, e3] X.env := by rfl) (hpl : (backTo pos (starEach [e2, e3] X.env)).any (·.1) = false := by rfl) :
    PI X (.Tuple elts kk tpos) (.Call (.Name "zip" p) [e, e2, e3] [] pos) (iZip3 X.K ta) := by
  refine ⟨fun pins s σ H R I h => ?_⟩
  refine Call_ (ld_blt I hg hm PyProof.Rows.boot_zip (PyProof.Rows.callWith_type1 (thn (ha.run pos pins s σ H _ I h) fun us s1 hv => ?_) hs hpl))
  obtain ⟨vs, H1, I1, r1, a, b, c, t, u, v, xs, ys, zs, ex, ⟨ka, kb, kc⟩, q⟩ := hv
  subst ex
  cases r1 with
  | cons r rr =>
    cases rr with
    | cons r' rr =>
      cases rr with
      | cons r'' rr =>
        cases rr
        cases r
        cases r'
        cases r''
        obtain ⟨its, rv, p1⟩ := ka.inv I1
        obtain ⟨its2, rv2, p2⟩ := kb.inv I1
        obtain ⟨its3, rv3, p3⟩ := kc.inv I1
        refine zip_begins3 (kBegins t a its.toArray) (kBegins u b its2.toArray) (kBegins v c its3.toArray) p1 p2 p3 fun h' hz hTI hTO h1 h2 h3 hsz hk => wpAny_pyIter_zip hz ?_
        have I2 : Inv X pins σ H1 { s1 with heap := h' } := I1.kept (t' := s1.toks) hk
        refine ⟨s1.heap.objs.size + 5, [s1.heap.objs.size + 5, s1.heap.objs.size + 3, s1.heap.objs.size + 4, s1.heap.objs.size, s1.heap.objs.size + 1, s1.heap.objs.size + 2], _, _, H1, rfl, I2, turn_z3 (apart3 s1.heap.objs.size a b c p1.lt p2.lt p3.lt) (Nat.ne_of_lt p1.lt) (Nat.ne_of_lt (Nat.lt_succ_of_lt p2.lt)) (Nat.ne_of_lt (Nat.lt_succ_of_lt (Nat.lt_succ_of_lt p3.lt))), ⟨⟨Nat.zero_le _, Nat.zero_le _, Nat.zero_le _⟩, hz, hTI, ⟨_, _, _, hTO⟩, kIt0 h1, kIt0 h2, kIt0 h3⟩, fp_new I1 fun c hc => ?_, q⟩
        rcases mem6 hc with q' | q' | q' | q' | q' | q' <;> rw [q'] <;> first | exact Nat.le_add_right _ _ | exact Nat.le_refl _
def z3D : List D → List D → List D → List D
  | x :: xs, y :: ys, z :: zs => D.tup [x, y, z] :: z3D xs ys zs
  | _, _, _ => []
theorem z3D_some : ∀ {xs ys zs : List D} {i : Nat} {d : D}, (z3D xs ys zs)[i]? = some d → ∃ x y z, xs[i]? = some x ∧ ys[i]? = some y ∧ zs[i]? = some z ∧ d = .tup [x, y, z]
  | x :: xs, y :: ys, z :: zs, 0, d, h => ⟨x, y, z, rfl, rfl, rfl, (Option.some.inj h).symm⟩
  | x :: xs, y :: ys, z :: zs, i + 1, d, h => by
    obtain ⟨x', y', z', h1, h2, h3, h4⟩ := z3D_some (xs := xs) (ys := ys) (zs := zs) (i := i) (d := d) h
    exact ⟨x', y', z', h1, h2, h3, h4⟩
  | [], _, _, _, _, h => by simp [z3D] at h
  | _ :: _, [], _, _, _, h => by simp [z3D] at h
  | _ :: _, _ :: _, [], _, _, h => by simp [z3D] at h
theorem z3D_none : ∀ {xs ys zs : List D} {i : Nat}, (z3D xs ys zs)[i]? = none → xs.length ≤ i ∨ ys.length ≤ i ∨ zs.length ≤ i
  | x :: xs, y :: ys, z :: zs, 0, h => by cases h
  | x :: xs, y :: ys, z :: zs, i + 1, h => by
    rcases z3D_none (xs := xs) (ys := ys) (zs := zs) (i := i) h with q | q | q
    · exact .inl (Nat.succ_le_succ q)
    · exact .inr (.inl (Nat.succ_le_succ q))
    · exact .inr (.inr (Nat.succ_le_succ q))
  | [], _, _, _, _ => .inl (Nat.zero_le _)
  | _ :: _, [], _, _, _ => .inr (.inl (Nat.zero_le _))
  | _ :: _, _ :: _, [], _, _ => .inr (.inr (Nat.zero_le _))
theorem jok_zip3 {K : PySem.W.Frag} {F : Hp} {t u v : Bool} {a b c : Addr} {xs ys zs : List V} {ds es fs : List D} (h : KS t K F a xs) (h' : KS u K F b ys) (h'' : KS v K F c zs) (r : RpA K F xs ds) (r' : RpA K F ys es) (r'' : RpA K F zs fs) : JOk K (Itz3 K t u v a b c xs ys zs) F (z3D ds es fs) := fun F1 H i e1 e2 => by
  have hs := h.ex (e1.trans e2)
  have hs' := h'.ex (e1.trans e2)
  have hs'' := h''.ex (e1.trans e2)
  refine ⟨fun d hd => ?_, fun hd => ⟨⟨hs, hs', hs''⟩, by rw [r.length, r'.length, r''.length]; exact z3D_none hd⟩⟩
  obtain ⟨x, y, z, hx, hy, hz, rfl⟩ := z3D_some hd
  obtain ⟨v1, a1, a2⟩ := r.get hx
  obtain ⟨v2, b1, b2⟩ := r'.get hy
  obtain ⟨v3, c1, c2⟩ := r''.get hz
  refine ⟨⟨⟨hs, hs', hs''⟩, (List.getElem?_eq_some_iff.mp a1).1, (List.getElem?_eq_some_iff.mp b1).1, (List.getElem?_eq_some_iff.mp c1).1⟩, fun zz H' ⟨T, p, q, r, ez, nT, eH, f1, f2, f3⟩ => ?_⟩
  subst ez
  subst eH
  rw [a1] at f1
  cases f1
  rw [b1] at f2
  cases f2
  rw [c1] at f3
  cases f3
  have g := Grow.new (o := .tup [v1, v2, v3]) e2 nT
  exact ⟨_, g, .tup (.inl (.inl upd_same)) (.cons ((a2.mono e1).mono g.e1) (.cons ((b2.mono e1).mono g.e1) (.cons ((c2.mono e1).mono g.e1) .nil)))⟩
def IZip3 (fa : FA) : FA := fun ρ => bnd (fa ρ) fun ds ρ1 => match ds with
  | [x, y, z] => match seqZ x, seqZ y, seqZ z with
    | some xs, some ys, some zs => some (z3D xs ys zs, ρ1)
    | _, _, _ => none
  | _ => none
section
variable {X : Cx} {pos : Pos}
theorem gi_zip3 {e e2 e3 : Expr} {fa : FA} {p tpos : Pos} {elts : List Expr} {kk : Nat} (ha : GA X [e, e2, e3] fa) (hm : X.mg "zip" = none) (hg : Gl X "zip" := by rfl)
    (hs : starEach [e, e2, e3] X.env = (false, eval e X.env) :: starEach [e2, e3] X.env := by rfl) (hpl : (backTo pos (starEach [e2, e3] X.env)).any (·.1) = false := by rfl) : GI X (.Tuple elts kk tpos) (.Call (.Name "zip" p) [e, e2, e3] [] pos) (IZip3 fa) := by
  obtain ⟨ta, a, b⟩ := ha
  refine ⟨_, pi_zip3 hg hm a hs hpl, fun pa w σ ds ρ' R h R' q => ?_⟩
  obtain ⟨es, ρ1, e1, h2⟩ := bnd_eq h
  refine b pa w σ es ρ1 R e1 _ fun w1 vs R1 p1 s1 r1 => ?_
  split at h2
  case h_2 => cases h2
  rename_i x y z
  split at h2
  case h_2 => cases h2
  rename_i xs ys zs z1 z2 z3
  obtain ⟨q1, q2⟩ := Prod.mk.inj (Option.some.inj h2)
  subst q1
  subst q2
  cases r1 with
  | cons r rr =>
    cases rr with
    | cons r' rr =>
      cases rr with
      | cons r'' rr =>
        cases rr
        obtain ⟨a, t, us, rfl, k1, k2⟩ := seqZ_ks r z1
        obtain ⟨b, u, ws, rfl, k3, k4⟩ := seqZ_ks r' z2
        obtain ⟨c, v, qs, rfl, k5, k6⟩ := seqZ_ks r'' z3
        exact ⟨a, b, c, t, u, v, us, ws, qs, rfl, ⟨k1.ex R1.ex, k3.ex R1.ex, k5.ex R1.ex⟩, q w1 _ R1 p1 s1 (jok_zip3 k1 k3 k5 k2 k4 k6)⟩
end
end Dn
end
section
/-! The pure side: polynomials as lists of coefficients. -/
namespace Dn
open PySem PySem.Spec PyProof.Rows L2
set_option maxHeartbeats 1000000
/-- a coefficient -/
def cf (l : List Int) (k : Nat) : Int := l.getD k 0
theorem cf_nil (k : Nat) : cf [] k = 0 := by simp [cf]
theorem cf_cons0 (a : Int) (l : List Int) : cf (a :: l) 0 = a := rfl
theorem cf_cons (a : Int) (l : List Int) (k : Nat) : cf (a :: l) (k + 1) = cf l k := rfl
theorem cf_big {l : List Int} {k : Nat} (h : l.length ≤ k) : cf l k = 0 := by
  unfold cf
  rw [List.getD_eq_getElem?_getD, List.getElem?_eq_none h]
  rfl
theorem cf_get {l : List Int} {k : Nat} (h : k < l.length) : l[k]? = some (cf l k) := by
  unfold cf
  rw [List.getD_eq_getElem?_getD, List.getElem?_eq_getElem h]
  rfl
theorem cf_ext {x y : List Int} (h : x.length = y.length) (e : ∀ k, k < x.length → cf x k = cf y k) : x = y := by
  refine List.ext_getElem? fun k => ?_
  by_cases hk : k < x.length
  · rw [cf_get hk, cf_get (by omega), e k hk]
  · rw [List.getElem?_eq_none (by omega), List.getElem?_eq_none (by omega)]
/-- two lists of residues that are alike -/
theorem eq_of_mo {p : Int} {x y : List Int} (hx : Rz p x) (hy : Rz p y) (h : x.length = y.length) (e : ∀ k, k < x.length → Mo p (cf x k) (cf y k)) : x = y := cf_ext h fun k hk => by
  have a := hx _ (List.mem_of_getElem? (cf_get hk))
  have b := hy _ (List.mem_of_getElem? (cf_get (show k < y.length by omega)))
  have m := (e k hk).eq
  rwa [Int.emod_eq_of_lt a.1 a.2, Int.emod_eq_of_lt b.1 b.2] at m
/-- the longer one ahead -/
def rsL (p : Int) (x y : List Int) : List Int := ((List.zip x y).map fun c => (c.1 + c.2) % p) ++ x.drop y.length
def rsum (p : Int) (x y : List Int) : List Int := if x.length < y.length then rsL p y x else rsL p x y
theorem rsL_len {p : Int} {x y : List Int} (h : y.length ≤ x.length) : (rsL p x y).length = x.length := by
  unfold rsL
  rw [List.length_append, List.length_map, List.length_zip, List.length_drop]
  omega
theorem rsL_cf {p : Int} : ∀ (x y : List Int) (k : Nat), Mo p (cf (rsL p x y) k) (if y.length ≤ x.length then cf x k + cf y k else cf (rsL p x y) k)
  | x, [], k => by
    have : rsL p x [] = x := by unfold rsL; rw [List.zip_nil_right]; rfl
    rw [this, if_pos (show ([] : List Int).length ≤ x.length from Nat.zero_le _), cf_nil, Int.add_zero]
    exact Mo.refl p _
  | [], b :: y, k => by
    rw [if_neg (by simp)]
    exact Mo.refl p _
  | a :: x, b :: y, 0 => by
    show Mo p ((a + b) % p) (if (b :: y).length ≤ (a :: x).length then a + b else (a + b) % p)
    split
    · exact Mo.mod p _
    · exact Mo.refl p _
  | a :: x, b :: y, k + 1 => by
    have ih : Mo p (cf (rsL p x y) k) (if y.length ≤ x.length then cf x k + cf y k else cf (rsL p x y) k) := rsL_cf x y k
    have e : ((b :: y).length ≤ (a :: x).length) = (y.length ≤ x.length) := by simp
    have e1 : cf (rsL p (a :: x) (b :: y)) (k + 1) = cf (rsL p x y) k := rfl
    rw [e1, cf_cons, cf_cons]
    simp only [e]
    exact ih
theorem rsum_len {p : Int} {x y : List Int} : (rsum p x y).length = max x.length y.length := by
  unfold rsum
  split
  · rw [rsL_len (by omega)]; omega
  · rw [rsL_len (by omega)]; omega
theorem rsum_cf {p : Int} (x y : List Int) (k : Nat) : Mo p (cf (rsum p x y) k) (cf x k + cf y k) := by
  unfold rsum
  split
  · have := rsL_cf (p := p) y x k
    rw [if_pos (by omega)] at this
    rw [Int.add_comm]
    exact this
  · have := rsL_cf (p := p) x y k
    rwa [if_pos (by omega)] at this
theorem rsL_Rz {p : Int} {x y : List Int} (hp : 0 < p) (hx : Rz p x) : Rz p (rsL p x y) := fun z hz => by
  rcases List.mem_append.mp hz with h | h
  · obtain ⟨c, _, rfl⟩ := List.mem_map.mp h
    exact ⟨Int.emod_nonneg _ (by omega), Int.emod_lt_of_pos _ hp⟩
  · exact hx z (List.mem_of_mem_drop h)
theorem rsum_Rz {p : Int} {x y : List Int} (hp : 0 < p) (hx : Rz p x) (hy : Rz p y) : Rz p (rsum p x y) := by
  unfold rsum
  split
  · exact rsL_Rz hp hy
  · exact rsL_Rz hp hx
def rsca (p : Int) (x : List Int) (r : Int) : List Int := x.map fun c => c * r % p
theorem rsca_len {p r : Int} {x : List Int} : (rsca p x r).length = x.length := List.length_map ..
theorem rsca_cf {p r : Int} : ∀ (x : List Int) (k : Nat), Mo p (cf (rsca p x r) k) (cf x k * r)
  | [], k => by
    rw [show rsca p [] r = [] from rfl, cf_nil, Int.zero_mul]
    exact Mo.refl p _
  | a :: x, 0 => Mo.mod p _
  | a :: x, k + 1 => rsca_cf x k
theorem rsca_Rz {p r : Int} {x : List Int} (hp : 0 < p) : Rz p (rsca p x r) := fun z hz => by
  obtain ⟨c, _, rfl⟩ := List.mem_map.mp hz
  exact ⟨Int.emod_nonneg _ (by omega), Int.emod_lt_of_pos _ hp⟩
def rdif (p : Int) (x y : List Int) : List Int := rsum p x (rsca p y (p - 1))
theorem rdif_len {p : Int} {x y : List Int} : (rdif p x y).length = max x.length y.length := by unfold rdif; rw [rsum_len, rsca_len]
theorem rdif_cf {p : Int} (x y : List Int) (k : Nat) : Mo p (cf (rdif p x y) k) (cf x k - cf y k) := by
  refine (rsum_cf x _ k).trans (((Mo.refl p _).add (rsca_cf y k)).trans ⟨cf y k, ?_⟩)
  grind
theorem rdif_Rz {p : Int} {x y : List Int} (hp : 0 < p) (hx : Rz p x) : Rz p (rdif p x y) := rsum_Rz hp hx (rsca_Rz hp)
/-- the product's coefficient -/
def pc : List Int → List Int → Nat → Int
  | [], _, _ => 0
  | a :: x, y, 0 => a * cf y 0
  | a :: x, y, k + 1 => a * cf y (k + 1) + pc x y k
/-- one line of sums -/
def addL (a : Int) : Nat → List Int → List Int → List Int
  | _, [], s => s
  | i, b :: y, s => addL a (i + 1) y (s.set i (cf s i + a * b))
def addLL (y : List Int) : Nat → List Int → List Int → List Int
  | _, [], s => s
  | i, a :: x, s => addLL y (i + 1) x (addL a i y s)
theorem cf_set {s : List Int} {i : Nat} {v : Int} (h : i < s.length) (k : Nat) : cf (s.set i v) k = if k = i then v else cf s k := by
  unfold cf
  rw [List.getD_eq_getElem?_getD, List.getD_eq_getElem?_getD]
  by_cases e : k = i
  · subst e
    rw [List.getElem?_set_self h, if_pos rfl]
    rfl
  · rw [List.getElem?_set_ne (fun z => e z.symm), if_neg e]
theorem addL_len (a : Int) : ∀ (i : Nat) (y s : List Int), (addL a i y s).length = s.length
  | _, [], _ => rfl
  | i, b :: y, s => by
    show (addL a (i + 1) y (s.set i (cf s i + a * b))).length = _
    rw [addL_len a (i + 1) y, List.length_set]
theorem addL_cf (a : Int) : ∀ (i : Nat) (y s : List Int) (k : Nat), i + y.length ≤ s.length → cf (addL a i y s) k = cf s k + if i ≤ k then a * cf y (k - i) else 0
  | i, [], s, k, h => by
    show cf s k = _
    rw [cf_nil, Int.mul_zero]
    split <;> omega
  | i, b :: y, s, k, h => by
    rw [List.length_cons] at h
    show cf (addL a (i + 1) y (s.set i (cf s i + a * b))) k = _
    rw [addL_cf a (i + 1) y _ k (by rw [List.length_set]; omega), cf_set (by omega)]
    by_cases e : k = i
    · subst e
      rw [if_pos rfl, if_neg (by omega), if_pos (Nat.le_refl _), Nat.sub_self, cf_cons0, Int.add_zero]
    · rw [if_neg e]
      by_cases e2 : i ≤ k
      · rw [if_pos (by omega), if_pos e2, show k - i = (k - (i + 1)) + 1 from by omega, cf_cons]
      · rw [if_neg (by omega), if_neg e2]
theorem addLL_len (y : List Int) : ∀ (i : Nat) (x s : List Int), (addLL y i x s).length = s.length
  | _, [], _ => rfl
  | i, a :: x, s => by
    show (addLL y (i + 1) x (addL a i y s)).length = _
    rw [addLL_len y (i + 1) x, addL_len]
theorem addLL_cf (y : List Int) : ∀ (i : Nat) (x s : List Int) (k : Nat), i + x.length + y.length ≤ s.length + 1 → cf (addLL y i x s) k = cf s k + if i ≤ k then pc x y (k - i) else 0
  | i, [], s, k, h => by
    show cf s k = cf s k + if i ≤ k then 0 else 0
    split <;> omega
  | i, a :: x, s, k, h => by
    rw [List.length_cons] at h
    show cf (addLL y (i + 1) x (addL a i y s)) k = _
    rw [addLL_cf y (i + 1) x _ k (by rw [addL_len]; omega), addL_cf a i y s k (by omega)]
    by_cases e : k = i
    · subst e
      rw [if_pos (Nat.le_refl _), if_neg (by omega), if_pos (Nat.le_refl _), Nat.sub_self, Int.add_zero]
      rfl
    · by_cases e2 : i ≤ k
      · rw [if_pos e2, if_pos (by omega), if_pos e2, show k - i = (k - (i + 1)) + 1 from by omega, Int.add_assoc]
        rfl
      · rw [if_neg e2, if_neg (by omega), if_neg e2, Int.add_zero]
def rprod (p : Int) (x y : List Int) : List Int := (addLL y 0 x (List.replicate (x.length + y.length - 1) 0)).map fun c => c % p
theorem rprod_len {p : Int} {x y : List Int} : (rprod p x y).length = x.length + y.length - 1 := by
  unfold rprod
  rw [List.length_map, addLL_len, List.length_replicate]
theorem cf_rep0 (n k : Nat) : cf (List.replicate n 0) k = 0 := by
  by_cases h : k < n
  · unfold cf
    rw [List.getD_eq_getElem?_getD, List.getElem?_replicate, if_pos h]
    rfl
  · exact cf_big (by rw [List.length_replicate]; omega)
theorem cf_mod {p : Int} : ∀ (l : List Int) (k : Nat), Mo p (cf (l.map fun c => c % p) k) (cf l k)
  | [], k => Mo.refl p _
  | a :: l, 0 => Mo.mod p _
  | a :: l, k + 1 => cf_mod l k
theorem rprod_cf {p : Int} (x y : List Int) (k : Nat) (h : 1 ≤ x.length + y.length) : Mo p (cf (rprod p x y) k) (pc x y k) := by
  refine (cf_mod _ k).trans ?_
  rw [addLL_cf y 0 x _ k (by rw [List.length_replicate]; omega), cf_rep0, if_pos (Nat.zero_le _), Nat.sub_zero, Int.zero_add]
  exact Mo.refl p _
theorem rprod_Rz {p : Int} {x y : List Int} (hp : 0 < p) : Rz p (rprod p x y) := fun z hz => by
  obtain ⟨c, _, rfl⟩ := List.mem_map.mp hz
  exact ⟨Int.emod_nonneg _ (by omega), Int.emod_lt_of_pos _ hp⟩
end Dn
end
section
set_option maxHeartbeats 4000000
/-! Two own lists stored at once, tuple(own list), list.index of data. -/
namespace Dn
open PySem PySem.Spec PyProof.Rows L2
section
variable {X : Cx} {K : PySem.W.Frag} {pos : Pos} {pa : Nat → Addr}
/-- a, b = x, y: both lists of one's own -/
def SPar_oo (i j : Nat) (f g : FL) : FS := fun ρ => bnd (f ρ) fun ds ρ1 => bnd (g ρ1) fun es ρ2 => if i < ρ2.length ∧ j < ρ2.length then some (.nx, (ρ2.set i (.ow none ds)).set j (.ow none es)) else none
theorem good_par_oo {i j : Nat} {ta tb : TE} {f g : FL} (hij : i ≠ j) (ha : GoodL K ta f) (hb : GoodL K tb g) : GoodS K (tPar i j (tCons ta (tCons tb tNil))) (SPar_oo i j f g) := fun pa w σ o ρ' R h E q => by
  obtain ⟨ds, ρ1, e1, h2⟩ := bnd_eq h
  obtain ⟨es, ρ2, e2, h3⟩ := bnd_eq h2
  split at h3
  case isFalse => cases h3
  rename_i hl
  obtain ⟨q1, q2⟩ := Prod.mk.inj (Option.some.inj h3)
  subst q1
  subst q2
  refine ha pa w σ ds ρ1 R e1 _ fun w1 P acc R1 p1 s1 h0 hA hF hO ra => ?_
  subst p1
  refine hb pa w1 σ es ρ2 R1 e2 _ fun w2 P' acc' R2 p2 s2 h0' hA' hF' hO' ra' => ?_
  subst p2
  have a2 : w2.H P = some (.lst acc) := s2.fr P _ hA hO
  have f2 : w2.F P = none := s2.ff P _ hA hO hF
  have o2 : ¬ Own w2 P := fun z => by
    rcases s2.ow P z with c | c
    · exact hO c
    · rw [hA] at c
      cases c
  have ne : P ≠ P' := fun z => by
    subst z
    rw [hA] at h0'
    cases h0'
  have R3 := R2.keep (i := i) hl.1 a2 f2 o2 (ra.mono s2.ex)
  have S3 := (s1.trans s2).keep (i := i) (ds := ds) h0 hl.1
  have o3 : ¬ Own ⟨w2.F, w2.H, fun j => if j = i then P else w2.al j, w2.ρ.set i (.ow none ds)⟩ P' := fun ⟨k, t, es, hk, ek⟩ => by
    dsimp only at hk ek
    by_cases z : i = k
    · subst z
      rw [if_pos rfl] at ek
      exact ne ek
    · rw [List.getElem?_set_ne z] at hk
      rw [if_neg (Ne.symm z)] at ek
      exact hO' ⟨k, t, es, hk, ek⟩
  have R4 := R3.keep (i := j) (by rw [List.length_set]; exact hl.2) hA' hF' o3 ra'
  have S4 := S3.keep (i := j) (ds := es) (s1.st P' h0') (by rw [List.length_set]; exact hl.2)
  exact ⟨_, _, rfl, q ⟨w2.F, w2.H, fun k => if k = j then P' else (if k = i then P else w2.al k), (w2.ρ.set i (.ow none ds)).set j (.ow none es)⟩ _ R4 rfl S4⟩
theorem gs_par_oo (i j : Nat) {x y : Str} {a b : Expr} {f g : FL} {px py pt pos : Pos} {kt k2 : Nat} {pt2 : Pos} (hN : X.N.Nodup) (ha : GL X a f) (hb : GL X b g) (hij : i ≠ j := by decide) (hc : X.calm = true := by rfl) (hi : X.N[i]? = some x := by rfl) (hj : X.N[j]? = some y := by rfl)
    (hx : X.env.scope.names.lookup x = some .local := by rfl) (hy : X.env.scope.names.lookup y = some .local := by rfl)
    (hw : swappedStores [.Tuple [.Name x px, .Name y py] kt pt] (.Tuple [a, b] k2 pt2) X.env = pure (some [x, y]) := by rfl)
    (hs : swapsWithSole [.Tuple [.Name x px, .Name y py] kt pt] (.Tuple [a, b] k2 pt2) pos.line X.env = pure false := by rfl)
    (s1 : starEach [a, b] X.env = (false, eval a X.env) :: starEach [b] X.env := by rfl) (s2 : starEach [b] X.env = (false, eval b X.env) :: starEach [] X.env := by rfl) :
    GS X (.Assign [.Tuple [.Name x px, .Name y py] kt pt] (.Tuple [a, b] k2 pt2) pos) (SPar_oo i j f g) := let ⟨_, a1, a2⟩ := ha; let ⟨_, b1, b2⟩ := hb; ⟨_, ps_par hc hN hi hj hij hx hy (pa_cons a1 (pa_cons b1 pa_nil s2) s1) hw hs, good_par_oo hij a2 b2⟩
/-- tuple(xs), xs a list of one's own -/
def FTupO (i : Nat) : FE := fun ρ => match ρ[i]? with
  | some (.ow _ ds) => some (.tup ds, ρ)
  | _ => none
theorem ge_tupO (i : Nat) {x : Str} {px p pos : Pos} (hm : X.mg "tuple" = none) (hN : X.N[i]? = some x := by rfl) (hv : Vis X.env.scope x := by first | exact Or.inl rfl | exact Or.inr (Or.inl rfl) | exact Or.inr (Or.inr rfl)) (hd : (x == ("__debug__" : Str)) = false := by decide)
    (hcd : (x == ("__classdict__" : Str)) = false := by decide) (hgl : Gl X "tuple" := by rfl) (hvb : bootBuiltins "tuple" = some (.type "tuple") := by decide +kernel) (hs : starEach [Expr.Name x px] X.env = (false, eval (.Name x px) X.env) :: starEach [] X.env := by rfl)
    (hpl : (backTo pos (starEach [] X.env)).any (·.1) = false := by rfl) : GE X (.Call (.Name "tuple" p) [.Name x px] [] pos) (FTupO i) := by
  refine ⟨_, pe_callTy cr_tuple hgl hm hvb (pa_cons (pe_var hN hv hd hcd) pa_nil hs) (by decide) (by decide) hs hpl, fun pa w σ d ρ' R h Q q => ?_⟩
  unfold FTupO at h
  split at h
  case h_2 => cases h
  rename_i t ds e
  obtain ⟨q1, q2⟩ := Prod.mk.inj (Option.some.inj h)
  subst q1
  subst q2
  obtain ⟨a1, a2, ⟨vs, a3, a4⟩, a5⟩ := R.ow i t ds e
  refine ⟨_, a1, _, vs, rfl, .inl ⟨.inl (.inl a3), fun l hl => ?_⟩⟩
  have g := Grow.new (o := .tup vs) R.ex hl
  obtain ⟨R2, s2⟩ := R.grow g
  exact q _ _ R2 rfl s2 (.tup (.inl (.inl upd_same)) (a4.mono g.e1))
/-- xs.index(y) -/
def idxD (y : PyData) : List PyData → Nat → Option Nat
  | [], _ => none
  | z :: zs, k => if PyData.eqv z y = true then some k else idxD y zs (k + 1)
theorem idxD_some (y : PyData) : ∀ (zs : List PyData) (k j : Nat), idxD y zs k = some j → ∃ i z, j = k + i ∧ zs[i]? = some z ∧ PyData.eqv z y = true ∧ ∀ (m : Nat) (z' : PyData), m < i → zs[m]? = some z' → PyData.eqv z' y = false
  | [], _, _, h => by cases h
  | z :: zs, k, j, h => by
    unfold idxD at h
    split at h
    · rename_i e
      cases h
      exact ⟨0, z, rfl, rfl, e, fun m _ hm => by omega⟩
    · rename_i e
      obtain ⟨i, z', h1, h2, h3, h4⟩ := idxD_some y zs (k + 1) j h
      refine ⟨i + 1, z', by omega, by simpa using h2, h3, fun m w hm hw => ?_⟩
      cases m with
      | zero =>
        have hw' : z = w := by simpa using hw
        subst hw'
        simpa using e
      | succ m => exact h4 m w (by omega) (by simpa using hw)
def gIndexL : D → List D → Option D
  | .lst ds, [y] => if pdOks ds = true ∧ pdOk y = true ∧ SeqAt.shaped (.list (toPDs ds)) = true ∧ SeqAt.shaped (toPD y) = true then (idxD (toPD y) (toPDs ds) 0).map fun j => D.int (j : Nat) else none
  | _, _ => none
def FIndexL (f : FE) (fa : FA) : FE := fun ρ => bnd (f ρ) fun d ρ1 => bnd (fa ρ1) fun es ρ2 => lft (gIndexL d es) ρ2
theorem ge_indexL {k : Nat} (rm : Rm X.A k) {o e : Expr} {f : FE} {fa : FA} {apos cpos : Pos} (ho : GE X o f) (ha : GA X [e] fa)
    (hbase : attributeBase o "index" X.env (eval o X.env) = eval o X.env := by rfl)
    (hfew : ((backTo cpos (starEach [e] X.env)).all (fun x => !x.1) && (backToKw cpos (keywordEach [] X.env)).all (fun x => x.1.isSome) && decide ([e].length + ([] : List Keyword).length + (if ([] : List Keyword).isEmpty then 0 else 1) < 30)) = true := by rfl)
    (hline : (apos.endLine == cpos.line) = true := by rfl) (hs : starEach [e] X.env = (false, eval e X.env) :: starEach [] X.env := by rfl) (hplain : (backTo cpos (starEach [] X.env)).any (·.1) = false := by rfl) :
    GE X (.Call (.Attribute o "index" apos) [e] [] cpos) (FIndexL f fa) := by
  obtain ⟨to, a1, a2⟩ := ho
  obtain ⟨ta, b1, b2⟩ := ha
  refine ⟨_, pe_bm PySem.F.plainAttrs_list PySem.F.slot_list_index PySem.F.type_list_index (mt_indexD (by have := rm.room.un; omega)) a1 b1 hbase hfew hline hs hplain, fun pa w σ d ρ' R h Q q => ?_⟩
  obtain ⟨x, ρ1, e1, h1⟩ := bnd_eq h
  obtain ⟨es, ρ2, e2, h2⟩ := bnd_eq h1
  obtain ⟨z, e3, h3⟩ := lft_eq h2
  obtain ⟨q1, q2⟩ := Prod.mk.inj h3
  subst q1
  subst q2
  refine a2 pa w σ x ρ1 R e1 _ fun w1 v R1 p1 s1 r1 => ?_
  subst p1
  unfold gIndexL at e3
  split at e3
  case h_2 => cases e3
  rename_i ds y
  split at e3
  case isFalse => cases e3
  rename_i hc
  obtain ⟨c1, c2, c3, c4⟩ := hc
  cases r1 with
  | @lst a vs _ hs1 ra =>
    refine ⟨.inl ⟨rfl, _, .inl (.inl (R1.ex _ _ hs1))⟩, b2 pa w1 σ [y] ρ' R1 e2 _ fun w2 us R2 p2 s2 r2 => ?_⟩
    subst p2
    obtain ⟨j, ej, e4⟩ := Option.map_eq_some_iff.mp e3
    subst e4
    obtain ⟨i, z, i1, i2, i3, i4⟩ := idxD_some _ _ _ _ ej
    have ji : j = i := by omega
    subst ji
    cases r2 with
    | cons ry rr =>
      cases rr
      exact ⟨a, _, toPD y, toPDs ds, j, z, rfl, rfl, .lst (.inl (.inl (R2.ex _ _ (s2.ex _ _ hs1)))) (RpA.dp R2.ex ds _ (ra.mono s2.ex) c1), ry.dp R2.ex y _ c2, c3, c4, i2, i3, i4, q w2 _ R2 rfl (s1.trans s2) (.int _)⟩
/-- where it is -/
theorem idxD_at {y : PyData} : ∀ (zs : List PyData) (k i : Nat) (z : PyData), zs[i]? = some z → PyData.eqv z y = true → (∀ (m : Nat) (z' : PyData), m < i → zs[m]? = some z' → PyData.eqv z' y = false) → idxD y zs k = some (k + i)
  | [], _, _, _, h, _, _ => by cases h
  | z :: zs, k, 0, z', h, e, _ => by
    have : z = z' := by simpa using h
    subst this
    unfold idxD
    rw [if_pos e]
    rfl
  | z :: zs, k, i + 1, z', h, e, hn => by
    unfold idxD
    rw [if_neg (by rw [hn 0 z (by omega) rfl]; decide), idxD_at zs (k + 1) i z' (by simpa using h) e fun m w hm hw => hn (m + 1) w (by omega) (by simpa using hw)]
    congr 1
    omega
end
end Dn
end
section
set_option maxHeartbeats 4000000
/-! tuple * n for every n up to 1000, pop(), reversed, list.count, `in` a list of one's own. -/
namespace Dn
open PySem PySem.Spec PyProof.Rows L2
theorem tuple_mul1 (l : Addr) (items : Array Value) (n : Nat) (dd : Option Addr) (sl : Array (Option Value)) (u : Tok) :
    Meets (Builtin.«tuple.__mul__» ⟨[.ref l, .int 1 u], []⟩) (fun _ R s => s.heap.get? l = some { cls := .type "tuple", dict := dd, data := .seq items n, slots := sl } ∧ R (.ok (.ret (Value.ref l))) s) :=
  .of_wp fun prog w A R s h => by
    obtain ⟨hp, g, d, tk, os⟩ := s
    obtain ⟨hl, h⟩ := h
    have f1 := AutoSeq1.idx_int
    have c1 : (items.isEmpty || (1 : Int) == 1) = true := by simp
    wp_walk using wpAny_loadPart' hl
    repeat (first
      | (refine wpAny_ite_false (decide_eq_false (by decide)) ?_; wp_walk using wpAny_loadPart' hl)
      | (refine wpAny_ite_true (by simp) ?_; wp_walk using wpAny_loadPart' hl))
    exact ⟨_, rfl, h⟩
theorem tuple_mul0 (l : Addr) (items : Array Value) (n : Nat) (dd : Option Addr) (sl : Array (Option Value)) (x : Int) (u : Tok) (h0 : x ≤ 0) (h1 : -(2 ^ 63) ≤ x) (hne : items.isEmpty = false) :
    Meets (Builtin.«tuple.__mul__» ⟨[.ref l, .int x u], []⟩) (fun _ R s => s.heap.get? l = some { cls := .type "tuple", dict := dd, data := .seq items n, slots := sl } ∧
      R (.ok (.ret (Value.ref s.heap.objs.size))) { s with heap := s.heap.push { cls := Value.type "tuple", data := Data.seq #[] }, toks := s.toks }) :=
  .of_wp fun prog w A R s h => by
    obtain ⟨hp, g, d, tk, os⟩ := s
    obtain ⟨hl, h⟩ := h
    have f1 := AutoSeq1.idx_int
    have c0 : (decide (x < -(2 ^ 63)) || decide (x ≥ 2 ^ 63)) = false := by
      rw [decide_eq_false (by omega), decide_eq_false (by omega)] <;> rfl
    have c1 : (items.isEmpty || x == 1) = false := by
      rw [hne, Bool.false_or]
      exact beq_eq_false_iff_ne.mpr (by omega)
    have c2 : (decide (x ≤ 0) || items.isEmpty) = true := by
      rw [decide_eq_true h0] <;> rfl
    wp_walk using wpAny_loadPart' hl
    repeat (first
      | (refine wpAny_ite_false (decide_eq_false (by rw [c0]; exact Bool.false_ne_true)) ?_; wp_walk using wpAny_loadPart' hl)
      | (refine wpAny_ite_false (decide_eq_false (by rw [c1]; exact Bool.false_ne_true)) ?_; wp_walk using wpAny_loadPart' hl)
      | (refine wpAny_ite_true (decide_eq_true (by rw [c2])) ?_; wp_walk using wpAny_loadPart' hl))
    exact ⟨_, rfl, h⟩
section
variable {X : Cx} {K : PySem.W.Frag} {pos : Pos}
def rRepTG (K : PySem.W.Frag) : R2 := fun x y H Q => rRepT K x y H Q ∨ ∃ l k xs, x = .ref l ∧ y = .int k ∧ SqT K H l xs ∧ xs ≠ [] ∧ -1000 ≤ k ∧ ((k = 1 ∧ Q (.ref l) H) ∨ (k ≤ 0 ∧ ∀ p, H p = none → Q (.ref p) (upd H p (.tup []))))
theorem op_repTG : OpR X (binaryOp .Mult) (rRepTG X.K) := by
  intro pins s σ H x y v u Q I rx ry h
  rcases h with h | h
  · exact op_repT pins s σ H x y v u Q I rx ry h
  obtain ⟨l, k, xs, rfl, rfl, hT, hne, hk, q⟩ := h
  cases rx
  obtain ⟨t, rfl⟩ := ry
  obtain ⟨its, r, ⟨⟨cls, dd, data, sl⟩, ho, hc, n, hd⟩, hs⟩ := I.tuple hT
  simp only at hc hd
  subst hc hd
  have hle : its.length = xs.length := r.length.symm
  have hn : its ≠ [] := fun e => hne (by
    rw [e] at hle
    exact List.eq_nil_of_length_eq_zero hle.symm)
  have hi : its.toArray.isEmpty = false := by
    cases its with
    | nil => exact absurd rfl hn
    | cons a b => rfl
  rcases q with ⟨rfl, q⟩ | ⟨k0, q⟩
  · refine wpAny_binaryOp_repeat_ref (T := "tuple") (U := "int") (by decide) ⟨_, ho, rfl⟩ (fun s' => typeIs_int s' 1 t) noFill_tuple_mul F.fills_int_mul F.slot_int_rmul repeat_tuple F.slot_int_index.lookup
      (call_meets F.slot_int_rmul (typeIs_int s 1 t) F.entry_int_rmul (F.args_int_rmul_2 _ _) (int_rmul_tuple 1 t l its.toArray n dd sl)
        ⟨ho, rfl, ⟨_, ho, rfl⟩, call_meets F.slot_tuple_mul ⟨_, ho, rfl⟩ F.entry_tuple_mul (F.args_tuple_mul_2 _ _) (tuple_mul1 l its.toArray n dd sl t) ⟨ho, ?_⟩⟩)
    exact ⟨.ref l, H, I, rfl, q⟩
  · refine wpAny_binaryOp_repeat_ref (T := "tuple") (U := "int") (by decide) ⟨_, ho, rfl⟩ (fun s' => typeIs_int s' k t) noFill_tuple_mul F.fills_int_mul F.slot_int_rmul repeat_tuple F.slot_int_index.lookup
      (call_meets F.slot_int_rmul (typeIs_int s k t) F.entry_int_rmul (F.args_int_rmul_2 _ _) (int_rmul_tuple k t l its.toArray n dd sl)
        ⟨ho, rfl, ⟨_, ho, rfl⟩, call_meets F.slot_tuple_mul ⟨_, ho, rfl⟩ F.entry_tuple_mul (F.args_tuple_mul_2 _ _) (tuple_mul0 l its.toArray n dd sl k t k0 (by omega) hi) ⟨ho, ?_⟩⟩)
    refine ⟨.ref s.heap.objs.size, _, I.laid (t' := s.toks) (o := .tup []) (fun b ob q => Heap.get?_push_of_some _ q) (Nat.le_refl _) ?_, rfl, q _ (I.hok.fresh (Nat.le_refl _))⟩
    exact ⟨Nat.zero_le _, [], .nil, IsTup.new _ _⟩
def gRepT : D → D → Option D
  | .tup ds, .int k => if ds ≠ [] ∧ ds.length ≤ 1000 ∧ -1000 ≤ k ∧ k ≤ 1000 then some (.tup (List.replicate k.toNat ds).flatten) else none
  | _, _ => none
theorem opg_repT : OpG K (rRepTG K) gRepT := fun F H x y d e z eF rx ry hz Q k => by
  unfold gRepT at hz
  split at hz
  case h_2 => cases hz
  rename_i ds i
  split at hz
  case isFalse => cases hz
  rename_i hc
  obtain ⟨c1, c2, c3, c4⟩ := hc
  have ez := Option.some.inj hz
  subst ez
  cases ry
  cases rx with
  | @tup a vs _ hs ra =>
    have hne : vs ≠ [] := fun q => by
      subst q
      cases ra
      exact c1 rfl
    have hl := ra.length
    by_cases h1 : i = 1
    · subst h1
      refine .inr ⟨a, 1, vs, rfl, rfl, eF.t hs, hne, by omega, .inl ⟨rfl, ?_⟩⟩
      have e : (List.replicate (1 : Int).toNat ds).flatten = ds := by simp
      exact k F H _ (Grow.refl eF) (by rw [e]; exact .tup hs ra)
    · by_cases h2 : i ≤ 0
      · refine .inr ⟨a, i, vs, rfl, rfl, eF.t hs, hne, c3, .inr ⟨h2, fun p hp => ?_⟩⟩
        have g := Grow.new (o := .tup []) eF hp
        have e : (List.replicate i.toNat ds).flatten = [] := by
          rw [Int.toNat_of_nonpos h2]
          rfl
        exact k _ _ _ g (by rw [e]; exact .tup (.inl (.inl upd_same)) .nil)
      · refine .inl ⟨a, i, vs, rfl, rfl, eF.t hs, hne, by omega, c4, by omega, fun p hp => ?_⟩
        have g := Grow.new (o := .tup (List.replicate i.toNat vs).flatten) eF hp
        exact k _ _ _ g (.tup (.inl (.inl upd_same)) ((ra.mono g.e1).rep _))
/-- own.pop() -/
def FPop (i : Nat) : FE := fun ρ => match ρ[i]? with
  | some (.ow t ds) => match ds[ds.length - 1]? with
    | some d => some (d, ρ.set i (.ow t ds.dropLast))
    | none => none
  | _ => none
theorem RpA.dropLast {F : Hp} {vs : List V} {ds : List D} (h : RpA K F vs ds) : RpA K F vs.dropLast ds.dropLast := by
  rw [List.dropLast_eq_take, List.dropLast_eq_take, h.length]
  exact h.take _
theorem ge_pop (i : Nat) {x : Str} {px apos cpos : Pos} (hN : X.N[i]? = some x := by rfl) (hv : Vis X.env.scope x := by first | exact Or.inl rfl | exact Or.inr (Or.inl rfl) | exact Or.inr (Or.inr rfl)) (hd : (x == ("__debug__" : Str)) = false := by decide)
    (hcd : (x == ("__classdict__" : Str)) = false := by decide) (hbase : attributeBase (.Name x px) "pop" X.env (eval (.Name x px) X.env) = eval (.Name x px) X.env := by rfl) (hline : (apos.endLine == cpos.line) = true := by rfl) :
    GE X (.Call (.Attribute (.Name x px) "pop" apos) [] [] cpos) (FPop i) := by
  refine ⟨_, pe_bm0 PySem.F.plainAttrs_list PySem.F.slot_list_pop PySem.F.type_list_pop mt_pop (pe_var hN hv hd hcd) hbase hline, fun pa w σ d ρ' R h Q q => ?_⟩
  unfold FPop at h
  split at h
  case h_2 => cases h
  rename_i t ds e0
  split at h
  case h_2 => cases h
  rename_i z hz
  obtain ⟨q1, q2⟩ := Prod.mk.inj (Option.some.inj h)
  subst q1
  subst q2
  obtain ⟨a1, a2, ⟨us, a3, a4⟩, a5⟩ := R.ow i t ds e0
  obtain ⟨v, h1, h2⟩ := a4.get hz
  obtain ⟨R2, s2⟩ := R.put e0 a4.dropLast
  exact ⟨_, a1, .inl ⟨rfl, _, .inl (.inl a3)⟩, w.al i, us, v, rfl, rfl, a3, by rw [a4.length]; exact h1, q _ v R2 rfl s2 h2⟩
/-- reversed(x) -/
def IRev (f : FE) : FA := fun ρ => bnd (f ρ) fun d ρ1 => match seqZ d with
  | some ds => some (ds.reverse, ρ1)
  | none => none
theorem rev_get {α : Type} {xs : List α} {i : Nat} (h : i < xs.length) : xs.reverse[i]? = xs[xs.length - 1 - i]? := by
  rw [List.getElem?_reverse h]
theorem jok_revL {F : Hp} {a : Addr} {xs : List V} {ds : List D} (h : SqL K F a xs) (r : RpA K F xs ds) : JOk K (Itv K a xs.length) F ds.reverse := fun F1 H i e1 e2 => by
  have hs := (e1.trans e2).l h
  have hl := r.length
  refine ⟨fun d hd => ?_, fun hd => ?_⟩
  · have hi : i < ds.length := by
      have := (List.getElem?_eq_some_iff.mp hd).1
      rwa [List.length_reverse] at this
    rw [rev_get hi] at hd
    obtain ⟨v, h1, h2⟩ := r.get hd
    rw [← hl] at h1
    refine ⟨⟨by omega, xs, v, hs, h1⟩, fun z H' ⟨eH, f1⟩ => ?_⟩
    subst eH
    have := f1 xs hs
    rw [h1] at this
    have ez := Option.some.inj this
    subst ez
    exact ⟨F1, Grow.refl e2, h2.mono e1⟩
  · rw [List.getElem?_eq_none_iff, List.length_reverse] at hd
    show xs.length ≤ i
    omega
theorem jok_revT {F : Hp} {a : Addr} {xs : List V} {ds : List D} (h : SqT K F a xs) (r : RpA K F xs ds) : JOk K (RT.ItvT K a xs.length) F ds.reverse := fun F1 H i e1 e2 => by
  have hs := (e1.trans e2).t h
  have hl := r.length
  refine ⟨fun d hd => ?_, fun hd => ?_⟩
  · have hi : i < ds.length := by
      have := (List.getElem?_eq_some_iff.mp hd).1
      rwa [List.length_reverse] at this
    rw [rev_get hi] at hd
    obtain ⟨v, h1, h2⟩ := r.get hd
    rw [← hl] at h1
    refine ⟨⟨by omega, xs, v, hs, h1⟩, fun z H' ⟨eH, f1⟩ => ?_⟩
    subst eH
    have := f1 xs hs
    rw [h1] at this
    have ez := Option.some.inj this
    subst ez
    exact ⟨F1, Grow.refl e2, h2.mono e1⟩
  · rw [List.getElem?_eq_none_iff, List.length_reverse] at hd
    show xs.length ≤ i
    omega
theorem gi_rev {tg e : Expr} {f : FE} {p : Pos} (he : GE X e f) (hm : X.mg "reversed" = none) (hg : Gl X "reversed" := by rfl) (hs : starEach [e] X.env = (false, eval e X.env) :: starEach [] X.env := by rfl) : GI X tg (.Call (.Name "reversed" p) [e] [] pos) (IRev f) := by
  obtain ⟨te, a, b⟩ := he
  refine ⟨_, RT.pi_revA hg hm a hs, fun pa w σ ds ρ' R h R' q => ?_⟩
  obtain ⟨d, ρ1, e1, h2⟩ := bnd_eq h
  split at h2
  case h_2 => cases h2
  rename_i xs z1
  obtain ⟨q1, q2⟩ := Prod.mk.inj (Option.some.inj h2)
  subst q1
  subst q2
  refine b pa w σ d _ R e1 _ fun w1 v R1 p1 s1 r1 => ?_
  obtain ⟨a, t, us, rfl, k1, k2⟩ := seqZ_ks r1 z1
  have k3 := k1.ex R1.ex
  refine ⟨a, us, rfl, ?_⟩
  cases t
  · exact .inl ⟨k3, q w1 _ R1 p1 s1 (jok_revL k1 k2)⟩
  · exact .inr ⟨k3, q w1 _ R1 p1 s1 (jok_revT k1 k2)⟩
end
end Dn
end
section
set_option maxHeartbeats 1000000
/-! The pure side: more of loops, pops, tuples * n. -/
namespace Dn
open PySem PySem.Spec PyProof.Rows L2
theorem SLoop_cons {g : FT} {body : FS} {d : D} {ds : List D} {ρ ρ1 ρ2 : List Sl} {x : Option (Ou × List Sl)} (h1 : g d ρ = some ρ1) (h2 : body ρ1 = some (.nx, ρ2)) (h3 : SLoop g body ds ρ2 = x) : SLoop g body (d :: ds) ρ = x := by
  unfold SLoop
  rw [h1]
  dsimp only
  rw [h2]
  exact h3
theorem SLoop_snoc {g : FT} {body : FS} {α β : Type} (e : α → D) (h : α → β) (R : List β → List Sl → Prop) (M : Nat) : ∀ (xs : List α) (acc : List β) (ρ : List Sl), acc.length + xs.length ≤ M → R acc ρ →
    (∀ x ∈ xs, ∀ acc ρ, acc.length < M → R acc ρ → ∃ ρ1 ρ2, g (e x) ρ = some ρ1 ∧ body ρ1 = some (.nx, ρ2) ∧ R (acc ++ [h x]) ρ2) → ∃ ρ', SLoop g body (xs.map e) ρ = some (.nx, ρ') ∧ R (acc ++ xs.map h) ρ'
  | [], acc, ρ, _, r, _ => ⟨ρ, rfl, by rw [List.map_nil, List.append_nil]; exact r⟩
  | x :: xs, acc, ρ, hM, r, s => by
    rw [List.length_cons] at hM
    obtain ⟨ρ1, ρ2, h1, h2, h3⟩ := s x List.mem_cons_self acc ρ (by omega) r
    obtain ⟨ρ', h4, h5⟩ := SLoop_snoc e h R M xs (acc ++ [h x]) ρ2 (by rw [List.length_append]; simp only [List.length_cons, List.length_nil]; omega) h3 fun y hy => s y (List.mem_cons_of_mem _ hy)
    refine ⟨ρ', ?_, ?_⟩
    · rw [List.map_cons]
      exact SLoop_cons h1 h2 h4
    · rw [List.append_assoc] at h5
      exact h5
theorem toPDs_get : ∀ (xs : List D) (i : Nat), (toPDs xs)[i]? = (xs[i]?).map toPD
  | [], _ => by simp [toPDs]
  | x :: xs, 0 => by simp [toPDs]
  | x :: xs, i + 1 => by
    show (toPDs xs)[i]? = _
    rw [toPDs_get xs i, List.getElem?_cons_succ]
theorem eqv_T (x y : List Int) : PyData.eqv (toPD (T x)) (toPD (T y)) = decide (x = y) := eqv_ints x y
theorem seqIx_nat {r : Int} {n : Nat} (h0 : 0 ≤ r) (h1 : r < (n : Nat)) (hl : n ≤ 1000000) : seqIx r n = some r.toNat := by
  unfold seqIx
  rw [if_pos ⟨by omega, by omega⟩]
  have n0 : ¬ r < 0 := by omega
  simp only [seqIndex?, n0, if_false, h0, h1, decide_true, Bool.and_self, if_true]
theorem popAt_ok {xs : List Int} {r : Int} (h0 : 0 ≤ r) (h1 : r < (xs.length : Nat)) (hl : xs.length ≤ 1000000) : ∃ x, xs[r.toNat]? = some x ∧ mPopAt (xs.map D.int) [.int r] = some (.int x, (xs.eraseIdx r.toNat).map D.int) := by
  have hr : r.toNat < xs.length := by omega
  refine ⟨xs[r.toNat], List.getElem?_eq_getElem hr, ?_⟩
  have e1 : seqIx r (xs.map D.int).length = some r.toNat := by
    rw [List.length_map]
    exact seqIx_nat h0 h1 hl
  unfold mPopAt
  dsimp only
  rw [e1]
  dsimp only
  rw [List.getElem?_map, List.getElem?_eq_getElem hr]
  dsimp only [Option.map]
  rw [List.eraseIdx_eq_take_drop_succ, List.eraseIdx_eq_take_drop_succ, List.map_append, List.map_take, List.map_drop]
theorem erase_perm {α : Type} {xs : List α} {i : Nat} {x : α} (h : xs[i]? = some x) : (x :: xs.eraseIdx i).Perm xs := by
  obtain ⟨hi, e⟩ := List.getElem?_eq_some_iff.mp h
  subst e
  rw [List.eraseIdx_eq_take_drop_succ]
  have e2 : xs = xs.take i ++ xs[i] :: xs.drop (i + 1) := by
    rw [← List.drop_eq_getElem_cons hi, List.take_append_drop]
  exact (List.perm_middle.symm).trans (List.Perm.of_eq e2.symm)
theorem flat_rep {α : Type} (x : α) : ∀ n : Nat, (List.replicate n [x]).flatten = List.replicate n x
  | 0 => rfl
  | n + 1 => by
    rw [List.replicate_succ, List.flatten_cons, flat_rep x n, List.replicate_succ]
    rfl
/-- (x,) * n -/
theorem gRepT_one {d : D} {i : Int} (h0 : -1000 ≤ i) (h1 : i ≤ 1000) : gRepT (.tup [d]) (.int i) = some (.tup (List.replicate i.toNat d)) := by
  unfold gRepT
  dsimp only
  rw [if_pos ⟨by simp, by simp only [List.length_cons, List.length_nil]; omega, h0, h1⟩, flat_rep]
/-- [x] * n, a list that stays -/
theorem gMul_one {d : D} {i : Int} (h0 : 0 ≤ i) (h1 : i ≤ 100000) : gMul (.lst [d]) (.int i) = some (.lst (List.replicate i.toNat d)) := by
  unfold gMul
  dsimp only
  rw [if_pos ⟨by omega, by omega, by simp only [List.length_cons, List.length_nil]; omega⟩, flat_rep]
theorem gAdd_lst {xs ys : List D} (h : xs.length + ys.length ≤ 16777216) : gAdd (.lst xs) (.lst ys) = some (.lst (xs ++ ys)) := if_pos h
theorem gAdd_tup {xs ys : List D} (h : xs.length + ys.length ≤ 16777216) : gAdd (.tup xs) (.tup ys) = some (.tup (xs ++ ys)) := if_pos h
theorem gMax_int (i j : Int) : gMax [.int i, .int j] = some (.int (max i j)) := by
  show some (D.int (if j > i then j else i)) = _
  congr 2
  split <;> omega
theorem gMin_int (i j : Int) : gMin [.int i, .int j] = some (.int (min i j)) := by
  show some (D.int (if j < i then j else i)) = _
  congr 2
  split <;> omega
theorem lrg_ok {n : Int} {ρ : List Sl} (f : FE) (h : f ρ = some (.int n, ρ)) (h0 : 0 ≤ n) (h1 : n ≤ 10000000) : LRg1 f ρ = some ((List.range n.toNat).map fun i => D.int (i : Nat), ρ) := by
  unfold LRg1
  rw [h, bnd_some]
  dsimp only
  rw [if_pos ⟨by omega, by omega⟩, rngD_eq]
theorem rng1_ok {n : Int} {ρ ρ1 : List Sl} (f : FE) (h : f ρ = some (.int n, ρ1)) (h0 : 0 ≤ n) (h1 : n < 1000000) : IRange1 (ACons f ANil) ρ = some ((List.range n.toNat).map fun i => D.int (i : Nat), ρ1) := by
  unfold IRange1
  rw [show ACons f ANil ρ = some ([.int n], ρ1) from by unfold ACons ANil; rw [h]; rfl, bnd_some]
  dsimp only
  rw [if_pos ⟨by omega, by omega⟩, rngD_eq]
/-- a comprehension with a test -/
theorem CLoop_filter {g : FT} {c : FB} {elt : FE} {vs : List Nat} {α : Type} (e h : α → D) (b : α → Bool) (ρ : List Sl) : ∀ (xs : List α), (∀ x ∈ xs, ∃ ρ1 ρ2, g (e x) ρ = some ρ1 ∧ c ρ1 = some (b x, ρ2) ∧ (b x = false → wipeS ρ2 vs = ρ) ∧ (b x = true → ∃ ρ3, elt ρ2 = some (h x, ρ3) ∧ wipeS ρ3 vs = ρ)) →
    CLoop vs g c elt (xs.map e) ρ = some ((xs.filter b).map h, ρ)
  | [], _ => rfl
  | x :: xs, s => by
    obtain ⟨ρ1, ρ2, h1, h2, h3, h4⟩ := s x List.mem_cons_self
    have ih := CLoop_filter e h b ρ xs fun y hy => s y (List.mem_cons_of_mem _ hy)
    rw [List.map_cons]
    unfold CLoop
    rw [h1]
    dsimp only
    rw [h2, bnd_some]
    cases hb : b x with
    | true =>
      obtain ⟨ρ3, h5, h6⟩ := h4 hb
      rw [if_pos rfl, h5, bnd_some, h6, ih, List.filter_cons_of_pos hb]
      rfl
    | false =>
      rw [if_neg Bool.false_ne_true, h3 hb, ih, List.filter_cons_of_neg (by rw [hb]; decide)]
end Dn
end
section
set_option maxHeartbeats 4000000
/-! len({elt for target in iter if test}), elt whole numbers. -/
namespace Dn
open PySem PySem.Spec PyProof.Rows L2
/-- one number more -/
def insS (S : Int → Bool) (k : Int) : Int → Bool := fun j => S j || decide (j = k)
def insN (S : Int → Bool) (k : Int) (n : Nat) : Nat := if S k = true then n else n + 1
section
variable {X : Cx}
/-- what a turn of {elt for target in iter} asks; D: the set -/
def tSci (w : World) (wi : TI) (g : TG) (tt : TT) (te : TE) (vs : List Nat) : TE := fun σ H Q => wi σ H fun J H1 => ∀ D, H1 D = none → ∃ W : Nat → Nat → Hp → Prop, (∃ m, W 0 m (upd H1 D (SetO w D (fun _ => false) 0))) ∧ ∀ i m H, W i m H →
  (J.stop i H ∧ Q (.ref D) H) ∨ (J.go i H ∧ ∃ Nx : Hp → Prop, (∀ H', Nx H' → ∃ m', m' < m ∧ W (i + 1) m' H') ∧ ∀ x H', J.yld i H x H' → g x (wipe σ vs) H' fun σ2 H2 => wipe σ2 vs = wipe σ vs ∧ tt σ2 H2 fun b H3 =>
    if b = true then te σ2 H3 fun y H4 => ∃ (k : Int) (S : Int → Bool) (n : Nat), y = .int k ∧ H4 D = some (SetO w D S n) ∧ n + 1 < scanBound ∧ Nx (upd H4 D (SetO w D (insS S k) (insN S k n))) else Nx H3)
theorem addI {pins : List (Addr × Obj)} {σ : L2.St} {H : Hp} {s : Shared} {E : Value → Shared → Prop} {D : Addr} {S : Int → Bool} {n : Nat} {k : Int} {t : Tok} {Q : Value → Shared → Prop} (I : Inv X pins σ H s) (hD : H D = some (SetO X.w D S n)) (room : n + 1 < scanBound)
    (fin : ∀ s', Inv X pins σ (upd H D (SetO X.w D (insS S k) (insN S k n))) s' → Q .none s') : wpAny (model X.prog X.w) X.A (call (.builtin "set.add") [.ref D, .int k t]) Q E s :=
  setR_add (setO_get I hD) room fun h2 sb new => by
    obtain ⟨ob, _, _, _, at2, _⟩ := id new
    exact fin _ (I.write (e := D) (t' := s.toks + 1) (by rw [hD]; trivial) (.inl rfl) (fun b u hb hu => (sb.2 b hb).trans hu) ⟨ob, at2⟩ (setO_new new))
open PpSet in
theorem sci_core {pins : List (Addr × Obj)} {s : Shared} {σ : L2.St} {H : Hp} {Q : VK} {elt tg iter : Expr} {ifs : List Expr} {scope : Scope} {own : List (PySem.Str × Nat)} {pos : Pos} {wi : TI} {g : TG} {tt : TT} {te : TE}
    (calm : X.calm = true) (nd : X.N.Nodup) (I : Inv X pins σ H s) (hi : PI X tg iter wi) (bk : BlkOk X.N X.env.scope scope own)
    (hg : ∀ s H C cl fp, PG (X.blk s H scope (compEnvC scope cl C X.env) fp) tg g) (ht : ∀ s H C cl fp, PTs (X.blk s H scope (compEnvC scope cl C X.env) fp) ifs tt) (he : ∀ s H C cl fp, PE (X.blk s H scope (compEnvC scope cl C X.env) fp) elt te)
    (fold : ∀ x, foldedSetIterable iter X.env x = pure x) (want : tSci X.w wi g tt te (own.map (·.2)) σ H Q) :
    wpAny (model X.prog X.w) X.A (eval (.SetComp elt [⟨tg, iter, ifs, 0⟩] scope pos) X.env) (EP X pins σ Q) X.xe s := by
  rw [eval_SetComp]
  have clos : ∀ y ∈ scope.names, y.2 = .free → ∃ c, X.env.cells.lookup y.1 = some c := fun y hy e => (bk.free y hy e).elim (fun k => I.ok.has _ (.inl k)) fun k => I.ok.has _ (.inr k)
  refine wpAny_comprehension_free (use := none) rfl fold (closure_ok clos) bk.kind (fun y hy e => by rw [bk.uniq y hy, e])
    (thn (hi.run pins s σ H _ I want) fun _ _ first => thn first fun _ s2 ⟨it, fp, tn, J, H2, eit, I2, T, st2, ff, asks⟩ => ?_)
  subst eit
  refine newSet_ok (newEnv_comp ?_)
  -- the set D, new
  generalize hD : s2.heap.objs.size = D
  obtain ⟨W, ⟨m0, w0⟩, turn⟩ := asks D (I2.hok.fresh (Nat.le_of_eq hD))
  generalize hs3 : ({ s2 with heap := s2.heap.push { cls := .type "set", dict := none, data := .set #[] 0 (.fresh 0 0 (!X.w.params.followText "set-order")) } } : Shared) = s3
  generalize hH3 : upd H2 D (SetO X.w D (fun _ => false) 0) = H3 at w0
  have up3 : ∀ b o, s2.heap.get? b = some o → s3.heap.get? b = some o := fun b o e => by
    rw [← hs3]
    exact Heap.get?_push_of_some _ e
  have I3 : Inv X pins σ H3 s3 := by
    rw [← hs3, ← hH3]
    exact I2.laid (t' := s2.toks) (fun b o e => Heap.get?_push_of_some _ e) (Nat.le_of_eq hD) (by rw [← hD]; exact setO_new (setR_fresh X.w))
  have old : ∀ b ∈ fp, b < D := fun b hb => by
    obtain ⟨o, e, _⟩ := T.obj _ _ st2 b hb
    rw [← hD]
    exact Heap.lt_size e
  have fp3 : ∀ b ∈ fp, FpOk X pins H3 b ∧ b < s3.heap.objs.size := fun b hb => by
    refine ⟨⟨?_, (ff b hb).2⟩, ?_⟩
    · rw [← hH3, upd_ne (Nat.ne_of_lt (old b hb))]
      exact (ff b hb).1
    · obtain ⟨o, e, _⟩ := T.obj _ _ st2 b hb
      exact Heap.lt_size (up3 b o e)
  have out3 : ∀ b ∈ fp, H3 b = none := fun b hb => (fp3 b hb).1.1
  -- the block
  have I4 := block_start I3 bk nd fp3
  generalize hce : compEnvC scope (cellsFrom (s3.heap.objs.size + 1) scope.names (cloFrom X.env.cells scope.names [])) s3.heap.objs.size X.env = ce at I4
  have pg : PG (X.blk s3 H3 scope ce fp) tg g := hce ▸ hg s3 H3 _ _ fp
  have pt : PTs (X.blk s3 H3 scope ce fp) ifs tt := hce ▸ ht s3 H3 _ _ fp
  have pe : PE (X.blk s3 H3 scope ce fp) elt te := hce ▸ he s3 H3 _ _ fp
  have cL : ce.locals = s3.heap.objs.size := by rw [← hce]; rfl
  generalize hs4 : ({ s3 with heap := pushCells (s3.heap.push { cls := .type "dict", data := .dict #[] }) scope.names } : Shared) = s4 at I4
  have st4 : tn 0 s4.heap := T.keep _ _ _ st2 fun b _ o e => by
    rw [← hs4]
    exact pushCells_keeps _ _ _ _ (Heap.get?_push_of_some _ (up3 b o e))
  have stat : ∀ {σ' : L2.St} {H' : Hp} {s' : Shared}, Inv (X.blk s3 H3 scope ce fp) [] σ' H' s' → (∀ b ∈ fp, H' b = none) → ∀ b ∈ fp, FpOk (X.blk s3 H3 scope ce fp) [] H' b := fun J' hn b hb =>
    ⟨hn b hb, (J'.ok.exf b hb).1, J'.ok.exfs b hb, .inl hb, fun x c e => (J'.ok.exf b hb).2 x c e, fun p hp => by cases hp⟩
  have all : codeAny (model X.prog X.w) X.A (.compLoop (.SetComp elt [⟨tg, iter, ifs, 0⟩] scope pos) 0 (.ref it) (.ref D) ce) (compPost (model X.prog X.w) X.A X.xe none (EP X pins σ Q) (.ref D) s3.heap.objs.size) s4 := by
    refine compLoopS_any (fun n s' => ∃ i H', Inv (X.blk s3 H3 scope ce fp) [] (wipe σ (own.map (·.2))) H' s' ∧ tn i s'.heap ∧ (∀ b ∈ fp, H' b = none) ∧ W i n H') ?_ m0 ⟨0, H3, I4, st4, out3, w0⟩
    rintro n s5 ⟨i, H5, I5, st5, n5, w5⟩
    rcases turn i n H5 w5 with ⟨stop, told⟩ | ⟨go, Nx, hNx, step⟩
    · -- nothing is left: back in the def
      refine thnF (T.done (X.blk s3 H3 scope ce fp) rfl rfl rfl calm i [] s5 _ H5 (fun _ _ => False) I5 (stat I5 n5) st5 stop) fun r s6 ⟨hr, I6⟩ => ?_
      subst hr
      have I7 : Inv X pins σ H5 s6 := I3.call' (ch := fp) I6.os I6.base I6.hok I6.bare fun b hb => ⟨(fp3 b hb).1.2.2.2.1, (fp3 b hb).1.2.1, (fp3 b hb).1.2.2.2.2.1, (fp3 b hb).1.2.2.2.2.2⟩
      have free : H5 s3.heap.objs.size = none := cL ▸ (I6.free : H5 ce.locals = none)
      obtain ⟨m, hn, _⟩ := I6.loc
      refine ⟨m, cL ▸ (hn : s6.heap.Ns ce.locals m), fun h2 sb => ?_⟩
      obtain ⟨a0, a1, a2, a3, a4, a5⟩ := I3.fpOk (Nat.le_refl _) free
      exact ⟨.ref D, H5, I7.turned (t' := s6.toks) (fun b o hb e => (sb.2 b hb).trans e) a0 a1 a3 a4 a5, rfl, told⟩
    · refine thnF (T.item (X.blk s3 H3 scope ce fp) rfl rfl rfl calm i [] s5 _ H5 (fun _ _ => False) I5 (stat I5 n5) st5 go) fun r s6 ⟨u, hr, h6⟩ => ?_
      subst hr
      refine thnF h6 fun _ s7 ⟨x, H7, I7, r7, y7, st7, n7⟩ => ?_
      refine thnF (pg.run _ s7 _ H7 x u _ (I7.pinned (stat I7 n7) (T.obj _ _ st7)) r7 (step x H7 y7)) fun _ s8 ⟨σ8, H8, I8, hw8, q8⟩ => ?_
      refine thnF (pt.run _ s8 σ8 H8 _ I8 q8) fun b s9 ⟨H9, I9, q9⟩ => ?_
      have fin : ∀ {s' : Shared} {H' : Hp}, Inv (X.blk s3 H3 scope ce fp) ([] ++ pinsAt fp s7.heap) σ8 H' s' → Nx H' → ∃ m, m < n ∧ ∃ i H', Inv (X.blk s3 H3 scope ce fp) [] (wipe σ (own.map (·.2))) H' s' ∧ tn i s'.heap ∧ (∀ b ∈ fp, H' b = none) ∧ W i m H' := fun {s' H'} J' nx => by
        obtain ⟨m', hm, w'⟩ := hNx H' nx
        have held : ∀ b ∈ fp, ∀ o, s7.heap.get? b = some o → s'.heap.get? b = some o ∧ H' b = none := fun b hb o e => ⟨(J'.pin (b, o) (List.mem_append_right _ (List.mem_append_right _ (mem_pinsAt hb e)))).1, (J'.pin (b, o) (List.mem_append_right _ (List.mem_append_right _ (mem_pinsAt hb e)))).2.1⟩
        refine ⟨m', hm, i + 1, H', (J'.unpinned (pins := [])).weak (by rw [← hw8, wipe_length]) (fun j v e => (wipe_some (hw8 ▸ e)).1), T.keep _ _ _ st7 fun b hb o e => (held b hb o e).1, fun b hb => ?_, w'⟩
        obtain ⟨o, e, _⟩ := T.obj _ _ st7 b hb
        exact (held b hb o e).2
      cases b
      · rw [if_neg Bool.false_ne_true] at q9 ⊢
        exact fin I9 q9
      · rw [if_pos rfl] at q9 ⊢
        refine thnF (pe.run _ s9 σ8 H9 _ I9 q9) fun z s10 ⟨yv, H10, I10, r10, k, S0, n0, ey, hD10, room, nx⟩ => ?_
        subst ey
        obtain ⟨tk, rfl⟩ := (r10 : RelV (.int k) z)
        exact addI (X := X.blk s3 H3 scope ce fp) I10 hD10 room fun s11 I11 => fin I11 nx
  subst hce
  exact codeAny_compStart_set all (T.self X.A 0 _ _ _ st4 all)
theorem pe_sci {elt tg iter : Expr} {ifs : List Expr} {scope : Scope} {own : List (PySem.Str × Nat)} {pos : Pos} {wi : TI} {g : TG} {tt : TT} {te : TE}
    (calm : X.calm = true) (nd : X.N.Nodup) (hi : PI X tg iter wi) (bk : BlkOk X.N X.env.scope scope own)
    (hg : ∀ s H C cl fp, PG (X.blk s H scope (compEnvC scope cl C X.env) fp) tg g) (ht : ∀ s H C cl fp, PTs (X.blk s H scope (compEnvC scope cl C X.env) fp) ifs tt) (he : ∀ s H C cl fp, PE (X.blk s H scope (compEnvC scope cl C X.env) fp) elt te)
    (fold : ∀ x, foldedSetIterable iter X.env x = pure x) : PE X (.SetComp elt [⟨tg, iter, ifs, 0⟩] scope pos) (tSci X.w wi g tt te (own.map (·.2))) :=
  ⟨fun pins s σ H Q I h => sci_core calm nd I hi bk hg ht he fold h⟩
/-- len of a set of whole numbers -/
def rLenS (w : World) : List V → Hp → VK → Prop := fun xs H Q => ∃ (a : Addr) (S : Int → Bool) (n : Nat), xs = [.ref a] ∧ H a = some (SetO w a S n) ∧ Q (.int (n : Nat)) H
theorem cr_lenS : CallR X (.builtin "len") (rLenS X.w) := by
  intro pins s σ H xs us Q I r h
  obtain ⟨a, S, n, rfl, ha, q⟩ := h
  rw [Vals.ref1 r]
  obtain ⟨ob, es, ep, t, at1, ex, da, _, _, _, sb, fit, sz, _⟩ := setO_get I ha
  have sb' : es.size < 1000000000 := Nat.lt_of_lt_of_le sb (by decide)
  exact call_len_set at1 ex da fit (by omega) ⟨.int (n : Nat), H, (I.tok _).tok _, ⟨_, by rw [sz]⟩, q⟩
/-- how many unlike ones -/
def cntI (S : Int → Bool) : List Int → Nat → Nat
  | [], n => n
  | k :: ks, n => cntI (insS S k) ks (insN S k n)
def FLenSc (vs : List Nat) (it : FA) (g : FT) (c : FB) (elt : FE) : FE := fun ρ => bnd (it ρ) fun ds ρ1 => if ds.length ≤ 4000 then bnd (CLoop vs g c elt ds (wipeS ρ1 vs)) fun out ρ2 => match intsD out with
  | some ns => some (.int (cntI (fun _ => false) ns 0 : Nat), backS ρ1 ρ2 vs)
  | none => none
  else none
theorem scan_room {n : Nat} (h : n ≤ 4000) : n + 1 < scanBound := by
  unfold scanBound
  omega
theorem insN_le (S : Int → Bool) (k : Int) (n : Nat) : insN S k n ≤ n + 1 := by
  unfold insN
  split <;> omega
variable {K : PySem.W.Frag} {pa : Nat → Addr} {W0 : World}
theorem lsc_run {wi : TI} {tg : TG} {tt : TT} {te : TE} {it : FA} {gt : FT} {c : FB} {elt : FE} {ts vs : List Nat} (hi : GoodI K wi it) (hg : GoodT K tg gt ts) (hsub : ∀ i ∈ ts, i ∈ vs) (ht : GoodB K tt c) (he : GoodE K te elt)
    {w : Wd} {σ : L2.St} {ds : List D} {out : List Int} {ρ1 ρ2 : List Sl} {Q : VK} (R : Rel K pa w σ) (e1 : it w.ρ = some (ds, ρ1)) (hz : ds.length ≤ 4000) (e2 : CLoop vs gt c elt ds (wipeS ρ1 vs) = some (out.map D.int, ρ2))
    (want : ∀ (w' : Wd) (P : Addr) (S : Int → Bool), Rel K pa w' σ → w'.ρ = backS ρ1 ρ2 vs → Step w w' → w'.H P = some (SetO W0 P S (cntI (fun _ => false) out 0)) → Q (.ref P) w'.H) : tSci W0 wi tg tt te vs σ w.H Q := by
  refine hi pa w σ ds ρ1 R e1 _ fun w1 J R1 p1 s1 hJ => ?_
  subst p1
  intro P hP
  have R1q := R1.grow (Grow.quiet (o := SetO W0 P (fun _ => false) 0) R1.ex hP)
  have R1w := R1q.1.wiped vs
  have nO1 : ¬ Own w1 P := fun ⟨j, t, es, hj, z⟩ => by
    obtain ⟨_, _, ⟨us, b3, _⟩, _⟩ := R1.ow j t es hj
    rw [show w1.al j = P from z, hP] at b3
    cases b3
  refine ⟨fun i m H2 => ∃ w2 S n, H2 = w2.H ∧ Rel K pa w2 (wipe σ vs) ∧ Step w1 w2 ∧ w2.H P = some (SetO W0 P S n) ∧ w2.F P = none ∧ ¬ Own w2 P ∧ n ≤ i ∧ i + m = ds.length ∧ ∃ r : List Int, CLoop vs gt c elt (ds.drop i) w2.ρ = some (r.map D.int, ρ2) ∧ cntI (fun _ => false) out 0 = cntI S r n,
    ⟨ds.length, _, _, 0, rfl, R1w.1, R1q.2.trans R1w.2, upd_same, R1.ex.free hP, fun hO => nO1 ((R1w.2.ow P hO).elim id fun z => ?_), Nat.zero_le _, by omega, out, e2, rfl⟩, ?_⟩
  · dsimp only at z
    rw [upd_same] at z
    cases z
  rintro i m H2 ⟨w2, S, n, rfl, R2, s2, hA, hF, hO, la, em, r, hl, eo⟩
  obtain ⟨jg, js⟩ := hJ w2.F w2.H i s2.ex R2.ex
  cases hd : ds[i]? with
  | none =>
    have hlen : ds.length ≤ i := List.getElem?_eq_none_iff.mp hd
    rw [List.drop_eq_nil_of_le hlen] at hl
    obtain ⟨q1, q2⟩ := Prod.mk.inj (Option.some.inj hl)
    have r0 : r = [] := by
      cases r with
      | nil => rfl
      | cons a b => cases q1
    subst r0
    obtain ⟨R3, s3⟩ := R1.back R2 s2.ex
    rw [q2] at R3 s3
    refine .inl ⟨js hd, want ⟨w2.F, w2.H, w2.al, backS w1.ρ ρ2 vs⟩ P S R3 rfl ((s1.trans s2).trans s3) ?_⟩
    rw [eo]
    exact hA
  | some d =>
    obtain ⟨go, yl⟩ := jg d hd
    have hlt : i < ds.length := (List.getElem?_eq_some_iff.mp hd).1
    have hd' : ds[i] = d := (List.getElem?_eq_some_iff.mp hd).2
    rw [List.drop_eq_getElem_cons hlt, hd'] at hl
    unfold CLoop at hl
    refine .inr ⟨go, fun H3 => ∃ w3 S n, H3 = w3.H ∧ Rel K pa w3 (wipe σ vs) ∧ Step w1 w3 ∧ w3.H P = some (SetO W0 P S n) ∧ w3.F P = none ∧ ¬ Own w3 P ∧ n ≤ i + 1 ∧ ∃ r : List Int, CLoop vs gt c elt (ds.drop (i + 1)) w3.ρ = some (r.map D.int, ρ2) ∧ cntI (fun _ => false) out 0 = cntI S r n,
      fun H3 ⟨w3, S3, n3, b1, b2, b3, b4, b5, b6, b7, b8⟩ => ⟨m - 1, by omega, w3, S3, n3, b1, b2, b3, b4, b5, b6, b7, by omega, b8⟩, fun x H3 hy => ?_⟩
    obtain ⟨F3, gr, rp⟩ := yl x H3 hy
    obtain ⟨R3, s3⟩ := R2.grow gr
    split at hl
    · cases hl
    rename_i ρ3 e3
    refine hg pa _ (wipe σ vs) x d ρ3 R3 rp e3 _ fun w4 σ4 R4 p4 s4 k4 l4 => ?_
    subst p4
    have ew : wipe σ4 vs = wipe σ vs := by
      have z : wipe σ4 vs = wipe (wipe σ vs) vs := wipe_eq (fun j hj => k4 j fun m => hj (hsub j m)) l4
      rw [z]
      exact wipe_eq (fun j hj => wipe_off hj) (wipe_length σ vs)
    refine ⟨ew, ?_⟩
    obtain ⟨b, ρ5, e5, hl5⟩ := bnd_eq hl
    clear hl
    have s24 : Step w2 w4 := s3.trans s4
    refine ht pa w4 σ4 b ρ5 R4 e5 _ fun w5 R5 p5 s5 => ?_
    subst p5
    have s25 : Step w2 w5 := s24.trans s5
    cases b with
    | false =>
      rw [if_neg Bool.false_ne_true] at hl5 ⊢
      obtain ⟨R6, s6⟩ := R5.wiped vs
      rw [ew] at R6
      have s26 := s25.trans s6
      exact ⟨⟨w5.F, w5.H, w5.al, wipeS w5.ρ vs⟩, S, n, rfl, R6, s2.trans s26, s26.fr P _ hA hO, s26.ff P _ hA hO hF, s26.notOwn hA hO, by omega, r, hl5, eo⟩
    | true =>
      rw [if_pos rfl] at hl5 ⊢
      obtain ⟨y, ρ6, e6, hl6⟩ := bnd_eq hl5
      clear hl5
      obtain ⟨r7, ρ7, e7, hl7⟩ := bnd_eq hl6
      clear hl6
      obtain ⟨z1, z2⟩ := Prod.mk.inj (Option.some.inj hl7)
      subst z2
      cases r with
      | nil => cases z1
      | cons k ks =>
      rw [List.map_cons] at z1
      obtain ⟨z3, z4⟩ := List.cons.inj z1
      subst z3
      subst z4
      refine he pa w5 σ4 (.int k) ρ6 R5 e6 _ fun w6 v6 R6 p6 s6 r6 => ?_
      subst p6
      cases r6
      have s26 : Step w2 w6 := s25.trans s6
      refine ⟨k, S, n, rfl, s26.fr P _ hA hO, scan_room (by omega), ?_⟩
      have R7 := (R6.poke (o := SetO W0 P (insS S k) (insN S k n)) (s26.ff P _ hA hO hF) (s26.notOwn hA hO)).wiped vs
      rw [ew] at R7
      refine ⟨_, insS S k, insN S k n, rfl, R7.1, ((s2.trans s26).poke hP).trans R7.2, upd_same, s26.ff P _ hA hO hF, fun z => ?_, by have := insN_le S k n; omega, ks, e7, eo⟩
      rcases R7.2.ow P z with y | y
      · exact s26.notOwn hA hO y
      · dsimp only at y
        rw [upd_same] at y
        cases y
theorem ge_lenSc {elt tg iter : Expr} {ifs : List Expr} {scope : Scope} {it : FA} {gt : FT} {ts : List Nat} {c : FB} {fe : FE} {p pos cpos : Pos} (own : List (Str × Nat)) (hN : X.N.Nodup) (hi : GI X tg iter it) (ok : blkC X.N X.env.scope scope own = true)
    (hg : ∀ (s : Shared) (H : Hp) (C : Addr) (cl : List (Str × Addr)) (fp : List Addr), GT (X.blk s H scope (compEnvC scope cl C X.env) fp) tg gt ts) (ht : ∀ (s : Shared) (H : Hp) (C : Addr) (cl : List (Str × Addr)) (fp : List Addr), GPs (X.blk s H scope (compEnvC scope cl C X.env) fp) ifs c)
    (he : ∀ (s : Shared) (H : Hp) (C : Addr) (cl : List (Str × Addr)) (fp : List Addr), GE (X.blk s H scope (compEnvC scope cl C X.env) fp) elt fe) (hm : X.mg "len" = none) (hgl : Gl X "len" := by rfl) (hsub : ∀ i ∈ ts, i ∈ own.map (·.2) := by decide) (hc : X.calm = true := by rfl) (hs : ∀ x, foldedSetIterable iter X.env x = pure x := by intro _; rfl)
    (hst : starEach [Expr.SetComp elt [⟨tg, iter, ifs, 0⟩] scope pos] X.env = (false, eval (.SetComp elt [⟨tg, iter, ifs, 0⟩] scope pos) X.env) :: starEach [] X.env := by rfl) :
    GE X (.Call (.Name "len" p) [.SetComp elt [⟨tg, iter, ifs, 0⟩] scope pos] [] cpos) (FLenSc (own.map (·.2)) it gt c fe) := by
  obtain ⟨wi, a, b⟩ := hi
  refine ⟨_, pe_callB cr_lenS hgl hm PySem.boot_len (pa_cons (pe_sci (g := tOfT X.K gt ts) (tt := tOfB X.K c) (te := tOfE X.K fe) hc hN a (blkOk_by ok) (fun s H C cl fp => (hg s H C cl fp).pg) (fun s H C cl fp => (ht s H C cl fp).pts) (fun s H C cl fp => (he s H C cl fp).pe) hs) pa_nil hst) (he := hst), fun pa w σ d ρ' R h Q q => ?_⟩
  obtain ⟨ds, ρ1, e1, h2⟩ := bnd_eq h
  split at h2
  case isFalse => cases h2
  rename_i hz
  obtain ⟨out, ρ2, e2, h3⟩ := bnd_eq h2
  split at h3
  case h_2 => cases h3
  rename_i ns hns
  obtain ⟨q1, q2⟩ := Prod.mk.inj (Option.some.inj h3)
  subst q1
  subst q2
  rw [intsD_eq hns] at e2
  show tSci X.w wi (tOfT X.K gt ts) (tOfB X.K c) (tOfE X.K fe) (own.map (·.2)) σ w.H fun x H1 => rLenS X.w [x] H1 Q
  exact lsc_run (W0 := X.w) b good_tOfT hsub good_tOfB good_tOfE R e1 hz e2 fun w' P S R' p' s' hP => ⟨P, S, _, rfl, hP, q w' _ R' p' s' (.int _)⟩
/-- x as a test -/
def truD : D → Option Bool
  | .non => some false
  | .bl b => some b
  | .int i => some (i != 0)
  | .lst ds => some (!ds.isEmpty)
  | .tup ds => some (!ds.isEmpty)
  | .frl ds => some (!ds.isEmpty)
  | _ => none
theorem truD_int (i : Int) : truD (.int i) = some (decide (i ≠ 0)) := by
  show some (i != 0) = _
  congr 1
  by_cases h : i = 0
  · subst h
    rfl
  · rw [decide_eq_true h, bne_iff_ne.mpr h]
theorem truD_bl (b : Bool) : truD (.bl b) = some b := rfl
theorem RpA.empty {F : Hp} {vs : List V} {ds : List D} (h : RpA K F vs ds) : vs.isEmpty = ds.isEmpty := by
  cases h <;> rfl
theorem truD_ok {F H : Hp} {v : V} {d : D} {b : Bool} (r : Rp K F v d) (e : Ex F H) (h : truD d = some b) : TruV K v H b := by
  cases r with
  | non => exact (Option.some.inj h).symm
  | bl c => exact (Option.some.inj h).symm
  | int i => exact (Option.some.inj h).symm
  | str x => cases h
  | lst hs ra => exact .inl ⟨_, .inl (.inl (e _ _ hs)), by rw [ra.empty]; exact (Option.some.inj h).symm⟩
  | tup hs ra => exact .inr (.inl ⟨_, e.t hs, by rw [ra.empty]; exact (Option.some.inj h).symm⟩)
  | frl hs ra => exact .inl ⟨_, e.l hs, by rw [ra.empty]; exact (Option.some.inj h).symm⟩
  | ty n => cases h
def BTru (f : FE) : FB := fun ρ => bnd (f ρ) fun d ρ1 => lft (truD d) ρ1
theorem gb_tru {e : Expr} {f : FE} (h : GE X e f) (he : ∀ whole, isTrue e X.env whole = (do let v ← whole; standAt e.pos; holding [v] (truthy v)) := by intro _; rfl) : GB X e (BTru f) := by
  obtain ⟨te, h1, h2⟩ := h
  refine ⟨_, pt_truth h1 he, fun pa w σ b ρ' R h Q q => ?_⟩
  obtain ⟨d, ρ1, e1, h3⟩ := bnd_eq h
  obtain ⟨z, e3, h4⟩ := lft_eq h3
  obtain ⟨q1, q2⟩ := Prod.mk.inj h4
  subst q1
  subst q2
  refine h2 pa w σ d _ R e1 _ fun w1 v R1 p1 s1 r1 => ⟨b, truD_ok r1 R1.ex e3, q w1 R1 p1 s1⟩
end
end Dn
end
section
set_option maxHeartbeats 4000000
/-! sorted(..) as a list of one's own, `in` a list of one's own; drawing from any pool. -/
namespace Dn
open PySem PySem.Spec PyProof.Rows L2
def sortI (ns : List Int) : List Int := ns.mergeSort fun a b => decide (a ≤ b)
theorem sortI_perm (ns : List Int) : (sortI ns).Perm ns := List.mergeSort_perm ..
theorem sortI_le (ns : List Int) : (sortI ns).Pairwise (· ≤ ·) := by
  have h := List.pairwise_mergeSort (le := fun a b : Int => decide (a ≤ b)) (fun a b c x y => by
    simp only [decide_eq_true_eq] at x y ⊢
    omega) (fun a b => by
    simp only [Bool.or_eq_true, decide_eq_true_eq]
    omega) ns
  exact h.imp fun x => of_decide_eq_true x
theorem sortI_eq {ns ms : List Int} (hp : ms.Perm ns) (hs : ms.Pairwise (· ≤ ·)) : ms = sortI ns :=
  List.Perm.eq_of_pairwise (fun a b _ _ x y => Int.le_antisymm x y) hs (sortI_le ns) (hp.trans (sortI_perm ns).symm)
section
variable {X : Cx} {K : PySem.W.Frag} {pos : Pos} {pa : Nat → Addr}
def LSorted (f : FE) : FL := fun ρ => bnd (f ρ) fun d ρ1 => match d with
  | .lst ds => match intsD ds with
    | some ns => some ((sortI ns).map D.int, ρ1)
    | none => none
  | _ => none
theorem gl_sorted {p : Pos} {e : Expr} {f : FE} (h : GE X e f) (hm : X.mg "sorted" = none) (hgl : Gl X "sorted" := by rfl) (hv : bootBuiltins "sorted" = some (.builtin "sorted") := by decide +kernel)
    (he : starEach [e] X.env = (false, eval e X.env) :: starEach [] X.env := by rfl) (hs : starEach [e] X.env = [(false, eval e X.env)] := by rfl) : GL X (.Call (.Name "sorted" p) [e] [] pos) (LSorted f) := by
  obtain ⟨ta, a, b⟩ := ga_cons h ga_nil hs
  refine ⟨_, pe_callB cr_sortedI hgl hm hv a (he := he), fun pa w σ ds ρ' R h Q q => ?_⟩
  obtain ⟨d, ρ1, e1, h2⟩ := bnd_eq h
  have ea : ACons f ANil w.ρ = some ([d], ρ1) := by
    unfold ACons ANil
    rw [e1]
    rfl
  refine b pa w σ [d] ρ1 R ea _ fun w1 vs R1 p1 s1 r1 => ?_
  split at h2
  case h_2 => cases h2
  rename_i xs
  split at h2
  case h_2 => cases h2
  rename_i ns hn
  obtain ⟨q1, q2⟩ := Prod.mk.inj (Option.some.inj h2)
  subst q1
  subst q2
  have ex := intsD_eq hn
  subst ex
  cases r1 with
  | cons r rr =>
    cases rr
    cases r with
    | @lst a us _ hs1 ra =>
      have eu := ra.ints
      subst eu
      refine ⟨a, ns, rfl, .inl (.inl (R1.ex _ _ hs1)), fun ms l hp hw hl => ?_⟩
      have e := sortI_eq hp hw
      subst e
      exact own_new R1 p1 s1 hl RpA.ofInts q
/-- x in xs, xs a list of one's own -/
def FInO (neg : Bool) (i : Nat) (f : FE) : FE := fun ρ => bnd (f ρ) fun d ρ1 => match d, ρ1[i]? with
  | .int k, some (.ow _ ds) => match intsD ds with
    | some ns => some (.bl (if neg then !ns.contains k else ns.contains k), ρ1)
    | none => none
  | _, _ => none
theorem good_inO {te : TE} {f : FE} {neg : Bool} (i : Nat) (h1 : GoodE K te f) : GoodE K (tOp (rIn K neg) te (tVar i)) (FInO neg i f) := fun pa w σ d ρ' R h Q q => by
  obtain ⟨x, ρ1, e1, h2⟩ := bnd_eq h
  refine h1 pa w σ x ρ1 R e1 _ fun w1 v R1 p1 s1 r1 => ?_
  subst p1
  split at h2
  case h_2 => cases h2
  rename_i k t ds hi
  split at h2
  case h_2 => cases h2
  rename_i ns hn
  obtain ⟨q1, q2⟩ := Prod.mk.inj (Option.some.inj h2)
  subst q1
  subst q2
  have ex := intsD_eq hn
  subst ex
  cases r1
  obtain ⟨a1, a2, ⟨us, a3, a4⟩, a5⟩ := R1.ow i t _ hi
  have eu := a4.ints
  subst eu
  refine ⟨_, a1, _, _, rfl, .inl (.inl (.inl a3)), rfl, flat_ints ns, ?_⟩
  rw [inV_ints]
  exact q w1 _ R1 rfl s1 (.bl _)
theorem ge_inO (i : Nat) {op : CmpOp} {neg : Bool} {a : Expr} {f : FE} {x : Str} {px pos : Pos} (ho : OpR X (compareOp op) (rIn X.K neg)) (ha : GE X a f) (hN : X.N[i]? = some x := by rfl) (hv : Vis X.env.scope x := by first | exact Or.inl rfl | exact Or.inr (Or.inl rfl) | exact Or.inr (Or.inr rfl)) (hd : (x == ("__debug__" : Str)) = false := by decide)
    (hcd : (x == ("__classdict__" : Str)) = false := by decide) (hm : behindInMarks op (.Name x px) = false := by rfl) : GE X (.Compare a [op] [.Name x px] pos) (FInO neg i f) := by
  obtain ⟨ta, h1, h2⟩ := ha
  exact ⟨_, pe_cmpR ho h1 (pe_var hN hv hd hcd) hm, good_inO i h2⟩
theorem gb_inO (i : Nat) {op : CmpOp} {neg : Bool} {a : Expr} {f : FE} {x : Str} {px pos : Pos} (ho : OpR X (compareOp op) (rIn X.K neg)) (ha : GE X a f) (hN : X.N[i]? = some x := by rfl) (hv : Vis X.env.scope x := by first | exact Or.inl rfl | exact Or.inr (Or.inl rfl) | exact Or.inr (Or.inr rfl)) (hd : (x == ("__debug__" : Str)) = false := by decide)
    (hcd : (x == ("__classdict__" : Str)) = false := by decide) (hm : behindInMarks op (.Name x px) = false := by rfl) : GB X (.Compare a [op] [.Name x px] pos) (BVal (FInO neg i f)) := by
  obtain ⟨ta, h1, h2⟩ := ha
  exact ⟨_, pt_cmpR ho h1 (pe_var hN hv hd hcd) hm, good_test (good_inO i h2)⟩
end
/-- pop(i) of data -/
theorem popD_ok {xs : List D} {r : Int} (h0 : 0 ≤ r) (h1 : r < (xs.length : Nat)) (hl : xs.length ≤ 1000000) : ∃ x, xs[r.toNat]? = some x ∧ mPopAt xs [.int r] = some (x, xs.eraseIdx r.toNat) := by
  have hr : r.toNat < xs.length := by omega
  refine ⟨xs[r.toNat], List.getElem?_eq_getElem hr, ?_⟩
  unfold mPopAt
  dsimp only
  rw [seqIx_nat h0 h1 hl]
  dsimp only
  rw [List.getElem?_eq_getElem hr]
end Dn
end
section
set_option maxHeartbeats 4000000
/-! A list of one's own, read as a datum and kept: what is worth a plain value, or a fresh list of plain values. -/
namespace Dn
open PySem PySem.Spec PyProof.Rows L2
def plainD : D → Bool
  | .non => true
  | .bl _ => true
  | .int _ => true
  | .str _ => true
  | .ty _ => true
  | _ => false
theorem rp_plain {K : PySem.W.Frag} {F F' : Hp} {v : V} {d : D} (h : Rp K F v d) (p : plainD d = true) : Rp K F' v d := by
  cases h with
  | non => exact .non
  | bl b => exact .bl b
  | int i => exact .int i
  | str x => exact .str x
  | ty n => exact .ty n
  | lst _ _ => cases p
  | tup _ _ => cases p
  | frl _ _ => cases p
theorem rpa_plain {K : PySem.W.Frag} {F F' : Hp} : ∀ {vs : List V} {ds : List D}, RpA K F vs ds → ds.all plainD = true → RpA K F' vs ds
  | _, [], .nil, _ => .nil
  | _, d :: ds, .cons a t, p => by
    rw [List.all_cons, Bool.and_eq_true] at p
    exact .cons (rp_plain a p.1) (rpa_plain t p.2)
theorem ints_plain (ns : List Int) : (ns.map D.int).all plainD = true := by
  rw [List.all_eq_true]
  intro d h
  obtain ⟨n, _, rfl⟩ := List.mem_map.mp h
  rfl
/-- the other lists of one's own are of plain data -/
def Pl (i : Nat) (ρ : List Sl) : Prop := ∀ (j : Nat) (t : Option Nat) (es : List D), ρ[j]? = some (.ow t es) → j ≠ i → es.all plainD = true
section
open Classical
/-- f where slot i is a datum; behind it the list is one's own again -/
noncomputable def FBor (i : Nat) (f : FE) : FE := fun ρ => match ρ[i]? with
  | some (.ow _ ds) => match f (ρ.set i (.fz (.lst ds))) with
    | some (d, ρ1) => if ρ1 = ρ.set i (.fz (.lst ds)) ∧ Pl i ρ ∧ plainD d = true then some (d, ρ) else none
    | none => none
  | _ => none
noncomputable def BBor (i : Nat) (f : FB) : FB := fun ρ => match ρ[i]? with
  | some (.ow _ ds) => match f (ρ.set i (.fz (.lst ds))) with
    | some (b, ρ1) => if ρ1 = ρ.set i (.fz (.lst ds)) ∧ Pl i ρ then some (b, ρ) else none
    | none => none
  | _ => none
noncomputable def LBor (i : Nat) (f : FL) : FL := fun ρ => match ρ[i]? with
  | some (.ow _ ds) => match f (ρ.set i (.fz (.lst ds))) with
    | some (out, ρ1) => if ρ1 = ρ.set i (.fz (.lst ds)) ∧ Pl i ρ ∧ out.all plainD = true then some (out, ρ) else none
    | none => none
  | _ => none
end
section
variable {K : PySem.W.Frag} {pa : Nat → Addr} {w : Wd} {σ : L2.St}
/-- the world where it is a datum -/
theorem bor_in (R : Rel K pa w σ) {i : Nat} {t : Option Nat} {ds : List D} (hi : w.ρ[i]? = some (.ow t ds)) :
    ∃ vs, w.H (w.al i) = some (.lst vs) ∧ Rel K pa ⟨upd w.F (w.al i) (.lst vs), w.H, w.al, w.ρ.set i (.fz (.lst ds))⟩ σ ∧
      ∀ (w2 : Wd), Pl i w.ρ → Rel K pa w2 σ → w2.ρ = w.ρ.set i (.fz (.lst ds)) → Step ⟨upd w.F (w.al i) (.lst vs), w.H, w.al, w.ρ.set i (.fz (.lst ds))⟩ w2 →
        Rel K pa ⟨w.F, w2.H, w.al, w.ρ⟩ σ ∧ Step w ⟨w.F, w2.H, w.al, w.ρ⟩ := by
  obtain ⟨s1, s2, ⟨vs, s3, s4⟩, s5⟩ := R.ow i t ds hi
  have hlt : i < w.ρ.length := by
    rcases Nat.lt_or_ge i w.ρ.length with q | q
    · exact q
    · rw [List.getElem?_eq_none q] at hi
      cases hi
  have gi : (w.ρ.set i (.fz (.lst ds)))[i]? = some (.fz (.lst ds)) := by rw [List.getElem?_set_self hlt]
  have gj : ∀ j, j ≠ i → (w.ρ.set i (.fz (.lst ds)))[j]? = w.ρ[j]? := fun j hj => List.getElem?_set_ne (Ne.symm hj)
  have e1 : Ex w.F (upd w.F (w.al i) (.lst vs)) := Ex.new s2
  have notI : ∀ {j : Nat} {u : Option Nat} {es : List D}, (w.ρ.set i (.fz (.lst ds)))[j]? = some (.ow u es) → j ≠ i ∧ w.ρ[j]? = some (.ow u es) := fun {j u es} h => by
    by_cases hj : j = i
    · rw [hj, gi] at h
      cases h
    · rw [gj j hj] at h
      exact ⟨hj, h⟩
  refine ⟨vs, s3, ⟨fun a u ha => ?_, by rw [List.length_set]; exact R.len, fun j d hj => ?_, fun j u es hj => ?_, fun j k u u' es es' h1 h2 => ?_⟩, fun w2 pl R2 p2 S2 => ⟨⟨?_, R.len, R.fz, fun j u es hj => ?_, R.inj⟩, ⟨Ex.refl _, fun b o hb n => ?_, fun _ _ _ _ f => f, fun b h => .inl h, fun b h => S2.st b h⟩⟩⟩
  · dsimp only at ha ⊢
    by_cases q : a = w.al i
    · subst q
      rw [upd_same] at ha
      cases ha
      exact s3
    · rw [upd_ne q] at ha
      exact R.ex a u ha
  · by_cases q : j = i
    · subst q
      dsimp only at hj
      rw [gi] at hj
      cases hj
      exact ⟨_, s1, .lst upd_same (s4.mono e1)⟩
    · dsimp only at hj
      rw [gj j q] at hj
      obtain ⟨v, a, b⟩ := R.fz j d hj
      exact ⟨v, a, b.mono e1⟩
  · obtain ⟨q, hj⟩ := notI hj
    obtain ⟨a, b, ⟨ws, c1, c2⟩, c3⟩ := R.ow j u es hj
    have ne : w.al j ≠ w.al i := fun z => q (R.inj j i u t es ds hj hi z)
    exact ⟨a, by dsimp only; rw [upd_ne ne]; exact b, ⟨ws, c1, c2.mono e1⟩, c3⟩
  · exact R.inj j k u u' es es' (notI h1).2 (notI h2).2
  · exact (e1.trans S2.ex).trans R2.ex
  · by_cases q : j = i
    · subst q
      dsimp only at hj
      rw [hi] at hj
      cases hj
      exact ⟨s1, s2, ⟨vs, R2.ex _ _ (S2.ex _ _ upd_same), s4⟩, s5⟩
    · obtain ⟨a, b, _, c3⟩ := R.ow j u es hj
      have hj2 : w2.ρ[j]? = some (.ow u es) := by rw [p2, gj j q]; exact hj
      obtain ⟨a2, _, ⟨ws, d1, d2⟩, _⟩ := R2.ow j u es hj2
      have ea : w2.al j = w.al j := by
        rw [a] at a2
        exact (V.ref.inj (Option.some.inj (Option.some.inj a2))).symm
      rw [ea] at d1
      exact ⟨a, b, ⟨ws, d1, rpa_plain d2 (pl j u es hj q)⟩, c3⟩
  · refine S2.fr b o hb fun ⟨j, u, es, h, e⟩ => n ?_
    exact ⟨j, u, es, (notI h).2, e⟩
end
section
variable {X : Cx} {K : PySem.W.Frag}
theorem good_bor {te : TE} {f : FE} (i : Nat) (h : GoodE K te f) : GoodE K te (FBor i f) := fun pa w σ d ρ' R hf Q q => by
  unfold FBor at hf
  split at hf
  case h_2 => cases hf
  rename_i t ds hi
  split at hf
  case h_2 => cases hf
  rename_i d1 ρ1 e
  split at hf
  case isFalse => cases hf
  rename_i c
  obtain ⟨c1, c2, c3⟩ := c
  obtain ⟨q1, q2⟩ := Prod.mk.inj (Option.some.inj hf)
  subst q1
  subst q2
  obtain ⟨vs, _, R1, k⟩ := bor_in R hi
  exact h pa _ σ d1 ρ1 R1 e Q fun w2 v R2 p2 S2 r2 => by
    obtain ⟨R3, S3⟩ := k w2 c2 R2 (p2.trans c1) S2
    exact q ⟨w.F, w2.H, w.al, w.ρ⟩ v R3 rfl S3 (rp_plain r2 c3)
theorem good_borB {tt : TT} {f : FB} (i : Nat) (h : GoodB K tt f) : GoodB K tt (BBor i f) := fun pa w σ d ρ' R hf Q q => by
  unfold BBor at hf
  split at hf
  case h_2 => cases hf
  rename_i t ds hi
  split at hf
  case h_2 => cases hf
  rename_i d1 ρ1 e
  split at hf
  case isFalse => cases hf
  rename_i c
  obtain ⟨c1, c2⟩ := c
  obtain ⟨q1, q2⟩ := Prod.mk.inj (Option.some.inj hf)
  subst q1
  subst q2
  obtain ⟨vs, _, R1, k⟩ := bor_in R hi
  exact h pa _ σ d1 ρ1 R1 e Q fun w2 R2 p2 S2 => by
    obtain ⟨R3, S3⟩ := k w2 c2 R2 (p2.trans c1) S2
    exact q ⟨w.F, w2.H, w.al, w.ρ⟩ R3 rfl S3
theorem good_borL {te : TE} {f : FL} (i : Nat) (h : GoodL K te f) : GoodL K te (LBor i f) := fun pa w σ d ρ' R hf Q q => by
  unfold LBor at hf
  split at hf
  case h_2 => cases hf
  rename_i t ds hi
  split at hf
  case h_2 => cases hf
  rename_i d1 ρ1 e
  split at hf
  case isFalse => cases hf
  rename_i c
  obtain ⟨c1, c2, c3⟩ := c
  obtain ⟨q1, q2⟩ := Prod.mk.inj (Option.some.inj hf)
  subst q1
  subst q2
  obtain ⟨vs, _, R1, k⟩ := bor_in R hi
  exact h pa _ σ d1 ρ1 R1 e Q fun w2 P acc R2 p2 S2 hP hP2 _ _ rr => by
    obtain ⟨R3, S3⟩ := k w2 c2 R2 (p2.trans c1) S2
    refine q ⟨w.F, w2.H, w.al, w.ρ⟩ P acc R3 rfl S3 hP hP2 (R.ex.free hP) (fun z => ?_) (rpa_plain rr c3)
    obtain ⟨⟨xs, hx⟩, _⟩ := R.own_at (b := P) z
    have hx' : w.H P = some (.lst xs) := hx
    have hP' : w.H P = none := hP
    rw [hP'] at hx'
    cases hx'
theorem ge_bor (i : Nat) {e : Expr} {f : FE} (h : GE X e f) : GE X e (FBor i f) := by
  obtain ⟨te, a, b⟩ := h
  exact ⟨te, a, good_bor i b⟩
theorem gb_bor (i : Nat) {e : Expr} {f : FB} (h : GB X e f) : GB X e (BBor i f) := by
  obtain ⟨te, a, b⟩ := h
  exact ⟨te, a, good_borB i b⟩
theorem gl_bor (i : Nat) {e : Expr} {f : FL} (h : GL X e f) : GL X e (LBor i f) := by
  obtain ⟨te, a, b⟩ := h
  exact ⟨te, a, good_borL i b⟩
end
/-! how they are worked out -/
theorem FBor_eq {i : Nat} {f : FE} {ρ : List Sl} {t : Option Nat} {ds : List D} {d : D} (hi : ρ[i]? = some (.ow t ds)) (h : f (ρ.set i (.fz (.lst ds))) = some (d, ρ.set i (.fz (.lst ds)))) (hp : Pl i ρ) (hd : plainD d = true) : FBor i f ρ = some (d, ρ) := by
  unfold FBor
  rw [hi]
  dsimp only
  rw [h]
  exact if_pos ⟨rfl, hp, hd⟩
theorem BBor_eq {i : Nat} {f : FB} {ρ : List Sl} {t : Option Nat} {ds : List D} {b : Bool} (hi : ρ[i]? = some (.ow t ds)) (h : f (ρ.set i (.fz (.lst ds))) = some (b, ρ.set i (.fz (.lst ds)))) (hp : Pl i ρ) : BBor i f ρ = some (b, ρ) := by
  unfold BBor
  rw [hi]
  dsimp only
  rw [h]
  exact if_pos ⟨rfl, hp⟩
theorem LBor_eq {i : Nat} {f : FL} {ρ : List Sl} {t : Option Nat} {ds out : List D} (hi : ρ[i]? = some (.ow t ds)) (h : f (ρ.set i (.fz (.lst ds))) = some (out, ρ.set i (.fz (.lst ds)))) (hp : Pl i ρ) (ho : out.all plainD = true) : LBor i f ρ = some (out, ρ) := by
  unfold LBor
  rw [hi]
  dsimp only
  rw [h]
  exact if_pos ⟨rfl, hp, ho⟩
end Dn
end
section
set_option maxHeartbeats 4000000
/-! xs[::-1] of a list. -/
namespace Dn
open PySem PySem.Spec PyProof.Rows L2
def LRevS (f : FE) : FL := fun ρ => bnd (f ρ) fun d ρ1 => match d with
  | .lst ds => some (ds.reverse, ρ1)
  | .frl ds => some (ds.reverse, ρ1)
  | _ => none
section
variable {X : Cx}
theorem gl_revS {e : Expr} {f : FE} {k : Nat} {p1 p2 p3 pos : Pos} (h : GE X e f) : GL X (.Subscript e (.Slice none none (some (.UnaryOp .USub (.Constant (.int 1) k p1) p2)) p3) pos) (LRevS f) := by
  obtain ⟨te, a, b⟩ := h
  refine ⟨_, pe_revL a, fun pa w σ ds ρ' R h Q q => ?_⟩
  obtain ⟨d, ρ1, e1, h2⟩ := bnd_eq h
  refine b pa w σ d ρ1 R e1 _ fun w1 v R1 p1 s1 r1 => ?_
  split at h2
  case h_3 => cases h2
  case h_1 =>
    rename_i xs
    obtain ⟨q1, q2⟩ := Prod.mk.inj (Option.some.inj h2)
    subst q1
    subst q2
    cases r1 with
    | @lst a us _ hs1 ra => exact ⟨a, us, rfl, .inl (.inl (R1.ex _ _ hs1)), fun p hp => own_new R1 p1 s1 hp ra.reverse q⟩
  case h_2 =>
    rename_i xs
    obtain ⟨q1, q2⟩ := Prod.mk.inj (Option.some.inj h2)
    subst q1
    subst q2
    cases r1 with
    | @frl a us _ hs1 ra => exact ⟨a, us, rfl, R1.ex.l hs1, fun p hp => own_new R1 p1 s1 hp ra.reverse q⟩
end
end Dn
end
section
set_option maxHeartbeats 4000000
/-! x = [.. for .. in a list of one's own that is kept]. -/
namespace Dn
open PySem PySem.Spec PyProof.Rows L2
section
variable {X : Cx} {elt tg iter : Expr} {ifs : List Expr} {scope : Scope} {own : List (Str × Nat)} {it : FA} {gt : FT} {ts : List Nat} {c : FB} {fe : FE} {i : Nat} {y : Str} {py pos spos : Pos}
theorem gs_setLcW (W : FL → FL) (hW : ∀ (te : TE) (f : FL), GoodL X.K te f → GoodL X.K te (W f)) (i : Nat) (own : List (Str × Nat)) (hN : X.N.Nodup) (hi : GI X tg iter it) (ok : blkC X.N X.env.scope scope own = true) (hsw : swapsWith (.ListComp elt [⟨tg, iter, ifs, 0⟩] scope pos) (some (.Name y py)) spos.line X.env = pure true)
    (hg : ∀ (s : Shared) (H : Hp) (C : Addr) (cl : List (Str × Addr)) (fp : List Addr), GT (X.blk s H scope (compEnvC scope cl C X.env) fp) tg gt ts) (ht : ∀ (s : Shared) (H : Hp) (C : Addr) (cl : List (Str × Addr)) (fp : List Addr), GPs (X.blk s H scope (compEnvC scope cl C X.env) fp) ifs c)
    (he : ∀ (s : Shared) (H : Hp) (C : Addr) (cl : List (Str × Addr)) (fp : List Addr), GE (X.blk s H scope (compEnvC scope cl C X.env) fp) elt fe) (hy : X.N[i]? = some y := by rfl) (hyl : X.env.scope.names.lookup y = some .local := by rfl) (hsub : ∀ i ∈ ts, i ∈ own.map (·.2) := by decide) (hc : X.calm = true := by rfl) (hs : ∀ x, foldedSetIterable iter X.env x = pure x := by intro _; rfl) :
    GS X (.Assign [.Name y py] (.ListComp elt [⟨tg, iter, ifs, 0⟩] scope pos) spos) (SAsg (FOf (W (LComp (own.map (·.2)) it gt c fe))) (TName i)) := by
  obtain ⟨te, a, b⟩ := setLc_core own hN hy hyl hsw hi ok hg ht he hsub hc hs
  exact ⟨_, b, good_asg (good_ofL (hW _ _ a)) (good_name i)⟩
theorem gs_ownLcW (W : FL → FL) (hW : ∀ (te : TE) (f : FL), GoodL X.K te f → GoodL X.K te (W f)) (i : Nat) (own : List (Str × Nat)) (hN : X.N.Nodup) (hi : GI X tg iter it) (ok : blkC X.N X.env.scope scope own = true) (hsw : swapsWith (.ListComp elt [⟨tg, iter, ifs, 0⟩] scope pos) (some (.Name y py)) spos.line X.env = pure true)
    (hg : ∀ (s : Shared) (H : Hp) (C : Addr) (cl : List (Str × Addr)) (fp : List Addr), GT (X.blk s H scope (compEnvC scope cl C X.env) fp) tg gt ts) (ht : ∀ (s : Shared) (H : Hp) (C : Addr) (cl : List (Str × Addr)) (fp : List Addr), GPs (X.blk s H scope (compEnvC scope cl C X.env) fp) ifs c)
    (he : ∀ (s : Shared) (H : Hp) (C : Addr) (cl : List (Str × Addr)) (fp : List Addr), GE (X.blk s H scope (compEnvC scope cl C X.env) fp) elt fe) (hy : X.N[i]? = some y := by rfl) (hyl : X.env.scope.names.lookup y = some .local := by rfl) (hsub : ∀ i ∈ ts, i ∈ own.map (·.2) := by decide) (hc : X.calm = true := by rfl) (hs : ∀ x, foldedSetIterable iter X.env x = pure x := by intro _; rfl) :
    GS X (.Assign [.Name y py] (.ListComp elt [⟨tg, iter, ifs, 0⟩] scope pos) spos) (SOwn i (W (LComp (own.map (·.2)) it gt c fe))) := by
  obtain ⟨te, a, b⟩ := setLc_core own hN hy hyl hsw hi ok hg ht he hsub hc hs
  exact ⟨_, b, good_own i (hW _ _ a)⟩
end
end Dn
end
section
set_option maxHeartbeats 4000000
/-! sorted(..) of a tuple of ints. -/
namespace Dn
open PySem PySem.Spec PyProof.Rows L2
def rSortedT (K : PySem.W.Frag) : List V → Hp → VK → Prop := fun vs H Q => ∃ (a : Addr) (ns : List Int), vs = [V.ref a] ∧ SqT K H a (ns.map V.int) ∧
  ∀ (ms : List Int) (p : Addr), ms.Perm ns → ms.Pairwise (· ≤ ·) → H p = none → Q (.ref p) (upd H p (.lst (ms.map V.int)))
section
open Srt SrtO
variable {X : Cx}
theorem cr_sortedT : CallR X (.builtin "sorted") (rSortedT X.K) := by
  intro pins s σ H vs us Q I r h
  obtain ⟨a, ns, rfl, hs, q⟩ := h
  obtain ⟨its, rv, tu, hz⟩ := I.tuple hs
  rw [Vals.ref1 r]
  have hi := rv.ints
  obtain ⟨o, ho, hc, n, hd⟩ := tu
  have hz2 : its.length ≤ sizeLine := by rw [← rv.length]; exact hz
  refine Calls.call_function_entry kind_sorted plain_sorted entry_sorted (args_sorted1 _) ?_
  unfold Builtin.«sorted»
  refine wpAny_bind (m := checkCount "sorted" 1 1 _) (wpAny_pure ?_)
  refine wpAny_bind (wpAny_collect_seq a (.inr rfl) ho hc hd (fun h' k => ?_) (by rw [List.size_toArray]; exact hz2))
  have I1 : Inv X pins σ H { s with heap := h' } := I.kept (t' := s.toks) fun b o e => k b o e
  refine wpAny_bind (wpAny_newList ?_ hz2)
  have hoL : (h'.push (seqObj "list" its.toArray 0)).get? h'.objs.size = some (seqObj "list" its.toArray 0) := Heap.get?_push_size _ rfl
  refine wpAny_bind (wpAny_holding (wpAny_call_entry slot_list_sort ⟨_, hoL, rfl⟩ entry_list_sort (list_sort_ord swo_int hoL hz2 (fun h2 => ints_sortable hi h2) fun out h1 h2 => ⟨_, rfl, ?_⟩) (args_list_sort _)))
  obtain ⟨k1, k2, k3⟩ := ints_out hi h1 h2
  obtain ⟨ep, he'⟩ := sortedHeap_at (vs := its) (out := out.toArray) hoL
  have hlen : ((out.map iv).map V.int).length ≤ sizeLine := by
    rw [List.length_map, k2.length_eq]
    rw [List.length_map] at hz
    exact hz
  have kp : ∀ b u, h'.get? b = some u → (sortedHeap (h'.push (seqObj "list" its.toArray 0)) h'.objs.size its out.toArray).get? b = some u := fun b u hu => by
    have hb := Heap.lt_size hu
    rw [sortedHeap_old (Nat.ne_of_lt hb) (Heap.lt_size (Heap.get?_push_of_some _ hu))]
    exact Heap.get?_push_of_some _ hu
  exact wpAny_pure ⟨_, rfl, .ref _, upd H h'.objs.size (.lst ((out.map iv).map V.int)), I1.laid (t' := s.toks) kp (Nat.le_refl _) ⟨hlen, out, ep, vals_of_ints k1, he'⟩, rfl, q _ _ k2 k3 (I1.hok.fresh (Nat.le_refl _))⟩
end
theorem call_or {X : Cx} {f : Value} {r r' : List V → Hp → VK → Prop} (h : CallR X f r) (h' : CallR X f r') : CallR X f (fun vs H Q => r vs H Q ∨ r' vs H Q) := by
  intro pins s σ H vs us Q I rr z
  rcases z with z | z
  · exact h pins s σ H vs us Q I rr z
  · exact h' pins s σ H vs us Q I rr z
/-- sorted(..) of a list or a tuple of ints -/
def LSortG (f : FE) : FL := fun ρ => bnd (f ρ) fun d ρ1 => match d with
  | .lst ds => match intsD ds with
    | some ns => some ((sortI ns).map D.int, ρ1)
    | none => none
  | .tup ds => match intsD ds with
    | some ns => some ((sortI ns).map D.int, ρ1)
    | none => none
  | _ => none
section
variable {X : Cx} {pos : Pos}
theorem gl_sortG {p : Pos} {e : Expr} {f : FE} (h : GE X e f) (hm : X.mg "sorted" = none) (hgl : Gl X "sorted" := by rfl) (hv : bootBuiltins "sorted" = some (.builtin "sorted") := by decide +kernel)
    (he : starEach [e] X.env = (false, eval e X.env) :: starEach [] X.env := by rfl) (hs : starEach [e] X.env = [(false, eval e X.env)] := by rfl) : GL X (.Call (.Name "sorted" p) [e] [] pos) (LSortG f) := by
  obtain ⟨ta, a, b⟩ := ga_cons h ga_nil hs
  refine ⟨_, pe_callB (call_or cr_sortedI cr_sortedT) hgl hm hv a (he := he), fun pa w σ ds ρ' R h Q q => ?_⟩
  obtain ⟨d, ρ1, e1, h2⟩ := bnd_eq h
  have ea : ACons f ANil w.ρ = some ([d], ρ1) := by
    unfold ACons ANil
    rw [e1]
    rfl
  refine b pa w σ [d] ρ1 R ea _ fun w1 vs R1 p1 s1 r1 => ?_
  split at h2
  case h_3 => cases h2
  case h_1 =>
    rename_i xs
    split at h2
    case h_2 => cases h2
    rename_i ns hn
    obtain ⟨q1, q2⟩ := Prod.mk.inj (Option.some.inj h2)
    subst q1
    subst q2
    have ex := intsD_eq hn
    subst ex
    cases r1 with
    | cons r rr =>
      cases rr
      cases r with
      | @lst a us _ hs1 ra =>
        have eu := ra.ints
        subst eu
        refine .inl ⟨a, ns, rfl, .inl (.inl (R1.ex _ _ hs1)), fun ms l hp hw hl => ?_⟩
        have e := sortI_eq hp hw
        subst e
        exact own_new R1 p1 s1 hl RpA.ofInts q
  case h_2 =>
    rename_i xs
    split at h2
    case h_2 => cases h2
    rename_i ns hn
    obtain ⟨q1, q2⟩ := Prod.mk.inj (Option.some.inj h2)
    subst q1
    subst q2
    have ex := intsD_eq hn
    subst ex
    cases r1 with
    | cons r rr =>
      cases rr
      cases r with
      | @tup a us _ hs1 ra =>
        have eu := ra.ints
        subst eu
        refine .inr ⟨a, ns, rfl, R1.ex.t hs1, fun ms l hp hw hl => ?_⟩
        have e := sortI_eq hp hw
        subst e
        exact own_new R1 p1 s1 hl RpA.ofInts q
end
theorem LSortG_L {f : FE} {ρ ρ1 : List Sl} {bs : List Int} (h : f ρ = some (.lst (bs.map D.int), ρ1)) : LSortG f ρ = some ((sortI bs).map D.int, ρ1) := by
  unfold LSortG
  rw [h, bnd_some]
  dsimp only
  rw [intsD_ints]
theorem LSortG_T {f : FE} {ρ ρ1 : List Sl} {bs : List Int} (h : f ρ = some (.tup (bs.map D.int), ρ1)) : LSortG f ρ = some ((sortI bs).map D.int, ρ1) := by
  unfold LSortG
  rw [h, bnd_some]
  dsimp only
  rw [intsD_ints]
end Dn
end
section
set_option maxHeartbeats 4000000
/-! Raising runs, beside what a text is worth when it runs through: which error leaves it, and with which value. -/
namespace Dn
open PySem PySem.Spec PyProof.Rows L2
/-- the error's class, what it keeps -/
abbrev XV := Addr × D
def XRp (K : PySem.W.Frag) (F H : Hp) (cls : Value) (d : Option Addr) (x : XV) : Prop := cls = .ref x.1 ∧ ∃ (dd : Addr) (u : V), d = some dd ∧ H dd = some (.xd [(("value" : Str), u)]) ∧ Rp K F u x.2
abbrev FX := List Sl → Option (XV × List Sl)
def RaisesS (K : PySem.W.Frag) (W : WX) (ts : TS) (r : FX) : Prop := ∀ (pa : Nat → Addr) (w : Wd) (σ : L2.St) (x : XV) (ρ' : List Sl), Rel K pa w σ → r w.ρ = some (x, ρ') →
  (∀ (w' : Wd) (σ' : L2.St) (cls : Value) (d : Option Addr), Rel K pa w' σ' → w'.ρ = ρ' → Step w w' → XRp K w'.F w'.H cls d x → W cls d σ' w'.H) → ∀ D : Ends, ts D σ w.H
def RaisesE (K : PySem.W.Frag) (W : WX) (te : TE) (r : FX) : Prop := ∀ (pa : Nat → Addr) (w : Wd) (σ : L2.St) (x : XV) (ρ' : List Sl), Rel K pa w σ → r w.ρ = some (x, ρ') →
  (∀ (w' : Wd) (cls : Value) (d : Option Addr), Rel K pa w' σ → w'.ρ = ρ' → Step w w' → XRp K w'.F w'.H cls d x → W cls d σ w'.H) → ∀ Q : VK, te σ w.H Q
def RaisesA (K : PySem.W.Frag) (W : WX) (ta : TA) (r : FX) : Prop := ∀ (pa : Nat → Addr) (w : Wd) (σ : L2.St) (x : XV) (ρ' : List Sl), Rel K pa w σ → r w.ρ = some (x, ρ') →
  (∀ (w' : Wd) (cls : Value) (d : Option Addr), Rel K pa w' σ → w'.ρ = ρ' → Step w w' → XRp K w'.F w'.H cls d x → W cls d σ w'.H) → ∀ Q : List V → Hp → Prop, ta σ w.H Q
structure RS (X : Cx) (W : WX) (st : Stmt) (r : FX) : Prop where
  ok : ∃ ts, PS X st ts ∧ RaisesS X.K W ts r
structure RSs (X : Cx) (W : WX) (st : List Stmt) (r : FX) : Prop where
  ok : ∃ ts, PSs X st ts ∧ RaisesS X.K W ts r
structure RE (X : Cx) (W : WX) (e : Expr) (r : FX) : Prop where
  ok : ∃ te, PE X e te ∧ RaisesE X.K W te r
structure RA (X : Cx) (W : WX) (es : List Expr) (r : FX) : Prop where
  ok : ∃ ta, PA X es ta ∧ RaisesA X.K W ta r
/-- an expression that makes an error -/
structure GMk (X : Cx) (e : Expr) (r : FX) : Prop where
  ok : ∃ t, PMk X e t ∧ ∀ (pa : Nat → Addr) (w : Wd) (σ : L2.St) (x : XV) (ρ' : List Sl), Rel X.K pa w σ → r w.ρ = some (x, ρ') →
    ∀ Q : XK, (∀ (w' : Wd) (cls : Value) (d : Option Addr), Rel X.K pa w' σ → w'.ρ = ρ' → Step w w' → XRp X.K w'.F w'.H cls d x → Q cls d w'.H) → t σ w.H Q
section
variable {X : Cx} {W : WX} {st : Stmt} {rest a b : List Stmt} {e : Expr} {es : List Expr} {f : FS} {r : FX} {pos : Pos}
theorem pss_no : PSs X rest (fun _ _ _ => False) := ⟨fun _ _ _ _ _ _ h => h.elim⟩
theorem rs_head (h : RS X W st r) : RSs X W (st :: rest) r := by
  obtain ⟨ts, a, b⟩ := h
  exact ⟨_, pss_cons a pss_no, fun pa w σ x ρ' R e q D => b pa w σ x ρ' R e q _⟩
def XSeq (f : FS) (r : FX) : FX := fun ρ => bnd (f ρ) fun o ρ1 => match o with
  | .nx => r ρ1
  | _ => none
theorem rs_tail (h : GS X st f) (h2 : RSs X W rest r) : RSs X W (st :: rest) (XSeq f r) := by
  obtain ⟨ts, a, b⟩ := h
  obtain ⟨us, c, d⟩ := h2
  refine ⟨_, pss_cons a c, fun pa w σ x ρ' R e q D => ?_⟩
  obtain ⟨o1, ρ1, e1, h⟩ := bnd_eq e
  refine b pa w σ o1 ρ1 R e1 _ ?_
  cases o1 with
  | nx => exact fun w1 σ1 R1 p1 s1 => d pa w1 σ1 x ρ' R1 (by rw [p1]; exact h) (fun w' σ' cls dd R' p' s' xr => q w' σ' cls dd R' p' (s1.trans s') xr) D
  | bk => cases h
  | ct => cases h
  | ret _ => cases h
  | rto _ => cases h
def XIf (c : FB) (r : FX) : FX := fun ρ => bnd (c ρ) fun b ρ1 => if b = true then r ρ1 else none
theorem rs_if {c : Expr} {fc : FB} (hc : GB X c fc) (ha : RSs X W a r) : RS X W (.If c a b pos) (XIf fc r) := by
  obtain ⟨tc, c1, c2⟩ := hc
  obtain ⟨ta, a1, a2⟩ := ha
  refine ⟨_, ps_if c1 a1 (pss_no (rest := b)), fun pa w σ x ρ' R e q D => ?_⟩
  obtain ⟨k, ρ1, e1, h⟩ := bnd_eq e
  refine c2 pa w σ k ρ1 R e1 _ fun w1 R1 p1 s1 => ?_
  subst p1
  cases k with
  | true =>
    rw [if_pos rfl] at h ⊢
    exact a2 pa w1 σ x ρ' R1 h (fun w' σ' cls dd R' p' s' xr => q w' σ' cls dd R' p' (s1.trans s') xr) D
  | false =>
    rw [if_neg Bool.false_ne_true] at h
    cases h
theorem rs_raise (hc : X.calm = true) (tk : Takes X W) (h : GMk X e r) : RS X W (.Raise (some e) none pos) r := by
  obtain ⟨t, a, b⟩ := h
  exact ⟨_, ps_raise hc tk a, fun pa w σ x ρ' R e q D => b pa w σ x ρ' R e _ fun w' cls d R' p s xr => q w' σ cls d R' p s xr⟩
theorem rs_ret (h : RE X W e r) : RS X W (.Return (some e) pos) r := by
  obtain ⟨te, a, b⟩ := h
  exact ⟨_, ps_ret a, fun pa w σ x ρ' R e q D => b pa w σ x ρ' R e (fun w' cls d R' p s xr => q w' σ cls d R' p s xr) _⟩
theorem ra_head (h : RE X W e r) (ha : ∃ ta, PA X es ta) (hs : starEach (e :: es) X.env = (false, eval e X.env) :: starEach es X.env := by rfl) : RA X W (e :: es) r := by
  obtain ⟨te, a, b⟩ := h
  obtain ⟨ta, c⟩ := ha
  exact ⟨_, pa_cons a c hs, fun pa w σ x ρ' R e q Q => b pa w σ x ρ' R e q _⟩
def XCons (f : FE) (r : FX) : FX := fun ρ => bnd (f ρ) fun _ ρ1 => r ρ1
theorem ra_tail {fe : FE} (h : GE X e fe) (ha : RA X W es r) (hs : starEach (e :: es) X.env = (false, eval e X.env) :: starEach es X.env := by rfl) : RA X W (e :: es) (XCons fe r) := by
  obtain ⟨te, a, b⟩ := h
  obtain ⟨ta, c, d⟩ := ha
  refine ⟨_, pa_cons a c hs, fun pa w σ x ρ' R e q Q => ?_⟩
  obtain ⟨y, ρ1, e1, h⟩ := bnd_eq e
  refine b pa w σ y ρ1 R e1 _ fun w1 v R1 p1 s1 r1 => ?_
  exact d pa w1 σ x ρ' R1 (by rw [p1]; exact h) (fun w' cls dd R' p' s' xr => q w' cls dd R' p' (s1.trans s') xr) _
theorem re_tup {x1 : Nat} (h : RA X W es r) : RE X W (.Tuple es x1 pos) r := by
  obtain ⟨ta, a, b⟩ := h
  exact ⟨_, pe_tup a, fun pa w σ x ρ' R e q Q => b pa w σ x ρ' R e q _⟩
end
/-! ### an error class whose __init__ keeps its only argument as value -/
/-- what __init__ promises -/
def spInit (K : PySem.W.Frag) : Sp := fun vs H Q _ => ∃ (a C : Addr) (v : V), vs = [.ref a, v] ∧ OexC K C ∧ PySem.W.findIn K (.ref C) "value" = some none ∧ H a = some (exo a C none) ∧
  ∀ dx, H dx = none → dx ≠ a → Q .non (upd (upd H dx (exd dx [(("value" : Str), v)])) a (exo a C (some dx)))
theorem spInit_len {K : PySem.W.Frag} (vs : List V) (H : Hp) (Q : VK) (E : XK) (h : spInit K vs H Q E) : vs.length = 2 := by
  obtain ⟨a, C, v, rfl, _⟩ := h
  rfl
section
variable {X : Cx} {e : Expr} {f : FE} {p pos : Pos}
theorem gmk_own {x : Str} {C fI : Addr} {k : Nat} {fd : FuncData} {ps : List Str} (T : OexC X.K C) (hno : PySem.W.findIn X.K (.ref C) "value" = some none) (iC : PySem.W.findIn X.K (.ref C) "__init__" = some (some (.ref fI))) (tI : PySem.W.typeIn X.K (.ref fI) = some (.type "function"))
    (F1 : FnOk X.prog X.w X.K X.mg X.base CX0 k fI fd ps (spInit X.K)) (hr : Room (k + 1) X.A) (hb : Binds X.K fd ps []) (hm : X.mg x = some (.ref C)) (h : GE X e f) (hg : Gl X x := by rfl) (hdb : (x == ("__debug__" : Str)) = false := by decide)
    (he : starEach (e :: []) X.env = (false, eval e X.env) :: starEach [] X.env := by rfl) (hpl : (backTo pos (starEach [] X.env)).any (·.1) = false := by rfl) :
    GMk X (.Call (.Name x p) [e] [] pos) (fun ρ => bnd (f ρ) fun d ρ1 => some ((C, d), ρ1)) := by
  obtain ⟨ta, a, b⟩ := ga_cons h ga_nil he
  refine ⟨_, pmk_oex T iC tI F1 hr hb .nil pass0 hg hm a hdb he hpl, fun pa w σ x ρ' R ee Q q => ?_⟩
  obtain ⟨d, ρ1, e1, h2⟩ := bnd_eq ee
  obtain ⟨q1, q2⟩ := Prod.mk.inj (Option.some.inj h2)
  subst q1
  subst q2
  have ea : ACons f ANil w.ρ = some ([d], ρ1) := by
    unfold ACons ANil
    rw [e1]
    rfl
  refine b pa w σ [d] ρ1 R ea _ fun w1 vs R1 p1 s1 r1 => ?_
  cases r1 with
  | cons rv rn =>
    rename_i v vs'
    cases rn
    refine ⟨(show 1 ≤ 1000 by decide), fun a ha => ⟨a, C, v, rfl, T, hno, upd_same, fun dx hdx hne => ⟨rfl, dx, [(("value" : Str), v)], upd_same, ?_, ?_, ?_⟩⟩⟩
    · rw [upd_ne hne, upd_same]
    · rw [upd_ne hne] at hdx
      exact hdx
    · rw [upd_ne hne] at hdx
      have eh : upd (L2.del (upd (upd (upd w1.H a (exo a C none)) dx (exd dx [(("value" : Str), v)])) a (exo a C (some dx))) a) dx (.xd [(("value" : Str), v)]) = upd w1.H dx (.xd [(("value" : Str), v)]) := by
        funext z
        by_cases z1 : z = dx
        · subst z1
          rw [upd_same, upd_same]
        · rw [upd_ne z1, upd_ne z1]
          by_cases z2 : z = a
          · subst z2
            rw [del_same, ha]
          · rw [del_ne z2, upd_ne z2, upd_ne z1, upd_ne z2]
      rw [eh]
      obtain ⟨R3, s3⟩ := R1.grow (Grow.quiet (o := .xd [(("value" : Str), v)]) R1.ex hdx)
      exact q ⟨w1.F, _, w1.al, w1.ρ⟩ (.ref C) (some dx) R3 p1 (s1.trans s3) ⟨rfl, dx, v, rfl, upd_same, rv⟩
end
/-! ### defs that raise -/
/-- data in, an error out -/
def spR (K : PySem.W.Frag) (m : Nat) (xden : List D → Option XV) : Sp := fun vs H _ E => vs.length = m ∧ ∃ (F : Hp) (ds : List D) (x : XV), Ex F H ∧ RpA K F vs ds ∧ xden ds = some x ∧
  ∀ (F' H' : Hp) (cls : Value) (d : Option Addr), Grow F H F' H' → XRp K F' H' cls d x → E cls d H'
def xDef (m n : Nat) (r : FX) : List D → Option XV := fun ds => if ds.length = m then (r (ds.map Sl.fz ++ List.replicate (n - ds.length) .un)).map (·.1) else none
theorem xDef_len {m n : Nat} {r : FX} (ds : List D) (x : XV) (h : xDef m n r ds = some x) : ds.length = m := by
  unfold xDef at h
  split at h
  · assumption
  · cases h
theorem rel_data {K : PySem.W.Frag} {F H : Hp} {al : Nat → Addr} {vs : List V} {ds : List D} (ex : Ex F H) (ra : RpA K F vs ds) : Rel K al ⟨F, H, al, ds.map Sl.fz⟩ (vs.map some) := by
  refine ⟨ex, by rw [List.length_map, List.length_map, ra.length], fun i d h => ?_, fun i t es h => ?_, fun i j t u es es' h => ?_⟩
  · dsimp only at h
    rw [List.getElem?_map] at h
    obtain ⟨d', h1, h2⟩ := Option.map_eq_some_iff.mp h
    cases h2
    obtain ⟨v, a, b⟩ := ra.get h1
    exact ⟨v, by rw [List.getElem?_map, a]; rfl, b⟩
  · dsimp only at h
    rw [List.getElem?_map] at h
    obtain ⟨d', h1, h2⟩ := Option.map_eq_some_iff.mp h
    cases h2
  · dsimp only at h
    rw [List.getElem?_map] at h
    obtain ⟨d', h1, h2⟩ := Option.map_eq_some_iff.mp h
    cases h2
section
variable {P : Program} {w : World} {K : PySem.W.Frag} {mg : Str → Option Value} {base : Heap}
theorem fn_raise {x qual : Str} {st : Stmt} {f : Addr} {fd : FuncData} {N ps : List Str} {k : Nat} {r : FX} (F : Fun K x qual st f fd) (S : FnScope N ps (defScope st))
    (h : ∀ (cdv : Value) (A : Around) (outer : List Env) (s : Shared) (H : Hp) (E : XK), Room k (A.deeper (envOfC qual (defScope st) s.heap.objs.size f cdv)) → A.guards = some [] → RSs (cxOf (L2.CX P w) P w K mg base N qual (defScope st) f cdv A outer s H E) (fun cls d _ H => E cls d H) (defBody st) r) :
    FnG P w K mg base (L2.CX P w) (k + 1) f fd ps (spR K ps.length (xDef ps.length N.length r)) := by
  obtain ⟨oc, od, kV, doc, pm, an, cdv, ct, osl, rfl, lk, hcd⟩ := F.ex
  refine fn_ofG lk hcd S (fun _ _ _ _ h => h.1) fun A outer s H vs Q E hr hgd hsp => ?_
  obtain ⟨ts, a, b⟩ := (h cdv A outer s H E hr hgd).ok
  refine ⟨ts, a, ?_⟩
  obtain ⟨hl, F0, ds, x, ex, ra, hx, want⟩ := hsp
  unfold xDef at hx
  split at hx
  case isFalse => cases hx
  obtain ⟨⟨x', ρ'⟩, e1, e2⟩ := Option.map_eq_some_iff.mp hx
  cases e2
  have R0 := rel_start (N := N) (rel_data (al := fun _ => 0) ex ra)
  rw [List.length_map] at R0
  have no : ∀ c, ¬ Own ⟨F0, H, fun _ => 0, ds.map Sl.fz ++ List.replicate (N.length - ds.length) .un⟩ c := fun c ⟨i, t, es, hi, _⟩ => by
    dsimp only at hi
    have := List.mem_of_getElem? hi
    rcases List.mem_append.mp this with q | q
    · obtain ⟨d, _, q2⟩ := List.mem_map.mp q
      cases q2
    · have := List.eq_of_mem_replicate q
      cases this
  exact b _ _ (L2.start N vs) x' ρ' R0 e1 (fun w' σ' cls d R' p s xr => want w'.F w'.H cls d ⟨s.ex, R'.ex, fun c o hc => s.fr c o hc (no c), fun c o hc hf => s.ff c o hc (no c) hf⟩ xr) _
end
section
variable {X : Cx} {W : WX} {k : Nat} {f : Addr} {fd : FuncData} {ps : List Str} {sp : Sp} {E : L2.St → XK} {x : Str} {p pos : Pos} {e : Expr} {es : List Expr} {fa : FA}
theorem run_fnGS {CX : CXT} {pins : List (Addr × Obj)} {σ : L2.St} {H : Hp} {s : Shared} {Q : VK} {us : List Value} {vs : List V} (F : FnG X.prog X.w X.K X.mg X.base CX k f fd ps sp) (hr : Room k X.A) (hgd : X.A.guards = some []) (hb : Binds X.K fd ps []) (hx : PassesAt CX X σ (E σ))
    (I : Inv X pins σ H s) (r : Vals vs us) (h : sp vs H Q (E σ)) : wpAny (model X.prog X.w) X.A (call (.ref f) us) (EP X pins σ Q) X.xe s := by
  have hl : us.length = ps.length := by rw [← r.length]; exact F.len _ _ _ _ h
  have bb := hb s us I.kIn (by rw [List.append_nil]; exact hl)
  rw [List.append_nil] at bb
  refine wpAny_call (codeAny_mono (F.run X.A X.stack s H ⟨us, []⟩ us vs Q (E σ) hr hgd I.env0 bb r h) fun r s' hq => ?_)
  cases r with
  | error e => exact hx pins H s e s' I hq
  | ok fl =>
    cases fl with
    | ret u => exact I.after hq
    | next => exact False.elim hq
    | brk => exact False.elim hq
    | cont => exact False.elim hq
theorem pe_callGS {t : TA} (F : FnG X.prog X.w X.K X.mg X.base (L2.CX X.prog X.w) k f fd ps sp) (hr : Room k X.A) (hgd : X.A.guards = some []) (hg : Gl X x) (hm : X.mg x = some (.ref f)) (hk : PySem.W.keepIn X.K (.ref f) = true) (hb : Binds X.K fd ps []) (tk : Takes X W)
    (ha : PA X (e :: es) t) (hdb : (x == ("__debug__" : Str)) = false := by decide) (he : starEach (e :: es) X.env = (false, eval e X.env) :: starEach es X.env := by rfl) (hpl : (backTo pos (starEach es X.env)).any (·.1) = false := by rfl) :
    PE X (.Call (.Name x p) (e :: es) [] pos) (tCallS sp (WE W) t) := by
  refine ⟨fun pins s σ H Q I h => ?_⟩
  refine wpAny_Call_Name_kw (ld_glob I hg hm ?_ hdb)
  refine PySem.W.callWith_K (h₀ := X.base) I.ok.mod.kin hk (thn (ha.run pos pins s σ H _ I h) fun us s1 ⟨vs, H1, I1, r, q⟩ => ⟨I1.kIn, ?_⟩) he hpl
  exact run_fnGS F hr hgd hb (passAt tk σ) I1 r q
def XCall (xden : List D → Option XV) (fa : FA) : FX := fun ρ => bnd (fa ρ) fun ds ρ1 => (xden ds).map fun x => (x, ρ1)
theorem re_call {xden : List D → Option XV} (F : FnG X.prog X.w X.K X.mg X.base (L2.CX X.prog X.w) k f fd ps (spR X.K ps.length xden)) (hlen : ∀ ds x, xden ds = some x → ds.length = ps.length) (hr : Rm X.A k) (hm : X.mg x = some (.ref f)) (hk : PySem.W.keepIn X.K (.ref f) = true) (hb : Binds X.K fd ps []) (tk : Takes X W)
    (ha : GA X (e :: es) fa) (hg : Gl X x := by rfl) (hdb : (x == ("__debug__" : Str)) = false := by decide) (he : starEach (e :: es) X.env = (false, eval e X.env) :: starEach es X.env := by rfl) (hpl : (backTo pos (starEach es X.env)).any (·.1) = false := by rfl) :
    RE X W (.Call (.Name x p) (e :: es) [] pos) (XCall xden fa) := by
  obtain ⟨ta, a, b⟩ := ha
  refine ⟨_, pe_callGS F hr.room hr.gd hg hm hk hb tk a hdb he hpl, fun pa w σ x ρ' R ee q Q => ?_⟩
  obtain ⟨ds, ρ1, e1, h⟩ := bnd_eq ee
  obtain ⟨y, h1, h2⟩ := Option.map_eq_some_iff.mp h
  obtain ⟨q1, q2⟩ := Prod.mk.inj h2
  subst q1
  subst q2
  refine b pa w σ ds ρ1 R e1 _ fun w1 vs R1 p1 s1 ra => ?_
  refine ⟨ra.length.trans (hlen _ _ h1), w1.F, ds, y, R1.ex, ra, h1, fun F' H' cls d g xr => ?_⟩
  obtain ⟨R3, s3⟩ := R1.grow g
  exact q ⟨F', H', w1.al, w1.ρ⟩ cls d R3 p1 (s1.trans s3) xr
end
end Dn
end
section
set_option maxHeartbeats 4000000
/-! The error's own __init__; try .. except X as n; isinstance of a caught error with a dict. -/
namespace Dn
open PySem PySem.Spec PyProof.Rows L2
section
variable {P : Program} {w : World} {K : PySem.W.Frag} {mg : Str → Option Value} {base : Heap}
theorem init_ok {x qual : Str} {st : Stmt} {f : Addr} {fd : FuncData} {p1 p2 p3 p4 : Pos} (F : Fun K x qual st f fd) (hb : defBody st = [.Assign [.Attribute (.Name "self" p1) "value" p2] (.Name "value" p3) p4]) (S : FnScope ["self", "value"] ["self", "value"] (defScope st))
    (hs : Vis (defScope st) "self") (hv : Vis (defScope st) "value") (hsw : ∀ (env : Env), swapsWith (.Name "value" p3) (some (.Attribute (.Name "self" p1) "value" p2)) p4.line env = pure false) :
    FnOk P w K mg base CX0 1 f fd ["self", "value"] (spInit K) := by
  obtain ⟨oc, od, kV, doc, pm, an, cdv, ct, osl, rfl, lk, hcd⟩ := F.ex
  refine fn_of (k := 0) lk hcd S spInit_len fun A outer s H vs Q E hr hsp => ?_
  obtain ⟨a, C, v, rfl, T, hno, ha, want⟩ := hsp
  rw [hb]
  refine ⟨_, pss_cons (ps_ost (pe_var (i := 0) rfl hs (by decide) (by decide)) (pe_var (i := 1) rfl hv (by decide) (by decide)) (hsw _)) pss_nil, ?_⟩
  refine ⟨v, rfl, .ref a, rfl, a, C, rfl, T, hno, .inl ⟨ha, fun dx h1 h2 => ?_⟩⟩
  exact want dx h1 h2
end
/-! ### isinstance of the error that a suite holds, with a dict of its own -/
/-- what the class C must say -/
structure ErrC (K : PySem.W.Frag) (C : Addr) : Prop where
  cl : (PySem.W.clsIn K C).isSome = true
  ga : PySem.W.findIn K (.ref C) "__getattribute__" = some (some (.builtin "BaseException.__getattribute__"))
  gg : PySem.W.findIn K (.ref C) "__getattr__" = some none
  sb : PySem.W.subIn K (.ref C) (.type "BaseException") = some true
  ha : PySem.W.findIn K (.ref C) "__class__" = some (some (.builtin "object.__class__"))
  hn : PySem.W.specialIn K (.builtin "object.__class__") "__get__" = some (some (.builtin "getset_descriptor.__get__"))
  ht : PySem.W.takesIn K (.builtin "object.__class__") = some true
  hm : PySem.W.mroIn K C (.type "object") = some true
def rIsD (K : PySem.W.Frag) (C a dd : Addr) : List V → Hp → VK → Prop := fun xs H Q => ∃ (c : V) (cv : Value) (b : Bool) (fs : List (Str × V)), xs = [.ref a, c] ∧ H dd = some (.xd fs) ∧ (∀ u, RelV c u → u = cv) ∧ PySem.W.kitOne K (.ref C) cv = some b ∧ Q (.bl b) H
theorem call_isD {X : Cx} {a C dd : Addr} {oe : Obj} {pn : List (Addr × Obj)} (T : ErrC X.K C) (hz : Zc (.ref C) (some dd) oe) (hf : ∃ vs, oe.data = .fields vs) : CallR (X.suite a ((a, oe) :: pn)) (.builtin "isinstance") (rIsD X.K C a dd) := by
  intro pins s σ H xs us Q I r h
  obtain ⟨c, cv, b, fs, rfl, hd, hcv, e, q⟩ := h
  cases r with
  | cons rx rr =>
    cases rr with
    | cons rt rr =>
      cases rr
      cases rx
      have ec := hcv _ rt
      subst ec
      obtain ⟨hget, _⟩ := I.pin (a, oe) (List.mem_append.mpr (.inl List.mem_cons_self))
      obtain ⟨vs, hv⟩ := hf
      have hx : ObjOk X.prog X.w H s.heap dd (.xd fs) := I.hok dd _ hd
      obtain ⟨mA, hns, hr⟩ := hx
      obtain ⟨od, ho, _⟩ := lookIn_ns hns
      have J : PySem.W.InstAt s.heap a oe C (some od) := by
        refine ⟨hget, hz.1, ?_, ?_⟩
        · unfold PySem.W.notCls
          rw [hv]
        · rw [hz.2]
          exact ho
      exact PySem.W.kia_one (PySem.W.kitx_exc T.cl T.ga T.gg T.sb T.ha T.hn T.ht T.hm) I.kIn J e (fun z => nomatch z) fun tk => ⟨.bl b, H, I.kept (t' := tk) fun _ _ z => z, rfl, q⟩
end Dn
end
section
set_option maxHeartbeats 4000000
/-! try: .. except X as n: a suite that returns. -/
namespace Dn
open PySem PySem.Spec PyProof.Rows L2
theorem rel_set_un {K : PySem.W.Frag} {pa : Nat → Addr} {w : Wd} {σ : L2.St} (R : Rel K pa w σ) {i : Nat} {v : Option V} (hi : w.ρ[i]? = some .un) : Rel K pa w (σ.set i v) := by
  have ne : ∀ {j : Nat} {s : Sl}, w.ρ[j]? = some s → s ≠ .un → i ≠ j := fun {j s} h n z => by
    subst z
    rw [hi] at h
    exact n (Option.some.inj h).symm
  refine ⟨R.ex, by rw [List.length_set]; exact R.len, fun j d h => ?_, fun j t ds h => ?_, R.inj⟩
  · obtain ⟨u, a, b⟩ := R.fz j d h
    exact ⟨u, by rw [List.getElem?_set_ne (ne h (fun z => by cases z))]; exact a, b⟩
  · obtain ⟨a, b⟩ := R.ow j t ds h
    exact ⟨by rw [List.getElem?_set_ne (ne h (fun z => by cases z))]; exact a, b⟩
/-- fB: the body run through; rB: the error that leaves it; g: what the suite returns of it (slot i is the error's name) -/
def STry (i : Nat) (fB : FS) (rB : FX) (g : XV → Option D) : FS := fun ρ => match fB ρ with
  | some o => some o
  | none => match rB ρ with
    | some (x, ρ1) => match ρ1[i]? with
      | some .un => (g x).map fun d => (.ret d, ρ1)
      | _ => none
    | none => none
/-- what the suite is to keep -/
def SuiteOk (X : Cx) (i : Nat) (suite : List Stmt) (x : XV) (v : D) : Prop := ∀ (a : Addr) (oe : Obj) (dd : Addr) (pn : List (Addr × Obj)), Zc (.ref x.1) (some dd) oe → (∃ vs, oe.data = .fields vs) →
  ∃ ts, PSs (X.suite a ((a, oe) :: pn)) suite ts ∧ ∀ (pa : Nat → Addr) (w : Wd) (σ : L2.St) (u : V), Rel X.K pa w σ → σ[i]? = some (some (.ref a)) → w.H dd = some (.xd [(("value" : Str), u)]) → Rp X.K w.F u x.2 →
    ∀ D : Ends, (∀ (w' : Wd) (y : V), Rel X.K pa w' σ → w'.ρ = w.ρ → Step w w' → Rp X.K w'.F y v → D.rt y w'.H) → ts D σ w.H
section
variable {X : Cx} {x n : Str} {c : Value} {i : Nat} {body suite : List Stmt} {b₀ : Stmt} {np pos pos' : Pos} {fB : FS} {rB : FX} {g : XV → Option D}
theorem gs_tryAs (hs : X.stack = X.env :: X.outer) (hf : X.env.frame = some X.env.locals) (hN : X.N.Nodup) (hi : X.N[i]? = some n) (hln : X.env.kindOf n = some .local) (hc : Names X x c) (tk : Takes X (fun _ _ _ _ => False))
    (hB : ∀ (W : WX) (pn : List (Addr × Obj)) (xe : Value → Shared → Prop), Takes (X.tr pn xe) W → GSs (X.tr pn xe) body fB) (hR : ∀ (W : WX) (pn : List (Addr × Obj)) (xe : Value → Shared → Prop), Takes (X.tr pn xe) W → RSs (X.tr pn xe) W body rB)
    (hx : ∀ (y : XV) (v : D), g y = some v → PySem.W.exmOne X.K (.ref y.1) c = some true) (hS : ∀ (y : XV) (v : D), g y = some v → SuiteOk X i (b₀ :: suite) y v) :
    GS X (.Try body [.ExceptHandler (some (.Name x np)) (some n) (b₀ :: suite) pos'] [] [] pos) (STry i fB rB g) := by
  refine ⟨_, ps_try_as (Wout := fun _ _ _ _ => False)
    (tb := fun W D σ H => ∀ (pn : List (Addr × Obj)) (xe : Value → Shared → Prop), Takes (X.tr pn xe) W → ∀ (pins : List (Addr × Obj)) (s : Shared), Inv (X.tr pn xe) pins σ H s → wpAny (model X.prog X.w) X.A (execs body X.env) (SP (X.tr pn xe) pins D) xe s)
    (ts := fun a cls d D σ H => ∀ (oe : Obj) (pn : List (Addr × Obj)), Zc cls d oe → (∃ vs, oe.data = .fields vs) → ∀ (pins : List (Addr × Obj)) (s : Shared), Inv (X.suite a ((a, oe) :: pn)) pins σ H s → wpAny (model X.prog X.w) (X.suite a ((a, oe) :: pn)).A (execs (b₀ :: suite) X.env) (SP (X.suite a ((a, oe) :: pn)) pins D) (fun _ _ => False) s)
    hs hf hN hi hln hc tk (fun W pn xe t _ => ⟨fun pins s σ H D I h => h pn xe t pins s I⟩) (fun a oe cls d pn z f => ⟨fun pins s σ H D I h => h oe pn z f pins s I⟩), fun pa w σ o ρ' R h E q => ?_⟩
  unfold STry at h
  split at h
  · rename_i o1 e1
    have e2 := Option.some.inj h
    subst e2
    intro pn xe t pins s I
    obtain ⟨t1, a1, b1⟩ := hB _ pn xe t
    exact a1.run pins s σ w.H E I (b1 pa w σ o ρ' R e1 E q)
  · split at h
    case h_2 => cases h
    rename_i y ρ1 e1
    split at h
    case h_2 => cases h
    rename_i e0
    obtain ⟨v, hg, e2⟩ := Option.map_eq_some_iff.mp h
    obtain ⟨q1, q2⟩ := Prod.mk.inj e2
    subst q1
    subst q2
    intro pn xe t pins s I
    obtain ⟨t1, a1, b1⟩ := hR _ pn xe t
    refine a1.run pins s σ w.H E I (b1 pa w σ y ρ1 R e1 (fun w' σ' cls d R' p' s' xr => ?_) E)
    obtain ⟨ec, dd, u, ed, hd, ru⟩ := xr
    subst ec
    subst ed
    refine ⟨true, hx y v hg, fun _ a ha oe pn z f pins s I => ?_, fun z => nomatch z⟩
    obtain ⟨t2, a2, b2⟩ := hS y v hg a oe dd pn z f
    have e3 : w'.ρ[i]? = some .un := by rw [p']; exact e0
    have il : i < σ'.length := by
      rw [← R'.len]
      rcases Nat.lt_or_ge i w'.ρ.length with z | z
      · exact z
      · rw [List.getElem?_eq_none z] at e3
        cases e3
    exact a2.run pins s _ _ _ I (b2 pa w' _ u (rel_set_un R' e3) (by rw [List.getElem?_set_self il]) hd ru _ fun w2 y2 R2 p2 s2 r2 => q w2 _ y2 R2 (p2.trans p') (s'.trans s2) r2)
end
end Dn
end
section
set_option maxHeartbeats 4000000
namespace Dn
open PySem PySem.Spec PyProof.Rows L2
theorem cr_reprM {X : Cx} (hgd : X.A.guards = some []) (hun : X.A.units + 200 < cLine) : CallR X (.builtin "repr") (rRepr X.K) := by
  intro pins s σ H xs us Q I r h
  obtain ⟨v, d, rfl, dp, sh, nd, hd, hz, q⟩ := h
  obtain ⟨u, rfl, r1⟩ := vals1 r
  obtain ⟨as, rd⟩ := Dp.reads I d v u dp r1
  have fin : ∀ (h' : Heap) (tu : Tok) (tk : Nat), (∀ b o, s.heap.get? b = some o → h'.get? b = some o) → EP X pins σ Q (.str d.shown tu) { s with heap := h', toks := tk } := fun h' tu tk hk => ⟨.str d.shown, H, I.kept hk, ⟨_, rfl⟩, q⟩
  cases dp with
  | non =>
    cases r1
    exact PySem.P.repr_of_none (fin s.heap _ _ fun _ _ e => e)
  | bl b =>
    cases r1
    exact PySem.P.repr_of_bool (fin s.heap _ _ fun _ _ e => e)
  | int i =>
    obtain ⟨t, rfl⟩ := r1
    exact PySem.P.repr_of_int (of_decide_eq_true sh) (fin s.heap _ _ fun _ _ e => e)
  | str x =>
    obtain ⟨t, rfl⟩ := r1
    exact PySem.P.repr_of_str (fin s.heap _ _ fun _ _ e => e) hz
  | lst hs ha =>
    cases r1
    exact repr_of_reads' rd sh (fun z => by rw [nd] at z; cases z) hgd (by omega) (fun _ _ e => e) fin hz
  | tup hs ha =>
    cases r1
    exact repr_of_reads' rd sh (fun z => by rw [nd] at z; cases z) hgd (by omega) (fun _ _ e => e) fin hz
/-- the suite `return A if isinstance(n, C) and repr(n.value) == repr(k) else B`, where it is so -/
theorem suite_ir {X : Cx} {i : Nat} {n cn : Str} {C : Addr} {m : Int} {txt : Str} {v : D} {f1 f2 : FE} {e1 e2 : Expr} {q1 q2 q3 q4 q5 r1 r2 r3 r4 t1 t2 t3 t4 p1 p2 : Pos} {j : Nat} (T : ErrC X.K C) (TX : XfC X.K C) (hno : PySem.W.findIn X.K (.ref C) "value" = some none)
    (hkit : PySem.W.kitOne X.K (.ref C) (.ref C) = some true) (hm1 : X.mg "isinstance" = none) (hm2 : X.mg "repr" = none) (hmc : X.mg cn = some (.ref C)) (hN : X.N[i]? = some n) (hv : Vis X.env.scope n) (hd1 : (n == ("__debug__" : Str)) = false) (hd2 : (n == ("__classdict__" : Str)) = false) (hd3 : (cn == ("__debug__" : Str)) = false)
    (gl1 : Gl X "isinstance") (gl2 : Gl X "repr") (gl3 : Gl X cn) (hgd : X.A.guards = some []) (hun : X.A.units + 200 < cLine) (hr : gRepr [.int m] = some (.str txt))
    (hE1 : ∀ (a : Addr) (pn : List (Addr × Obj)), GE (X.suite a pn) e1 f1) (hE2 : ∀ (a : Addr) (pn : List (Addr × Obj)), GE (X.suite a pn) e2 f2) (hv1 : ∀ ρ, f1 ρ = some (v, ρ))
    (h1 : starEach [Expr.Name n q2, .Name cn q3] X.env = (false, eval (.Name n q2) X.env) :: starEach [Expr.Name cn q3] X.env) (h2 : starEach [Expr.Name cn q3] X.env = (false, eval (.Name cn q3) X.env) :: starEach [] X.env) (h3 : starEach [Expr.Name n q2, .Name cn q3] X.env = [(false, eval (.Name n q2) X.env), (false, eval (.Name cn q3) X.env)] := by rfl) :
    SuiteOk X i [.Return (some (.IfExp (.BoolOp .And [.Call (.Name "isinstance" q1) [.Name n q2, .Name cn q3] [] q4, .Compare (.Call (.Name "repr" r1) [.Attribute (.Name n r2) "value" r3] [] r4) [.Eq] [.Call (.Name "repr" t1) [.Constant (.int m) j t2] [] t3] t4] q5) e1 e2 p1)) p2] (C, .int m) v := by
  intro a oe dd pn hz hf
  have isi := call_isD (X := X) (a := a) (pn := pn) T hz hf
  have pv1 : PE (X.suite a ((a, oe) :: pn)) (.Name n q2) (tVar i) := pe_var hN hv hd1 hd2
  have pv2 : PE (X.suite a ((a, oe) :: pn)) (.Name n r2) (tVar i) := pe_var hN hv hd1 hd2
  have pc : PE (X.suite a ((a, oe) :: pn)) (.Name cn q3) (tC (.ref C)) := pe_glob (X := X.suite a ((a, oe) :: pn)) gl3 hmc rfl hd3
  have P1 : PE (X.suite a ((a, oe) :: pn)) (.Call (.Name "isinstance" q1) [.Name n q2, .Name cn q3] [] q4) (tCB (rIsD X.K C a dd) (tCons (tVar i) (tCons (tC (.ref C)) tNil))) :=
    pe_callB (X := X.suite a ((a, oe) :: pn)) isi gl1 hm1 (by decide +kernel) (pa_cons pv1 (pa_cons pc pa_nil h2) h1)
  have P2 := pe_xf (a := a) (oe := oe) (pn := pn) (pos := r3) TX hno hz hf pv2
  have hgd' : (X.suite a ((a, oe) :: pn)).A.guards = some [] := hgd
  have hun' : (X.suite a ((a, oe) :: pn)).A.units + 200 < cLine := hun
  have P3 : PE (X.suite a ((a, oe) :: pn)) (.Call (.Name "repr" r1) [.Attribute (.Name n r2) "value" r3] [] r4) _ := pe_callB (X := X.suite a ((a, oe) :: pn)) (cr_reprM hgd' hun') gl2 hm2 (by decide +kernel) (pa_cons P2 pa_nil)
  obtain ⟨tr, P4, G4⟩ := ge_callB (X := X.suite a ((a, oe) :: pn)) (p := t1) (pos := t3) (cr_reprM hgd' hun') cg_repr (ga_cons (ge_int (i := m) (j := j) (pos := t2)) ga_nil) hm2 gl2 (by decide +kernel)
  obtain ⟨te1, P5, G5⟩ := hE1 a ((a, oe) :: pn)
  obtain ⟨te2, P6, G6⟩ := hE2 a ((a, oe) :: pn)
  refine ⟨_, pss_cons (ps_ret (pe_ifExp (PW.pt (pw_and (pt_val P1) (pw_and1 (pt_cmpR (op_eqDG (by omega)) P3 P4 (nomark _))))) P5 P6)) pss_nil, fun pa w σ u R hσ hd ru D q => ?_⟩
  refine ⟨.ref a, hσ, .ref C, .ref C, true, _, rfl, hd, (fun _ h => h), hkit, true, rfl, ?_⟩
  dsimp only
  rw [if_pos rfl]
  refine ⟨.ref a, hσ, rfl, rfl, dd, _, u, rfl, hd, (by simp [List.lookup]), ?_⟩
  dsimp only [tNil]
  refine cg_repr w.F w.H [u] [.int m] (.str txt) R.ex (.cons ru .nil) hr _ fun F' H' y gr rp => ?_
  obtain ⟨R3, s3⟩ := R.grow gr
  show tr σ H' _
  refine G4 pa ⟨F', H', w.al, w.ρ⟩ σ (.str txt) w.ρ R3 (by simp only [FCall, ACons, ANil, FC, bnd_some, hr, lft_some]) _ fun w3 v3 R4 p4 s4 r4 => ?_
  show rEqDG X.K y v3 w3.H _
  refine opg_eq w3.F w3.H y v3 (.str txt) (.str txt) (.bl true) R4.ex (rp.mono s4.ex) r4 (by rw [gEq_str, decide_eq_true rfl]) _ fun F5 H5 z gr5 rp5 => ?_
  cases rp5
  refine ⟨true, rfl, ?_⟩
  rw [if_pos rfl]
  obtain ⟨R6, s6⟩ := R4.grow gr5
  show te1 σ H5 _
  exact G5 pa ⟨F5, H5, w3.al, w3.ρ⟩ σ v _ R6 (hv1 _) _ fun w7 y7 R7 p7 s7 r7 => q w7 y7 R7 (p7.trans p4) (s3.trans (s4.trans (s6.trans s7))) r7
end Dn
end
section
set_option maxHeartbeats 1000000
/-! Going through a body statement by statement. -/
namespace Dn
open PySem PySem.Spec PyProof.Rows L2
/-- the body ends so -/
def Wp (b : FS) (ρ : List Sl) (Q : Ou → List Sl → Prop) : Prop := ∃ o ρ', b ρ = some (o, ρ') ∧ Q o ρ'
theorem Wp.of {b : FS} {ρ ρ' : List Sl} {o : Ou} {Q : Ou → List Sl → Prop} (h : b ρ = some (o, ρ')) (q : Q o ρ') : Wp b ρ Q := ⟨o, ρ', h, q⟩
theorem Wp.mono {b : FS} {ρ : List Sl} {Q Q' : Ou → List Sl → Prop} (h : Wp b ρ Q) (q : ∀ o ρ', Q o ρ' → Q' o ρ') : Wp b ρ Q' := by
  obtain ⟨o, ρ', h1, h2⟩ := h
  exact ⟨o, ρ', h1, q _ _ h2⟩
theorem wp_seq {f g : FS} {ρ ρ1 : List Sl} {Q : Ou → List Sl → Prop} (h : f ρ = some (.nx, ρ1)) (k : Wp g ρ1 Q) : Wp (SSeq f g) ρ Q := by
  obtain ⟨o, ρ', h1, h2⟩ := k
  exact ⟨o, ρ', SSeq_nx h h1, h2⟩
theorem wp_seqW {f g : FS} {ρ : List Sl} {Q : Ou → List Sl → Prop} (h : Wp f ρ fun o ρ1 => o = .nx ∧ Wp g ρ1 Q) : Wp (SSeq f g) ρ Q := by
  obtain ⟨o, ρ1, h1, rfl, h2⟩ := h
  exact wp_seq h1 h2
/-- one branch that returns -/
theorem wp_seq_ret {f g : FS} {ρ ρ1 : List Sl} {Q : Ou → List Sl → Prop} {d : D} (h : f ρ = some (.ret d, ρ1)) (q : Q (.ret d) ρ1) : Wp (SSeq f g) ρ Q := by
  refine ⟨.ret d, ρ1, ?_, q⟩
  unfold SSeq
  rw [h]
  rfl
theorem wp_if {c : FB} {f g : FS} {ρ ρ1 : List Sl} {b : Bool} {Q : Ou → List Sl → Prop} (h : c ρ = some (b, ρ1)) (t : b = true → Wp f ρ1 Q) (e : b = false → Wp g ρ1 Q) : Wp (SIf c f g) ρ Q := by
  cases b with
  | true =>
    obtain ⟨o, ρ', h1, h2⟩ := t rfl
    refine ⟨o, ρ', ?_, h2⟩
    unfold SIf
    rw [h, bnd_some, if_pos rfl, h1]
  | false =>
    obtain ⟨o, ρ', h1, h2⟩ := e rfl
    refine ⟨o, ρ', ?_, h2⟩
    unfold SIf
    rw [h, bnd_some, if_neg Bool.false_ne_true, h1]
theorem wp_nx {ρ : List Sl} {Q : Ou → List Sl → Prop} (q : Q .nx ρ) : Wp SNx ρ Q := ⟨_, _, rfl, q⟩
theorem wp_ret {f : FE} {ρ ρ1 : List Sl} {d : D} {Q : Ou → List Sl → Prop} (h : f ρ = some (d, ρ1)) (q : Q (.ret d) ρ1) : Wp (SRet f) ρ Q := by
  refine ⟨_, _, ?_, q⟩
  unfold SRet
  rw [h, bnd_some]
/-- a loop: what holds ahead of each turn -/
theorem wp_for {α : Type} {it : FA} {g : FT} {body rest : FS} {ρ ρ1 : List Sl} {Q : Ou → List Sl → Prop} (e : α → D) (I : Nat → List Sl → Prop) (xs : List α) (hi : it ρ = some (xs.map e, ρ1)) (h0 : I 0 ρ1)
    (hs : ∀ (i : Nat) (x : α) (ρ : List Sl), xs[i]? = some x → I i ρ → ∃ ρ2, g (e x) ρ = some ρ2 ∧ Wp body ρ2 fun o ρ3 => (o = .nx ∨ o = .ct) ∧ I (i + 1) ρ3) (k : ∀ ρ', I xs.length ρ' → Wp rest ρ' Q) : Wp (SSeq (SFor it g body) rest) ρ Q := by
  have key : ∀ (ys : List α) (j : Nat) (ρ : List Sl), (∀ i, ys[i]? = xs[j + i]?) → I j ρ → ∃ ρ', SLoop g body (ys.map e) ρ = some (.nx, ρ') ∧ I (j + ys.length) ρ' := by
    intro ys
    induction ys with
    | nil => exact fun j ρ _ h => ⟨ρ, rfl, h⟩
    | cons y ys ih =>
      intro j ρ hy h
      obtain ⟨ρ2, g1, o, ρ3, b1, b2, b3⟩ := hs j y ρ (by have := hy 0; simpa using this.symm) h
      obtain ⟨ρ', l1, l2⟩ := ih (j + 1) ρ3 (fun i => by have := hy (i + 1); rw [List.getElem?_cons_succ] at this; rw [this]; congr 1; omega) b3
      refine ⟨ρ', ?_, ?_⟩
      · rw [List.map_cons]
        unfold SLoop
        rw [g1]
        dsimp only
        rw [b1]
        rcases b2 with rfl | rfl <;> exact l1
      · rw [List.length_cons, show j + (ys.length + 1) = j + 1 + ys.length from by omega]
        exact l2
  obtain ⟨ρ', l1, l2⟩ := key xs 0 ρ1 (fun i => by rw [Nat.zero_add]) h0
  rw [Nat.zero_add] at l2
  exact wp_seq (SFor_eq hi l1) (k ρ' l2)
/-- a loop over the numbers below N: what holds ahead of each turn -/
theorem for_rng {it : FA} {g : FT} {body : FS} {ρ ρ1 : List Sl} (N : Nat) (e : Nat → D) (I : Nat → List Sl → Prop) (hi : it ρ = some ((List.range N).map e, ρ1)) (h0 : I 0 ρ1)
    (hs : ∀ (i : Nat) (ρ : List Sl), i < N → I i ρ → ∃ ρ2 ρ3, g (e i) ρ = some ρ2 ∧ body ρ2 = some (.nx, ρ3) ∧ I (i + 1) ρ3) : ∃ ρ', SFor it g body ρ = some (.nx, ρ') ∧ I N ρ' := by
  have key : ∀ (m j : Nat) (ρ : List Sl), j + m = N → I j ρ → ∃ ρ', SLoop g body (((List.range m).map fun i => j + i).map e) ρ = some (.nx, ρ') ∧ I N ρ' := by
    intro m
    induction m with
    | zero => exact fun j ρ hj h => ⟨ρ, rfl, by rw [← hj]; exact h⟩
    | succ m ih =>
      intro j ρ hj h
      obtain ⟨ρ2, ρ3, g1, b1, b3⟩ := hs j ρ (by omega) h
      obtain ⟨ρ', l1, l2⟩ := ih (j + 1) ρ3 (by omega) b3
      refine ⟨ρ', ?_, l2⟩
      have hh : ((List.range m).map Nat.succ).map (fun i => j + i) = (List.range m).map fun i => j + 1 + i := by
        rw [List.map_map]
        exact List.map_congr_left fun i _ => by
          show j + (i + 1) = j + 1 + i
          omega
      rw [List.range_succ_eq_map, List.map_cons, List.map_cons, hh]
      unfold SLoop
      rw [show e (j + 0) = e j from rfl, g1]
      dsimp only
      rw [b1]
      exact l1
  obtain ⟨ρ', l1, l2⟩ := key N 0 ρ1 (by omega) h0
  refine ⟨ρ', ?_, l2⟩
  unfold SFor
  rw [hi, bnd_some]
  have : ((List.range N).map fun i => 0 + i) = List.range N := by
    have : (fun i : Nat => 0 + i) = id := by
      funext i
      exact Nat.zero_add i
    rw [this, List.map_id]
  rw [this] at l1
  exact l1
/-- a comprehension over the numbers below N whose state stays -/
theorem comp_rng {vs : List Nat} {it : FA} {g : FT} {elt : FE} {ρ ρ1 : List Sl} (N : Nat) (e h : Nat → D) (hi : it ρ = some ((List.range N).map e, ρ1)) (hN : N ≤ 16777216)
    (hs : ∀ i, i < N → ∃ ρ2 ρ3, g (e i) (wipeS ρ1 vs) = some ρ2 ∧ elt ρ2 = some (h i, ρ3) ∧ wipeS ρ3 vs = wipeS ρ1 vs) : LComp vs it g BYes elt ρ = some ((List.range N).map h, backS ρ1 (wipeS ρ1 vs) vs) :=
  LComp_eq hi (by rw [List.length_map, List.length_range]; exact hN) (CLoop_map e h _ _ fun i hi => by
    obtain ⟨ρ2, ρ3, h1, h2, h3⟩ := hs i (List.mem_range.mp hi)
    exact ⟨ρ2, ρ2, ρ3, h1, rfl, h2, h3⟩)
theorem comp_fil {vs : List Nat} {it : FA} {g : FT} {c : FB} {elt : FE} {ρ ρ1 : List Sl} (N : Nat) (e h : Nat → D) (b : Nat → Bool) (hi : it ρ = some ((List.range N).map e, ρ1)) (hN : N ≤ 16777216)
    (hs : ∀ i, i < N → ∃ ρ2 ρ3 ρ4, g (e i) (wipeS ρ1 vs) = some ρ2 ∧ c ρ2 = some (b i, ρ3) ∧ wipeS ρ3 vs = wipeS ρ1 vs ∧ elt ρ3 = some (h i, ρ4) ∧ wipeS ρ4 vs = wipeS ρ1 vs) : LComp vs it g c elt ρ = some (((List.range N).filter b).map h, backS ρ1 (wipeS ρ1 vs) vs) :=
  LComp_eq hi (by rw [List.length_map, List.length_range]; exact hN) (CLoop_filter e h b _ _ fun i hi => by
    obtain ⟨ρ2, ρ3, ρ4, h1, h2, h3, h4, h5⟩ := hs i (List.mem_range.mp hi)
    exact ⟨ρ2, ρ3, h1, h2, fun _ => h3, fun _ => ⟨ρ4, h4, h5⟩⟩)
/-- a def that returns a datum -/
theorem wp_def {m n : Nat} {body : FS} {ρ ρ0 : List Sl} {d : D} {P : List Sl → Prop} (hl : ρ.length = m) (h0 : ρ ++ List.replicate (n - m) .un = ρ0) (h : Wp body ρ0 fun o ρe => o = .ret d ∧ ∃ l, outs 0 ρ ρe = some l ∧ P l) : ∃ l, fDef m n body ρ = some (.d d, l) ∧ P l := by
  obtain ⟨o, ρe, h1, rfl, l, h2, h3⟩ := h
  exact ⟨l, fDef_ret hl h0 h1 h2, h3⟩
theorem wp_defX {m n : Nat} {body : FS} {ρ ρ0 : List Sl} {P : D → List Sl → Prop} (hl : ρ.length = m) (h0 : ρ ++ List.replicate (n - m) .un = ρ0) (h : Wp body ρ0 fun o ρe => ∃ d l, o = .ret d ∧ outs 0 ρ ρe = some l ∧ P d l) : ∃ d l, fDef m n body ρ = some (.d d, l) ∧ P d l := by
  obtain ⟨o, ρe, h1, d, l, rfl, h2, h3⟩ := h
  exact ⟨d, l, fDef_ret hl h0 h1 h2, h3⟩
theorem fDef_nx {m n : Nat} {body : FS} {ρ ρ0 ρe l : List Sl} (hl : ρ.length = m) (h0 : ρ ++ List.replicate (n - m) .un = ρ0) (hb : body ρ0 = some (.nx, ρe)) (ho : outs 0 ρ ρe = some l) : fDef m n body ρ = some (.d .non, l) := by
  unfold fDef
  rw [if_pos hl, h0, hb]
  show (outs 0 ρ ρe).map _ = _
  rw [ho]
  rfl
theorem fDef_rto {m n : Nat} {body : FS} {ρ ρ0 ρe l : List Sl} {ds : List D} (hl : ρ.length = m) (h0 : ρ ++ List.replicate (n - m) .un = ρ0) (hb : body ρ0 = some (.rto ds, ρe)) (ho : outs 0 ρ ρe = some l) : fDef m n body ρ = some (.l ds, l) := by
  unfold fDef
  rw [if_pos hl, h0, hb]
  show (outs 0 ρ ρe).map _ = _
  rw [ho]
  rfl
theorem SSeq_ret {f g : FS} {ρ ρ1 : List Sl} {d : D} (h : f ρ = some (.ret d, ρ1)) : SSeq f g ρ = some (.ret d, ρ1) := by
  unfold SSeq
  rw [h]
  rfl
/-- a def that falls off its end -/
theorem wp_defN {m n : Nat} {body : FS} {ρ ρ0 : List Sl} {P : List Sl → Prop} (hl : ρ.length = m) (h0 : ρ ++ List.replicate (n - m) .un = ρ0) (h : Wp body ρ0 fun o ρe => o = .nx ∧ ∃ l, outs 0 ρ ρe = some l ∧ P l) : ∃ l, fDef m n body ρ = some (.d .non, l) ∧ P l := by
  obtain ⟨o, ρe, h1, rfl, l, h2, h3⟩ := h
  refine ⟨l, ?_, h3⟩
  unfold fDef
  rw [if_pos hl, h0, h1]
  show (outs 0 ρ ρe).map _ = _
  rw [h2]
  rfl
end Dn
end
section
set_option maxHeartbeats 4000000
/-! bits; min and max of one list or tuple of data. -/
namespace Dn
open PySem PySem.Spec PySem.W PyProof.Rows L2
instance (i j : Int) : Decidable (CPow i j) := by unfold CPow; infer_instance
def gAnd : D → D → Option D := onII fun i j => some (.int (Builtin.bitAnd i j))
def gXor : D → D → Option D := onII fun i j => some (.int (Builtin.bitXor i j))
def gShl : D → D → Option D := onII fun i j => if CPow i j then some (.int (i * 2 ^ j.toNat)) else none
def gShr : D → D → Option D := onII fun i j => if 0 ≤ j then some (.int (i / 2 ^ j.toNat)) else none
section
variable {K : PySem.W.Frag}
theorem opg_and : OpG K (rI0 fun i j => .int (Builtin.bitAnd i j)) gAnd := opg_I0 fun _ _ _ => .int _
theorem opg_xor : OpG K (rI0 fun i j => .int (Builtin.bitXor i j)) gXor := opg_I0 fun _ _ _ => .int _
theorem opg_shl : OpG K (rI CPow fun i j => .int (i * 2 ^ j.toNat)) gShl := opg_I (C := CPow) fun _ _ _ => .int _
theorem opg_shr : OpG K (rI (fun _ j => 0 ≤ j) fun i j => .int (i / 2 ^ j.toNat)) gShr := opg_I (C := fun _ j => 0 ≤ j) fun _ _ _ => .int _
end
/-! ### min, max -/
section
variable {X : Cx}
def rMinD (K : PySem.W.Frag) : List V → Hp → VK → Prop := fun vs H Q => ∃ (a : Addr) (t : Bool) (xs : List V) (y : PyData) (ys : List PyData), vs = [V.ref a] ∧ KS t K H a xs ∧ DpAll K H xs (y :: ys) ∧ AlikeAll (y :: ys) ∧ PyData.depthAll (y :: ys) ≤ 60 ∧
  ∀ (i : Nat) (v : V), xs[i]? = some v → (y :: ys)[i]? = some (minD y ys) → Q v H
def rMaxD (K : PySem.W.Frag) : List V → Hp → VK → Prop := fun vs H Q => ∃ (a : Addr) (t : Bool) (xs : List V) (y : PyData) (ys : List PyData), vs = [V.ref a] ∧ KS t K H a xs ∧ DpAll K H xs (y :: ys) ∧ AlikeAll (y :: ys) ∧ PyData.depthAll (y :: ys) ≤ 60 ∧
  ∀ (i : Nat) (v : V), xs[i]? = some v → (y :: ys)[i]? = some (maxD y ys) → Q v H
theorem item_back {pins : List (Addr × Obj)} {σ : L2.St} {H : Hp} {s : Shared} {its : List Value} {xs : List V} {ds : List PyData} {as bs : List Addr} {i : Nat} {v : Value} {d : PyData} {h' : Heap} (rv : Vals xs its) (ra : ReadsAll s.heap its ds as)
    (hv : its.toArray[i]? = some v) (hr : Reads h' v d bs) (hk : ∀ b o, s.heap.get? b = some o → h'.get? b = some o) : ∃ x, xs[i]? = some x ∧ RelV x v ∧ ds[i]? = some d := by
  have hv2 : its[i]? = some v := by simpa using hv
  obtain ⟨x, h1, h2⟩ := vals_back rv hv2
  obtain ⟨cs, r, hi, _, _⟩ := readsAll_at ra i v hv2
  have e := (reads_det (fun b o e _ => hk b o e) r hr).1
  refine ⟨x, h1, h2, ?_⟩
  rw [e, List.getElem?_eq_getElem hi, List.getD_eq_getElem?_getD, List.getElem?_eq_getElem hi]
  rfl
theorem cr_minD {k : Nat} (rm : Rm X.A k) (hc : X.calm = true) : CallR X (.builtin "min") (rMinD X.K) := by
  intro pins s σ H vs us Q I r h
  obtain ⟨a, t, xs, y, ys, rfl, hs, dp, ha, hd, q⟩ := h
  obtain ⟨its, rv, p⟩ := hs.inv I
  rw [Vals.ref1 r]
  obtain ⟨as, ra⟩ := Dp.readsAll I _ _ _ dp rv
  have hu := rm.room.un
  have ra' : ReadsAll s.heap its.toArray.toList (y :: ys) as := ra
  have fin : ∀ (i : Nat) (v : Value) (h' : Heap) (tk : Nat) (bs : List Addr), its.toArray[i]? = some v → Reads h' v (minD y ys) bs → (∀ b o, s.heap.get? b = some o → h'.get? b = some o) → EP X pins σ Q v { s with heap := h', toks := tk } := fun i v h' tk bs hv hr hk => by
    obtain ⟨x, h1, h2, h3⟩ := item_back (pins := pins) (σ := σ) (H := H) (s := s) rv ra hv hr hk
    exact ⟨x, H, I.kept hk, h2, q i x h1 h3⟩
  cases t with
  | false => exact min_list_data (I.ok.hd hc) p ra' ha (by omega) fin
  | true => exact min_tuple_data (I.ok.hd hc) p ra' ha (by omega) fin
theorem cr_maxD {k : Nat} (rm : Rm X.A k) (hc : X.calm = true) : CallR X (.builtin "max") (rMaxD X.K) := by
  intro pins s σ H vs us Q I r h
  obtain ⟨a, t, xs, y, ys, rfl, hs, dp, ha, hd, q⟩ := h
  obtain ⟨its, rv, p⟩ := hs.inv I
  rw [Vals.ref1 r]
  obtain ⟨as, ra⟩ := Dp.readsAll I _ _ _ dp rv
  have hu := rm.room.un
  have ra' : ReadsAll s.heap its.toArray.toList (y :: ys) as := ra
  have fin : ∀ (i : Nat) (v : Value) (h' : Heap) (tk : Nat) (bs : List Addr), its.toArray[i]? = some v → Reads h' v (maxD y ys) bs → (∀ b o, s.heap.get? b = some o → h'.get? b = some o) → EP X pins σ Q v { s with heap := h', toks := tk } := fun i v h' tk bs hv hr hk => by
    obtain ⟨x, h1, h2, h3⟩ := item_back (pins := pins) (σ := σ) (H := H) (s := s) rv ra hv hr hk
    exact ⟨x, H, I.kept hk, h2, q i x h1 h3⟩
  cases t with
  | false => exact max_list_data (I.ok.hd hc) p ra' ha (by omega) fin
  | true => exact max_tuple_data (I.ok.hd hc) p ra' ha (by omega) fin
end
mutual
/-- data that are what they read as -/
def sameD : D → D → Bool
  | .non, .non => true
  | .bl a, .bl b => a == b
  | .int a, .int b => decide (a = b)
  | .str a, .str b => decide (a = b)
  | .lst xs, .lst ys => sameDs xs ys
  | .tup xs, .tup ys => sameDs xs ys
  | _, _ => false
def sameDs : List D → List D → Bool
  | [], [] => true
  | x :: xs, y :: ys => sameD x y && sameDs xs ys
  | _, _ => false
end
/-- no list of the module, no type -/
def isF : D → Bool
  | .frl _ | .ty _ => false
  | _ => true
mutual
def pureD : D → Bool
  | .non | .bl _ | .int _ | .str _ => true
  | .lst xs | .tup xs => pureDs xs
  | .frl _ | .ty _ => false
def pureDs : List D → Bool
  | [] => true
  | x :: xs => pureD x && pureDs xs
end
mutual
theorem toPD_inj : ∀ (d e : D), pureD d = true → pureD e = true → toPD d = toPD e → d = e
  | .non, e, _, h, q => by cases e <;> first | rfl | (cases h; done) | (simp [toPD] at q)
  | .bl b, e, _, h, q => by cases e <;> first | (cases h; done) | (simp [toPD] at q; try subst q; try rfl)
  | .int b, e, _, h, q => by cases e <;> first | (cases h; done) | (simp [toPD] at q; try subst q; try rfl)
  | .str b, e, _, h, q => by cases e <;> first | (cases h; done) | (simp [toPD] at q; try subst q; try rfl)
  | .lst xs, e, p, h, q => by
    cases e with
    | lst ys =>
      simp only [toPD, PyData.list.injEq] at q
      rw [toPDs_inj xs ys p h q]
    | frl _ => cases h
    | ty _ => cases h
    | _ => simp [toPD] at q
  | .tup xs, e, p, h, q => by
    cases e with
    | tup ys =>
      simp only [toPD, PyData.tuple.injEq] at q
      rw [toPDs_inj xs ys p h q]
    | frl _ => cases h
    | ty _ => cases h
    | _ => simp [toPD] at q
  | .frl _, _, p, _, _ => by cases p
  | .ty _, _, p, _, _ => by cases p
theorem toPDs_inj : ∀ (ds es : List D), pureDs ds = true → pureDs es = true → toPDs ds = toPDs es → ds = es
  | [], [], _, _, _ => rfl
  | [], _ :: _, _, _, q => by simp [toPDs] at q
  | _ :: _, [], _, _, q => by simp [toPDs] at q
  | x :: xs, y :: ys, p, h, q => by
    unfold pureDs at p h
    rw [Bool.and_eq_true] at p h
    simp only [toPDs, List.cons.injEq] at q
    rw [toPD_inj x y p.1 h.1 q.1, toPDs_inj xs ys p.2 h.2 q.2]
end
mutual
theorem pureD_ok : ∀ d : D, pureD d = true → pdOk d = true
  | .non, _ | .bl _, _ | .int _, _ | .str _, _ => rfl
  | .lst xs, h => pureDs_ok xs h
  | .tup xs, h => pureDs_ok xs h
  | .frl _, h => by cases h
  | .ty _, h => by cases h
theorem pureDs_ok : ∀ ds : List D, pureDs ds = true → pdOks ds = true
  | [], _ => rfl
  | x :: xs, h => by
    unfold pureDs at h
    rw [Bool.and_eq_true] at h
    unfold pdOks
    rw [pureD_ok x h.1, pureDs_ok xs h.2]
    rfl
end
theorem pureDs_mem : ∀ {ds : List D} {d : D}, pureDs ds = true → d ∈ ds → pureD d = true
  | x :: xs, d, h, m => by
    unfold pureDs at h
    rw [Bool.and_eq_true] at h
    rcases List.mem_cons.mp m with rfl | m
    · exact h.1
    · exact pureDs_mem h.2 m
theorem toPDs_map : ∀ ds : List D, toPDs ds = ds.map toPD
  | [] => rfl
  | d :: ds => by
    show toPD d :: toPDs ds = _
    rw [toPDs_map ds]
    rfl
def minDD (y : D) (ys : List D) : D := ys.foldl (fun a z => if dataLt (toPD z) (toPD a) then z else a) y
def maxDD (y : D) (ys : List D) : D := ys.foldl (fun a z => if dataLt (toPD a) (toPD z) then z else a) y
theorem minDD_pd : ∀ (ys : List D) (y : D), toPD (minDD y ys) = minD (toPD y) (toPDs ys)
  | [], _ => rfl
  | z :: zs, y => by
    show toPD (minDD (if dataLt (toPD z) (toPD y) then z else y) zs) = minD (if dataLt (toPD z) (toPD y) then toPD z else toPD y) (toPDs zs)
    rw [minDD_pd zs]
    split <;> rfl
theorem maxDD_pd : ∀ (ys : List D) (y : D), toPD (maxDD y ys) = maxD (toPD y) (toPDs ys)
  | [], _ => rfl
  | z :: zs, y => by
    show toPD (maxDD (if dataLt (toPD y) (toPD z) then z else y) zs) = maxD (if dataLt (toPD y) (toPD z) then toPD z else toPD y) (toPDs zs)
    rw [maxDD_pd zs]
    split <;> rfl
theorem minDD_mem : ∀ (ys : List D) (y : D), minDD y ys ∈ y :: ys
  | [], y => by simp [minDD]
  | z :: zs, y => by
    have h := minDD_mem zs (if dataLt (toPD z) (toPD y) then z else y)
    show minDD (if dataLt (toPD z) (toPD y) then z else y) zs ∈ _
    rcases List.mem_cons.mp h with q | q
    · rw [q]
      split <;> simp
    · exact List.mem_cons_of_mem _ (List.mem_cons_of_mem _ q)
theorem maxDD_mem : ∀ (ys : List D) (y : D), maxDD y ys ∈ y :: ys
  | [], y => by simp [maxDD]
  | z :: zs, y => by
    have h := maxDD_mem zs (if dataLt (toPD y) (toPD z) then z else y)
    show maxDD (if dataLt (toPD y) (toPD z) then z else y) zs ∈ _
    rcases List.mem_cons.mp h with q | q
    · rw [q]
      split <;> simp
    · exact List.mem_cons_of_mem _ (List.mem_cons_of_mem _ q)
/-- what can be compared one with another -/
def alikeB (ds : List D) : Bool := ds.all (fun d => ds.all fun e => alike (toPD d) (toPD e)) && ds.all fun d => !(match d with | .non => true | _ => false)
def minOk (ds : List D) : Bool := pureDs ds && alikeB ds && decide (PyData.depthAll (toPDs ds) ≤ 60)
def gMinL : List D → Option D
  | [.lst (y :: ys)] => if minOk (y :: ys) = true then some (minDD y ys) else none
  | [.tup (y :: ys)] => if minOk (y :: ys) = true then some (minDD y ys) else none
  | _ => none
def gMaxL : List D → Option D
  | [.lst (y :: ys)] => if minOk (y :: ys) = true then some (maxDD y ys) else none
  | [.tup (y :: ys)] => if minOk (y :: ys) = true then some (maxDD y ys) else none
  | _ => none
theorem minOk_all {ds : List D} (h : minOk ds = true) : pureDs ds = true ∧ AlikeAll (toPDs ds) ∧ PyData.depthAll (toPDs ds) ≤ 60 := by
  unfold minOk alikeB at h
  simp only [Bool.and_eq_true, List.all_eq_true, decide_eq_true_eq] at h
  obtain ⟨⟨h1, h2, h3⟩, h4⟩ := h
  refine ⟨h1, ⟨fun x hx y hy => ?_, fun x hx e => ?_⟩, h4⟩
  · rw [toPDs_map] at hx hy
    obtain ⟨d, hd, rfl⟩ := List.mem_map.mp hx
    obtain ⟨e, he, rfl⟩ := List.mem_map.mp hy
    exact h2 d hd e he
  · rw [toPDs_map] at hx
    obtain ⟨d, hd, rfl⟩ := List.mem_map.mp hx
    have p := pureDs_mem h1 hd
    have q := h3 d hd
    cases d with
    | non => cases q
    | ty _ => cases p
    | _ => simp [toPD] at e
section
variable {K : PySem.W.Frag}
theorem pick {F H : Hp} {xs : List V} {ds : List D} {d : D} {i : Nat} {v : V} {p : PyData} (r : RpA K F xs ds) (pr : pureDs ds = true) (hm : d ∈ ds) (hp : toPD d = p) (h1 : xs[i]? = some v) (h2 : (toPDs ds)[i]? = some p) : Rp K F v d := by
  obtain ⟨e, h3, h4⟩ := r.getV h1
  rw [toPDs_map, List.getElem?_map, h3] at h2
  have q : toPD e = p := Option.some.inj h2
  have := toPD_inj e d (pureDs_mem pr (List.mem_of_getElem? h3)) (pureDs_mem pr hm) (q.trans hp.symm)
  rw [← this]
  exact h4
theorem cg_minL : CallG K (rMinD K) gMinL := fun F H xs ds z eF r hz Q k => by
  unfold gMinL at hz
  split at hz
  case h_3 => cases hz
  case h_1 =>
    rename_i y ys
    split at hz
    case isFalse => cases hz
    rename_i hc
    obtain ⟨pr, al, hd⟩ := minOk_all hc
    have e := Option.some.inj hz
    subst e
    cases r with
    | cons r rr =>
      cases rr
      cases r with
      | @lst a us _ hs ra =>
        exact ⟨a, false, us, toPD y, toPDs ys, rfl, .inl (.inl (eF _ _ hs)), RpA.dp eF _ _ ra (pureDs_ok _ pr), al, hd, fun i v h1 h2 => k F H _ (Grow.refl eF) (pick (H := H) ra pr (minDD_mem ys y) (minDD_pd ys y) h1 h2)⟩
  case h_2 =>
    rename_i y ys
    split at hz
    case isFalse => cases hz
    rename_i hc
    obtain ⟨pr, al, hd⟩ := minOk_all hc
    have e := Option.some.inj hz
    subst e
    cases r with
    | cons r rr =>
      cases rr
      cases r with
      | @tup a us _ hs ra =>
        exact ⟨a, true, us, toPD y, toPDs ys, rfl, eF.t hs, RpA.dp eF _ _ ra (pureDs_ok _ pr), al, hd, fun i v h1 h2 => k F H _ (Grow.refl eF) (pick (H := H) ra pr (minDD_mem ys y) (minDD_pd ys y) h1 h2)⟩
theorem cg_maxL : CallG K (rMaxD K) gMaxL := fun F H xs ds z eF r hz Q k => by
  unfold gMaxL at hz
  split at hz
  case h_3 => cases hz
  case h_1 =>
    rename_i y ys
    split at hz
    case isFalse => cases hz
    rename_i hc
    obtain ⟨pr, al, hd⟩ := minOk_all hc
    have e := Option.some.inj hz
    subst e
    cases r with
    | cons r rr =>
      cases rr
      cases r with
      | @lst a us _ hs ra =>
        exact ⟨a, false, us, toPD y, toPDs ys, rfl, .inl (.inl (eF _ _ hs)), RpA.dp eF _ _ ra (pureDs_ok _ pr), al, hd, fun i v h1 h2 => k F H _ (Grow.refl eF) (pick (H := H) ra pr (maxDD_mem ys y) (maxDD_pd ys y) h1 h2)⟩
  case h_2 =>
    rename_i y ys
    split at hz
    case isFalse => cases hz
    rename_i hc
    obtain ⟨pr, al, hd⟩ := minOk_all hc
    have e := Option.some.inj hz
    subst e
    cases r with
    | cons r rr =>
      cases rr
      cases r with
      | @tup a us _ hs ra =>
        exact ⟨a, true, us, toPD y, toPDs ys, rfl, eF.t hs, RpA.dp eF _ _ ra (pureDs_ok _ pr), al, hd, fun i v h1 h2 => k F H _ (Grow.refl eF) (pick (H := H) ra pr (maxDD_mem ys y) (maxDD_pd ys y) h1 h2)⟩
end
/-! of whole numbers -/
theorem toPDs_ints (ns : List Int) : toPDs (ns.map D.int) = ns.map PyData.int := by
  rw [toPDs_map, List.map_map]
  rfl
theorem pureDs_ints : ∀ ns : List Int, pureDs (ns.map D.int) = true
  | [] => rfl
  | _ :: ns => pureDs_ints ns
theorem depth_ints : ∀ ns : List Int, PyData.depthAll (ns.map PyData.int) ≤ 1
  | [] => by simp [PyData.depthAll]
  | n :: ns => by
    have := depth_ints ns
    simp [PyData.depthAll, PyData.depth]
    omega
theorem minOk_ints (ns : List Int) : minOk (ns.map D.int) = true := by
  unfold minOk alikeB
  rw [pureDs_ints, toPDs_ints]
  have := depth_ints ns
  simp only [Bool.and_eq_true, List.all_eq_true, decide_eq_true_eq, Bool.true_and]
  refine ⟨⟨fun d hd e he => ?_, fun d hd => ?_⟩, by omega⟩
  · obtain ⟨a, _, rfl⟩ := List.mem_map.mp hd
    obtain ⟨b, _, rfl⟩ := List.mem_map.mp he
    rfl
  · obtain ⟨a, _, rfl⟩ := List.mem_map.mp hd
    rfl
theorem minDD_ints (n : Int) (ns : List Int) : minDD (.int n) (ns.map D.int) = .int (ns.foldl min n) := by
  have h := minDD_pd (ns.map D.int) (.int n)
  rw [toPDs_ints] at h
  have h2 := minD_ints n ns
  have h3 : toPD (minDD (.int n) (ns.map D.int)) = toPD (.int (ns.foldl min n)) := h.trans h2
  exact toPD_inj _ _ (pureDs_mem (pureDs_ints (n :: ns)) (minDD_mem (ns.map D.int) (.int n))) rfl h3
theorem maxDD_ints (n : Int) (ns : List Int) : maxDD (.int n) (ns.map D.int) = .int (ns.foldl max n) := by
  have h := maxDD_pd (ns.map D.int) (.int n)
  rw [toPDs_ints] at h
  have h2 := maxD_ints n ns
  have h3 : toPD (maxDD (.int n) (ns.map D.int)) = toPD (.int (ns.foldl max n)) := h.trans h2
  exact toPD_inj _ _ (pureDs_mem (pureDs_ints (n :: ns)) (maxDD_mem (ns.map D.int) (.int n))) rfl h3
theorem gMinL_lst (n : Int) (ns : List Int) : gMinL [.lst ((n :: ns).map D.int)] = some (.int (ns.foldl min n)) := by
  have h := minOk_ints (n :: ns)
  rw [List.map_cons] at h ⊢
  unfold gMinL
  dsimp only
  rw [if_pos h, minDD_ints]
theorem gMinL_tup (n : Int) (ns : List Int) : gMinL [.tup ((n :: ns).map D.int)] = some (.int (ns.foldl min n)) := by
  have h := minOk_ints (n :: ns)
  rw [List.map_cons] at h ⊢
  unfold gMinL
  dsimp only
  rw [if_pos h, minDD_ints]
theorem gMaxL_lst (n : Int) (ns : List Int) : gMaxL [.lst ((n :: ns).map D.int)] = some (.int (ns.foldl max n)) := by
  have h := minOk_ints (n :: ns)
  rw [List.map_cons] at h ⊢
  unfold gMaxL
  dsimp only
  rw [if_pos h, maxDD_ints]
end Dn
end
section
set_option maxHeartbeats 4000000
/-! x += y of ints; a datum and a list of one's own stored at once. -/
namespace Dn
open PySem PySem.Spec PyProof.Rows L2
def gAddI : D → D → Option D := onII fun i j => some (.int (i + j))
theorem opg_addI {K : PySem.W.Frag} : OpG K (rI0 fun i j => .int (i + j)) gAddI := opg_I0 fun _ _ _ => .int _
theorem gAddI_int (i j : Int) : gAddI (.int i) (.int j) = some (.int (i + j)) := rfl
section
variable {X : Cx} {K : PySem.W.Frag} {pos : Pos} {pa : Nat → Addr}
def SPar_fo (i j : Nat) (f : FE) (g : FL) : FS := fun ρ => bnd (f ρ) fun d ρ1 => bnd (g ρ1) fun es ρ2 => if i < ρ2.length ∧ j < ρ2.length then some (.nx, (ρ2.set i (.fz d)).set j (.ow none es)) else none
def SPar_of (i j : Nat) (f : FL) (g : FE) : FS := fun ρ => bnd (f ρ) fun ds ρ1 => bnd (g ρ1) fun e ρ2 => if i < ρ2.length ∧ j < ρ2.length then some (.nx, (ρ2.set i (.ow none ds)).set j (.fz e)) else none
theorem good_par_fo {i j : Nat} {ta tb : TE} {f : FE} {g : FL} (hij : i ≠ j) (ha : GoodE K ta f) (hb : GoodL K tb g) : GoodS K (tPar i j (tCons ta (tCons tb tNil))) (SPar_fo i j f g) := fun pa w σ o ρ' R h E q => by
  obtain ⟨d, ρ1, e1, h2⟩ := bnd_eq h
  obtain ⟨es, ρ2, e2, h3⟩ := bnd_eq h2
  split at h3
  case isFalse => cases h3
  rename_i hl
  obtain ⟨q1, q2⟩ := Prod.mk.inj (Option.some.inj h3)
  subst q1
  subst q2
  refine ha pa w σ d ρ1 R e1 _ fun w1 v R1 p1 s1 r1 => ?_
  subst p1
  refine hb pa w1 σ es ρ2 R1 e2 _ fun w2 P' acc' R2 p2 s2 h0' hA' hF' hO' ra' => ?_
  subst p2
  obtain ⟨R3, S3⟩ := R2.store (i := i) (r1.mono s2.ex) hl.1
  have o3 : ¬ Own ⟨w2.F, w2.H, w2.al, w2.ρ.set i (.fz d)⟩ P' := S3.notOwn hA' hO'
  have R4 := R3.keep (i := j) (by rw [List.length_set]; exact hl.2) hA' hF' o3 ra'
  have S4 := ((s1.trans s2).trans S3).keep (i := j) (ds := es) (s1.st P' h0') (by rw [List.length_set]; exact hl.2)
  exact ⟨_, _, rfl, q ⟨w2.F, w2.H, fun k => if k = j then P' else w2.al k, (w2.ρ.set i (.fz d)).set j (.ow none es)⟩ _ R4 rfl S4⟩
theorem good_par_of {i j : Nat} {ta tb : TE} {f : FL} {g : FE} (hij : i ≠ j) (ha : GoodL K ta f) (hb : GoodE K tb g) : GoodS K (tPar i j (tCons ta (tCons tb tNil))) (SPar_of i j f g) := fun pa w σ o ρ' R h E q => by
  obtain ⟨ds, ρ1, e1, h2⟩ := bnd_eq h
  obtain ⟨e, ρ2, e2, h3⟩ := bnd_eq h2
  split at h3
  case isFalse => cases h3
  rename_i hl
  obtain ⟨q1, q2⟩ := Prod.mk.inj (Option.some.inj h3)
  subst q1
  subst q2
  refine ha pa w σ ds ρ1 R e1 _ fun w1 P acc R1 p1 s1 h0 hA hF hO ra => ?_
  subst p1
  refine hb pa w1 σ e ρ2 R1 e2 _ fun w2 v R2 p2 s2 r2 => ?_
  subst p2
  have a2 : w2.H P = some (.lst acc) := s2.fr P _ hA hO
  have f2 : w2.F P = none := s2.ff P _ hA hO hF
  have o2 : ¬ Own w2 P := s2.notOwn hA hO
  have R3 := R2.keep (i := i) hl.1 a2 f2 o2 (ra.mono s2.ex)
  have S3 := (s1.trans s2).keep (i := i) (ds := ds) h0 hl.1
  obtain ⟨R4, S4⟩ := R3.store (i := j) r2 (by rw [List.length_set]; exact hl.2)
  exact ⟨_, _, rfl, q ⟨w2.F, w2.H, fun k => if k = i then P else w2.al k, (w2.ρ.set i (.ow none ds)).set j (.fz e)⟩ _ R4 rfl (S3.trans S4)⟩
theorem gs_par_fo (i j : Nat) {x y : Str} {a b : Expr} {f : FE} {g : FL} {px py pt pos : Pos} {kt k2 : Nat} {pt2 : Pos} (hN : X.N.Nodup) (ha : GE X a f) (hb : GL X b g) (hij : i ≠ j := by decide) (hc : X.calm = true := by rfl) (hi : X.N[i]? = some x := by rfl) (hj : X.N[j]? = some y := by rfl)
    (hx : X.env.scope.names.lookup x = some .local := by rfl) (hy : X.env.scope.names.lookup y = some .local := by rfl)
    (hw : swappedStores [.Tuple [.Name x px, .Name y py] kt pt] (.Tuple [a, b] k2 pt2) X.env = pure (some [x, y]) := by rfl)
    (hs : swapsWithSole [.Tuple [.Name x px, .Name y py] kt pt] (.Tuple [a, b] k2 pt2) pos.line X.env = pure false := by rfl)
    (s1 : starEach [a, b] X.env = (false, eval a X.env) :: starEach [b] X.env := by rfl) (s2 : starEach [b] X.env = (false, eval b X.env) :: starEach [] X.env := by rfl) :
    GS X (.Assign [.Tuple [.Name x px, .Name y py] kt pt] (.Tuple [a, b] k2 pt2) pos) (SPar_fo i j f g) := let ⟨_, a1, a2⟩ := ha; let ⟨_, b1, b2⟩ := hb; ⟨_, ps_par hc hN hi hj hij hx hy (pa_cons a1 (pa_cons b1 pa_nil s2) s1) hw hs, good_par_fo hij a2 b2⟩
theorem gs_par_of (i j : Nat) {x y : Str} {a b : Expr} {f : FL} {g : FE} {px py pt pos : Pos} {kt k2 : Nat} {pt2 : Pos} (hN : X.N.Nodup) (ha : GL X a f) (hb : GE X b g) (hij : i ≠ j := by decide) (hc : X.calm = true := by rfl) (hi : X.N[i]? = some x := by rfl) (hj : X.N[j]? = some y := by rfl)
    (hx : X.env.scope.names.lookup x = some .local := by rfl) (hy : X.env.scope.names.lookup y = some .local := by rfl)
    (hw : swappedStores [.Tuple [.Name x px, .Name y py] kt pt] (.Tuple [a, b] k2 pt2) X.env = pure (some [x, y]) := by rfl)
    (hs : swapsWithSole [.Tuple [.Name x px, .Name y py] kt pt] (.Tuple [a, b] k2 pt2) pos.line X.env = pure false := by rfl)
    (s1 : starEach [a, b] X.env = (false, eval a X.env) :: starEach [b] X.env := by rfl) (s2 : starEach [b] X.env = (false, eval b X.env) :: starEach [] X.env := by rfl) :
    GS X (.Assign [.Tuple [.Name x px, .Name y py] kt pt] (.Tuple [a, b] k2 pt2) pos) (SPar_of i j f g) := let ⟨_, a1, a2⟩ := ha; let ⟨_, b1, b2⟩ := hb; ⟨_, ps_par hc hN hi hj hij hx hy (pa_cons a1 (pa_cons b1 pa_nil s2) s1) hw hs, good_par_of hij a2 b2⟩
end
end Dn
end
section
set_option maxHeartbeats 4000000
/-! pots = [own list for ..]; return all([.. for pot in pots]). -/
namespace Dn
open PySem PySem.Spec PyProof.Rows L2
def PLoop (vs : List Nat) (g : FT) (f : FL) : List D → List Sl → Option (List (List D) × List Sl)
  | [], ρ => some ([], ρ)
  | d :: ds, ρ => match g d ρ with
    | none => none
    | some ρ1 => bnd (f ρ1) fun out ρ2 => bnd (PLoop vs g f ds (wipeS ρ2 vs)) fun r ρ3 => some (out :: r, ρ3)
def QLoop (j : Nat) (elt : FE) : List (List D) → List Sl → Option (List Bool × List Sl)
  | [], ρ => some ([], ρ)
  | p :: ps, ρ => bnd (elt (ρ.set j (.ow none p))) fun d ρ1 => match d with
    | .bl b => bnd (QLoop j elt ps (wipeS ρ1 [j])) fun r ρ2 => some (b :: r, ρ2)
    | _ => none
def SPots (i j : Nat) (vs : List Nat) (it : FA) (g : FT) (f : FL) (elt : FE) : FS := fun ρ => bnd (it ρ) fun ds ρ1 => if ds.length ≤ 16777216 then
    bnd (PLoop vs g f ds (wipeS ρ1 vs)) fun outs ρ2 => if i < ρ2.length ∧ j < ρ2.length then bnd (QLoop j elt outs (wipeS ((backS ρ1 ρ2 vs).set i .un) [j])) fun bs ρ3 => some (.ret (.bl (bs.all id)), backS ((backS ρ1 ρ2 vs).set i .un) ρ3 [j]) else none
  else none
theorem PLoop_len {vs : List Nat} {g : FT} {f : FL} : ∀ {ds : List D} {ρ ρ' : List Sl} {outs : List (List D)}, PLoop vs g f ds ρ = some (outs, ρ') → outs.length = ds.length
  | [], _, _, _, h => by
    obtain ⟨q1, _⟩ := Prod.mk.inj (Option.some.inj h)
    subst q1
    rfl
  | d :: ds, ρ, ρ', outs, h => by
    unfold PLoop at h
    split at h
    · cases h
    obtain ⟨o, ρ2, _, h2⟩ := bnd_eq h
    obtain ⟨r, ρ3, e, h3⟩ := bnd_eq h2
    obtain ⟨q1, _⟩ := Prod.mk.inj (Option.some.inj h3)
    subst q1
    rw [List.length_cons, List.length_cons, PLoop_len e]
section
variable {K : PySem.W.Frag} {pa : Nat → Addr}
/-- lists that nobody has yet, but for the list of them; w0: where they were not there -/
structure Pots (K : PySem.W.Frag) (w0 w : Wd) (P : Addr) (k : Nat) (acc : List V) (outs : List (List D)) : Prop where
  len : acc.length = outs.length
  item : ∀ (l : Nat) (ds : List D), k ≤ l → outs[l]? = some ds → ∃ a us, acc[l]? = some (.ref a) ∧ w0.H a = none ∧ w.H a = some (.lst us) ∧ RpA K w.F us ds ∧ w.F a = none ∧ ¬ Own w a ∧ a ≠ P
  ne : ∀ (l l' : Nat) (a : Addr), acc[l]? = some (.ref a) → acc[l']? = some (.ref a) → l = l'
theorem Pots.step {w0 w w' : Wd} {P : Addr} {k : Nat} {acc : List V} {outs : List (List D)} (p : Pots K w0 w P k acc outs) (s : Step w w') : Pots K w0 w' P k acc outs :=
  ⟨p.len, fun l ds hk h => by
    obtain ⟨a, us, h1, h2, h3, h4, h5, h6, h7⟩ := p.item l ds hk h
    exact ⟨a, us, h1, h2, s.fr a _ h3 h6, h4.mono s.ex, s.ff a _ h3 h6 h5, s.notOwn h3 h6, h7⟩, p.ne⟩
theorem Pots.poke {w0 w : Wd} {P Q : Addr} {o : HO} {k : Nat} {acc : List V} {outs : List (List D)} (p : Pots K w0 w P k acc outs) (hq : ∀ (l : Nat) (a : Addr), acc[l]? = some (.ref a) → k ≤ l → a ≠ Q) : Pots K w0 ⟨w.F, upd w.H Q o, w.al, w.ρ⟩ P k acc outs :=
  ⟨p.len, fun l ds hk h => by
    obtain ⟨a, us, h1, h2, h3, h4, h5, h6, h7⟩ := p.item l ds hk h
    refine ⟨a, us, h1, h2, ?_, h4, h5, h6, h7⟩
    dsimp only
    rw [upd_ne (hq l a h1 hk)]
    exact h3, p.ne⟩
theorem Rel.unset {w : Wd} {σ : L2.St} {i : Nat} {v : V} (R : Rel K pa w σ) : Rel K pa ⟨w.F, w.H, w.al, w.ρ.set i .un⟩ (σ.set i (some v)) ∧ Step w ⟨w.F, w.H, w.al, w.ρ.set i .un⟩ := by
  have at_ : ∀ (j : Nat) (s : Sl), (w.ρ.set i .un)[j]? = some s → s ≠ .un → i ≠ j ∧ w.ρ[j]? = some s := fun j s h n => by
    by_cases z : i = j
    · subst z
      by_cases hi : i < w.ρ.length
      · rw [List.getElem?_set_self hi] at h
        exact absurd (Option.some.inj h).symm n
      · rw [List.getElem?_eq_none (by rw [List.length_set]; omega)] at h
        cases h
    · rw [List.getElem?_set_ne z] at h
      exact ⟨z, h⟩
  refine ⟨⟨R.ex, by rw [List.length_set, List.length_set]; exact R.len, fun j d h => ?_, fun j t ds h => ?_, fun j j' t u es es' h h' => R.inj j j' t u es es' (at_ j _ h (by simp)).2 (at_ j' _ h' (by simp)).2⟩, ⟨Ex.refl _, fun _ _ h _ => h, fun _ _ _ _ h => h, fun b ⟨j, t, es, h, e⟩ => .inl ⟨j, t, es, (at_ j _ h (by simp)).2, e⟩, fun _ h => h⟩⟩
  · obtain ⟨z, h⟩ := at_ j _ h (by simp)
    obtain ⟨v, a, b⟩ := R.fz j d h
    exact ⟨v, by rw [List.getElem?_set_ne z]; exact a, b⟩
  · obtain ⟨z, h⟩ := at_ j _ h (by simp)
    obtain ⟨a, b⟩ := R.ow j t ds h
    exact ⟨by rw [List.getElem?_set_ne z]; exact a, b⟩
/-- the first comprehension -/
theorem pl_run {wi : TI} {tg : TG} {tt : TT} {te : TE} {it : FA} {gt : FT} {f : FL} {ts vs : List Nat} (hi : GoodI K wi it) (hg : GoodT K tg gt ts) (hsub : ∀ i ∈ ts, i ∈ vs) (ht : GoodB K tt BYes) (he : GoodL K te f)
    {w : Wd} {σ : L2.St} {ds : List D} {outs : List (List D)} {ρ1 ρ2 : List Sl} {Q : VK} (R : Rel K pa w σ) (e1 : it w.ρ = some (ds, ρ1)) (hz : ds.length ≤ 16777216) (e2 : PLoop vs gt f ds (wipeS ρ1 vs) = some (outs, ρ2))
    (want : ∀ (w' : Wd) (P : Addr) (acc : List V), Rel K pa w' σ → w'.ρ = backS ρ1 ρ2 vs → Step w w' → w.H P = none → w'.H P = some (.lst acc) → w'.F P = none → ¬ Own w' P → Pots K w w' P 0 acc outs → Q (.ref P) w'.H) : tLc wi tg tt te vs σ w.H Q := by
  refine hi pa w σ ds ρ1 R e1 _ fun w1 J R1 p1 s1 hJ => ?_
  subst p1
  intro P hP
  have R1q := R1.grow (Grow.quiet (o := .lst []) R1.ex hP)
  have R1w := R1q.1.wiped vs
  have nO1 : ¬ Own w1 P := fun ⟨j, t, es, hj, z⟩ => by
    obtain ⟨_, _, ⟨us, b3, _⟩, _⟩ := R1.ow j t es hj
    rw [show w1.al j = P from z, hP] at b3
    cases b3
  have hP0 : w.H P = none := s1.st P hP
  refine ⟨fun i m H2 => ∃ w2 acc os2, H2 = w2.H ∧ Rel K pa w2 (wipe σ vs) ∧ Step w1 w2 ∧ w2.H P = some (.lst acc) ∧ w2.F P = none ∧ ¬ Own w2 P ∧ Pots K w w2 P 0 acc os2 ∧ acc.length ≤ i ∧ i + m = ds.length ∧ ∃ r, PLoop vs gt f (ds.drop i) w2.ρ = some (r, ρ2) ∧ outs = os2 ++ r,
    ⟨ds.length, _, [], [], rfl, R1w.1, R1q.2.trans R1w.2, upd_same, R1.ex.free hP, fun hO => nO1 ((R1w.2.ow P hO).elim id fun z => ?_), ⟨rfl, fun l ds _ h => by simp at h, fun l l' a h => by simp at h⟩, Nat.zero_le _, by omega, outs, e2, rfl⟩, ?_⟩
  · dsimp only at z
    rw [upd_same] at z
    cases z
  rintro i m H2 ⟨w2, acc, os2, rfl, R2, s2, hA, hF, hO, po, la, em, r, hl, eo⟩
  obtain ⟨jg, js⟩ := hJ w2.F w2.H i s2.ex R2.ex
  cases hd : ds[i]? with
  | none =>
    have hlen : ds.length ≤ i := List.getElem?_eq_none_iff.mp hd
    rw [List.drop_eq_nil_of_le hlen] at hl
    obtain ⟨q1, q2⟩ := Prod.mk.inj (Option.some.inj hl)
    subst q1
    rw [List.append_nil] at eo
    subst eo
    obtain ⟨R3, s3⟩ := R1.back R2 s2.ex
    rw [q2] at R3 s3
    exact .inl ⟨js hd, want ⟨w2.F, w2.H, w2.al, backS w1.ρ ρ2 vs⟩ P acc R3 rfl ((s1.trans s2).trans s3) hP0 hA hF (s3.notOwn hA hO) (po.step s3)⟩
  | some d =>
    obtain ⟨go, yl⟩ := jg d hd
    have hlt : i < ds.length := (List.getElem?_eq_some_iff.mp hd).1
    have hd' : ds[i] = d := (List.getElem?_eq_some_iff.mp hd).2
    rw [List.drop_eq_getElem_cons hlt, hd'] at hl
    unfold PLoop at hl
    refine .inr ⟨go, fun H3 => ∃ w3 acc os3, H3 = w3.H ∧ Rel K pa w3 (wipe σ vs) ∧ Step w1 w3 ∧ w3.H P = some (.lst acc) ∧ w3.F P = none ∧ ¬ Own w3 P ∧ Pots K w w3 P 0 acc os3 ∧ acc.length ≤ i + 1 ∧ ∃ r, PLoop vs gt f (ds.drop (i + 1)) w3.ρ = some (r, ρ2) ∧ outs = os3 ++ r,
      fun H3 ⟨w3, acc3, ds3, b1, b2, b3, b4, b5, b6, b7, b8, b9⟩ => ⟨m - 1, by omega, w3, acc3, ds3, b1, b2, b3, b4, b5, b6, b7, b8, by omega, b9⟩, fun x H3 hy => ?_⟩
    obtain ⟨F3, gr, rp⟩ := yl x H3 hy
    obtain ⟨R3, s3⟩ := R2.grow gr
    split at hl
    · cases hl
    rename_i ρ3 e3
    refine hg pa _ (wipe σ vs) x d ρ3 R3 rp e3 _ fun w4 σ4 R4 p4 s4 k4 l4 => ?_
    subst p4
    have ew : wipe σ4 vs = wipe σ vs := by
      have z : wipe σ4 vs = wipe (wipe σ vs) vs := wipe_eq (fun j hj => k4 j fun m => hj (hsub j m)) l4
      rw [z]
      exact wipe_eq (fun j hj => wipe_off hj) (wipe_length σ vs)
    refine ⟨ew, ?_⟩
    have s24 : Step w2 w4 := s3.trans s4
    refine ht pa w4 σ4 true w4.ρ R4 rfl _ fun w5 R5 p5 s5 => ?_
    have s25 : Step w2 w5 := s24.trans s5
    rw [if_pos rfl]
    obtain ⟨out, ρ6, e6, hl6⟩ := bnd_eq hl
    clear hl
    obtain ⟨r7, ρ7, e7, hl7⟩ := bnd_eq hl6
    clear hl6
    obtain ⟨z1, z2⟩ := Prod.mk.inj (Option.some.inj hl7)
    subst z1
    subst z2
    rw [← p5] at e6
    refine he pa w5 σ4 out ρ6 R5 e6 _ fun w6 A us R6 p6 s6 h0 hA6 hF6 hO6 ra6 => ?_
    subst p6
    have s26 : Step w2 w6 := s25.trans s6
    have po6 := po.step s26
    have P6 := s26.fr P _ hA hO
    have P5 := s25.fr P _ hA hO
    have neP : A ≠ P := fun z => by
      rw [z, P5] at h0
      cases h0
    have hw0 : w.H A = none := s1.st A (s2.st A (s25.st A h0))
    have neA : ∀ (l : Nat) (a : Addr), acc[l]? = some (.ref a) → a ≠ A := fun l a hl z => by
      have hlo : l < os2.length := by
        rw [← po.len]
        exact (List.getElem?_eq_some_iff.mp hl).1
      obtain ⟨a', us', c1, c2, c3, _⟩ := (po.step s25).item l _ (Nat.zero_le _) (List.getElem?_eq_getElem hlo)
      rw [hl] at c1
      have e := V.ref.inj (Option.some.inj c1)
      rw [← e, z, h0] at c3
      cases c3
    refine ⟨acc, P6, Nat.lt_of_le_of_lt la (Nat.lt_of_lt_of_le hlt (line_le hz)), ?_⟩
    have R7 := (R6.poke (o := .lst (acc ++ [.ref A])) (s26.ff P _ hA hO hF) (s26.notOwn hA hO)).wiped vs
    rw [ew] at R7
    have po7 : Pots K w w6 P 0 (acc ++ [.ref A]) (os2 ++ [out]) := by
      refine ⟨by rw [List.length_append, List.length_append, po.len]; rfl, fun l ds' hk h => ?_, fun l l' a h h' => ?_⟩
      · by_cases c : l < os2.length
        · rw [List.getElem?_append_left c] at h
          obtain ⟨a, us', c1, c2⟩ := po6.item l ds' hk h
          exact ⟨a, us', by rw [List.getElem?_append_left (by rw [po.len]; exact c)]; exact c1, c2⟩
        · rw [List.getElem?_append_right (by omega)] at h
          have : l - os2.length = 0 := by
            have := (List.getElem?_eq_some_iff.mp h).1
            simp at this
            omega
          rw [this] at h
          have e := Option.some.inj h
          subst e
          refine ⟨A, us, ?_, hw0, hA6, ra6, hF6, hO6, neP⟩
          rw [List.getElem?_append_right (by rw [po.len]; omega), po.len, this]
          rfl
      · have key : ∀ (l : Nat) (a : Addr), (acc ++ [V.ref A])[l]? = some (.ref a) → (l < acc.length ∧ acc[l]? = some (.ref a)) ∨ (l = acc.length ∧ a = A) := fun l a h => by
          by_cases c : l < acc.length
          · rw [List.getElem?_append_left c] at h
            exact .inl ⟨c, h⟩
          · rw [List.getElem?_append_right (by omega)] at h
            have : l - acc.length = 0 := by
              have := (List.getElem?_eq_some_iff.mp h).1
              simp at this
              omega
            rw [this] at h
            exact .inr ⟨by omega, (V.ref.inj (Option.some.inj h)).symm⟩
        rcases key l a h with ⟨c1, c2⟩ | ⟨c1, c2⟩ <;> rcases key l' a h' with ⟨d1, d2⟩ | ⟨d1, d2⟩
        · exact po.ne l l' a c2 d2
        · exact absurd d2 (neA l a c2)
        · exact absurd c2 (neA l' a d2)
        · omega
    refine ⟨_, acc ++ [.ref A], os2 ++ [out], rfl, R7.1, ((s2.trans s26).poke hP).trans R7.2, upd_same, s26.ff P _ hA hO hF, fun z => ?_, (po7.poke (Q := P) (o := .lst (acc ++ [.ref A])) fun l a hl hk => ?_).step R7.2, by rw [List.length_append]; show acc.length + 1 ≤ i + 1; omega, r7, e7, by rw [eo, List.append_assoc]; rfl⟩
    · rcases R7.2.ow P z with y | y
      · exact s26.notOwn hA hO y
      · dsimp only at y
        rw [upd_same] at y
        cases y
    · have hlo : l < (os2 ++ [out]).length := by
        rw [← po7.len]
        exact (List.getElem?_eq_some_iff.mp hl).1
      obtain ⟨a', _, c1, _, _, _, _, _, c7⟩ := po7.item l _ (Nat.zero_le _) (List.getElem?_eq_getElem hlo)
      rw [hl] at c1
      rw [V.ref.inj (Option.some.inj c1)]
      exact c7
/-- the second one -/
theorem ql_run {tt : TT} {te : TE} {elt : FE} {i j : Nat} (ht : GoodB K tt BYes) (he : GoodE K te elt) {w0 w : Wd} {σ : L2.St} {outs : List (List D)} {bs : List Bool} {ρ3 : List Sl} {P : Addr} {acc : List V} {Q : VK} (R : Rel K pa w σ) (s0 : Step w0 w) (hP0 : w0.H P = none) (hA : w.H P = some (.lst acc)) (hF : w.F P = none) (hO : ¬ Own w P) (po : Pots K w0 w P 0 acc outs)
    (hσ : σ[i]? = some (some (.ref P))) (hj : j < w.ρ.length) (hz : outs.length ≤ 16777216) (e2 : QLoop j elt outs (wipeS w.ρ [j]) = some (bs, ρ3))
    (want : ∀ (w' : Wd) (D : Addr), Rel K pa w' σ → w'.ρ = backS w.ρ ρ3 [j] → Step w0 w' → w'.H D = some (.lst (bs.map V.bl)) → Q (.ref D) w'.H) : tLc (iSeq K (tVar i)) (gName j) tt te [j] σ w.H Q := by
  refine ⟨.ref P, hσ, P, rfl, .inl ⟨acc, .inl (.inl hA), fun D hD => ?_⟩⟩
  have Rq := R.grow (Grow.quiet (o := .lst []) R.ex hD)
  have Rw := Rq.1.wiped [j]
  have nO : ¬ Own w D := fun ⟨l, t, es, hl, z⟩ => by
    obtain ⟨_, _, ⟨us, b3, _⟩, _⟩ := R.ow l t es hl
    rw [show w.al l = D from z, hD] at b3
    cases b3
  have hD0 : w0.H D = none := s0.st D hD
  have neDP : D ≠ P := fun z => by
    rw [z, hA] at hD
    cases hD
  have neD : ∀ (l : Nat) (a : Addr), acc[l]? = some (.ref a) → a ≠ D := fun l a hl z => by
    have hlo : l < outs.length := by
      rw [← po.len]
      exact (List.getElem?_eq_some_iff.mp hl).1
    obtain ⟨a', us', c1, c2, c3, _⟩ := po.item l _ (Nat.zero_le _) (List.getElem?_eq_getElem hlo)
    rw [hl] at c1
    rw [← V.ref.inj (Option.some.inj c1), z, hD] at c3
    cases c3
  have sq : Step w ⟨w.F, upd w.H D (.lst []), w.al, wipeS w.ρ [j]⟩ := Rq.2.trans Rw.2
  refine ⟨fun k m H2 => ∃ w2 b2, H2 = w2.H ∧ Rel K pa w2 (wipe σ [j]) ∧ Step w0 w2 ∧ Ex w.F w2.F ∧ w2.H D = some (.lst (b2.map V.bl)) ∧ w2.F D = none ∧ ¬ Own w2 D ∧ w2.H P = some (.lst acc) ∧ ¬ Own w2 P ∧ w2.F P = none ∧ Pots K w0 w2 P k acc outs ∧ b2.length ≤ k ∧ k + m = outs.length ∧ w2.ρ.length = w.ρ.length ∧ ∃ r, QLoop j elt (outs.drop k) w2.ρ = some (r, ρ3) ∧ bs = b2 ++ r,
    ⟨outs.length, ⟨w.F, upd w.H D (.lst []), w.al, wipeS w.ρ [j]⟩, [], rfl, Rw.1, s0.trans sq, Ex.refl _, upd_same, R.ex.free hD, fun z => ?_, ?_, sq.notOwn hA hO, hF, ?_, Nat.le_refl _, by omega, wipeS_length _ _, bs, e2, rfl⟩, ?_⟩
  · rcases Rw.2.ow D z with y | y
    · exact nO y
    · dsimp only at y
      rw [upd_same] at y
      cases y
  · dsimp only
    rw [upd_ne neDP.symm]
    exact hA
  · exact (po.poke (Q := D) (o := .lst []) fun l a hl _ => neD l a hl).step Rw.2
  rintro k m H2 ⟨w2, b2, rfl, R2, s2, ex2, hD2, hFD2, hOD2, hP2, hOP2, hFP2, po2, lb, em, ln, r, hl, eo⟩
  by_cases hk : k < outs.length
  · -- a turn
    obtain ⟨a, us, c1, c2, c3, c4, c5, c6, c7⟩ := po2.item k _ (Nat.le_refl _) (List.getElem?_eq_getElem hk)
    rw [List.drop_eq_getElem_cons hk] at hl
    unfold QLoop at hl
    refine .inr ⟨⟨acc, .ref a, .inl (.inl hP2), c1⟩, fun H3 => ∃ w3 b3, H3 = w3.H ∧ Rel K pa w3 (wipe σ [j]) ∧ Step w0 w3 ∧ Ex w.F w3.F ∧ w3.H D = some (.lst (b3.map V.bl)) ∧ w3.F D = none ∧ ¬ Own w3 D ∧ w3.H P = some (.lst acc) ∧ ¬ Own w3 P ∧ w3.F P = none ∧ Pots K w0 w3 P (k + 1) acc outs ∧ b3.length ≤ k + 1 ∧ w3.ρ.length = w.ρ.length ∧ ∃ r, QLoop j elt (outs.drop (k + 1)) w3.ρ = some (r, ρ3) ∧ bs = b3 ++ r,
      fun H3 ⟨w3, b3, d1, d2, d3, d4, d5, d6, d7, d8, d9, d10, d11, d12, d13, d14⟩ => ⟨m - 1, by omega, w3, b3, d1, d2, d3, d4, d5, d6, d7, d8, d9, d10, d11, d12, by omega, d13, d14⟩, fun x H3 hy => ?_⟩
    obtain ⟨rfl, hx⟩ := hy
    have ex : x = .ref a := by
      have := hx acc (.inl (.inl hP2))
      rw [c1] at this
      exact (Option.some.inj this).symm
    subst ex
    have ew : wipe ((wipe σ [j]).set j (some (.ref a))) [j] = wipe σ [j] := by
      have z : wipe ((wipe σ [j]).set j (some (.ref a))) [j] = wipe (wipe σ [j]) [j] := wipe_eq (fun l hl => by rw [List.getElem?_set_ne fun z => hl (by simp [z])]) (by rw [List.length_set])
      rw [z]
      exact wipe_eq (fun l hl => wipe_off hl) (wipe_length σ [j])
    refine ⟨ew, ?_⟩
    have hj2 : j < w2.ρ.length := by omega
    have R3 := R2.keep (i := j) hj2 c3 c5 c6 c4
    have s3 := s2.keep (i := j) (ds := outs[k]) c2 hj2
    have nOwn : ∀ b, ¬ Own w2 b → b ≠ a → ¬ Own ⟨w2.F, w2.H, fun l => if l = j then a else w2.al l, w2.ρ.set j (.ow none outs[k])⟩ b := fun b hb hn ⟨l, t, es, hl', el⟩ => by
      dsimp only at hl' el
      by_cases z : j = l
      · subst z
        rw [if_pos rfl] at el
        exact hn el.symm
      · rw [List.getElem?_set_ne z] at hl'
        rw [if_neg (Ne.symm z)] at el
        exact hb ⟨l, t, es, hl', el⟩
    refine ht pa _ _ true _ R3 rfl _ fun w4 R4 p4 s4 => ?_
    rw [if_pos rfl]
    obtain ⟨d, ρ5, e5, hl5⟩ := bnd_eq hl
    clear hl
    have e5' : elt w4.ρ = some (d, ρ5) := by rw [p4]; exact e5
    split at hl5
    case h_2 => cases hl5
    rename_i b
    obtain ⟨r6, ρ6, e6, hl6⟩ := bnd_eq hl5
    clear hl5
    obtain ⟨z1, z2⟩ := Prod.mk.inj (Option.some.inj hl6)
    subst z1
    subst z2
    refine he pa w4 _ _ ρ5 R4 e5' _ fun w5 v5 R5 p5 s5 r5 => ?_
    subst p5
    cases r5
    have s35 := s4.trans s5
    have neDa : D ≠ a := fun z => neD k a c1 z.symm
    have nePa : P ≠ a := fun z => c7 z.symm
    have D5 := s35.fr D _ hD2 (nOwn D hOD2 neDa)
    have P5 := s35.fr P _ hP2 (nOwn P hOP2 nePa)
    refine ⟨b2.map V.bl, D5, ?_, ?_⟩
    · rw [List.length_map]
      exact Nat.lt_of_le_of_lt lb (Nat.lt_of_lt_of_le hk (line_le hz))
    have nD5 := s35.notOwn (w := ⟨w2.F, w2.H, fun l => if l = j then a else w2.al l, w2.ρ.set j (.ow none outs[k])⟩) hD2 (nOwn D hOD2 neDa)
    have nP5 := s35.notOwn (w := ⟨w2.F, w2.H, fun l => if l = j then a else w2.al l, w2.ρ.set j (.ow none outs[k])⟩) hP2 (nOwn P hOP2 nePa)
    have FD5 := s35.ff D _ hD2 (nOwn D hOD2 neDa) hFD2
    have R6 := (R5.poke (o := .lst (b2.map V.bl ++ [.bl b])) FD5 nD5).wiped [j]
    rw [ew] at R6
    have po5 : Pots K w0 w5 P (k + 1) acc outs := ⟨po2.len, fun l ds' hkl h => by
      obtain ⟨a', us', g1, g2, g3, g4, g5, g6, g7⟩ := po2.item l ds' (by omega) h
      have na : a' ≠ a := fun z => by
        rw [z] at g1
        have := po2.ne l k a g1 c1
        omega
      exact ⟨a', us', g1, g2, s35.fr a' _ g3 (nOwn a' g6 na), g4.mono s35.ex, s35.ff a' _ g3 (nOwn a' g6 na) g5, s35.notOwn (w := ⟨w2.F, w2.H, fun l => if l = j then a else w2.al l, w2.ρ.set j (.ow none outs[k])⟩) g3 (nOwn a' g6 na), g7⟩, po2.ne⟩
    have eb : (b2 ++ [b]).map V.bl = b2.map V.bl ++ [.bl b] := by rw [List.map_append]; rfl
    have len5 : w5.ρ.length = w.ρ.length := by
      rw [R5.len, List.length_set, wipe_length, ← R.len]
    refine ⟨⟨w5.F, upd w5.H D (.lst (b2.map V.bl ++ [.bl b])), w5.al, wipeS w5.ρ [j]⟩, b2 ++ [b], rfl, R6.1, ((s3.trans s35).poke hD0).trans R6.2, (ex2.trans s35.ex), by rw [eb]; exact upd_same, FD5, fun z => ?_, ?_, ?_, s35.ff P _ hP2 (nOwn P hOP2 nePa) hFP2, (po5.poke (Q := D) (o := .lst (b2.map V.bl ++ [.bl b])) fun l a' hl' _ => neD l a' hl').step R6.2, by rw [List.length_append]; show b2.length + 1 ≤ k + 1; omega, by rw [wipeS_length]; exact len5, r6, e6, by rw [eo, List.append_assoc]; rfl⟩
    · rcases R6.2.ow D z with y | y
      · exact nD5 y
      · dsimp only at y
        rw [upd_same] at y
        cases y
    · dsimp only
      rw [upd_ne neDP.symm]
      exact P5
    · intro z
      rcases R6.2.ow P z with y | y
      · exact nP5 y
      · dsimp only at y
        rw [upd_ne neDP.symm, P5] at y
        cases y
  · -- the end
    rw [List.drop_eq_nil_of_le (by omega)] at hl
    obtain ⟨q1, q2⟩ := Prod.mk.inj (Option.some.inj hl)
    subst q1
    rw [List.append_nil] at eo
    subst eo
    obtain ⟨R3, s3⟩ := R.back R2 ex2
    rw [q2] at R3 s3
    exact .inl ⟨⟨acc, .inl (.inl hP2), by rw [po.len]; omega⟩, want ⟨w2.F, w2.H, w2.al, backS w.ρ ρ3 [j]⟩ D R3 rfl (s2.trans s3) hD2⟩
end
end Dn
end
section
set_option maxHeartbeats 4000000
namespace Dn
open PySem PySem.Spec PyProof.Rows L2
def tOfL (K : PySem.W.Frag) (f : FL) : TE := fun σ H Q => ∃ (pa : Nat → Addr) (w : Wd) (ds : List D) (ρ' : List Sl), w.H = H ∧ Rel K pa w σ ∧ f w.ρ = some (ds, ρ') ∧
  ∀ (w' : Wd) (P : Addr) (acc : List V), Rel K pa w' σ → w'.ρ = ρ' → Step w w' → w.H P = none → w'.H P = some (.lst acc) → w'.F P = none → ¬ Own w' P → RpA K w'.F acc ds → Q (.ref P) w'.H
section
variable {X : Cx} {K : PySem.W.Frag} {pa : Nat → Addr}
theorem good_tOfL {f : FL} : GoodL K (tOfL K f) f := fun pa w σ ds ρ' R h Q q => ⟨pa, w, ds, ρ', rfl, R, h, q⟩
theorem GL.pe {e : Expr} {f : FL} (h : GL X e f) : PE X e (tOfL X.K f) := by
  obtain ⟨te, a, b⟩ := h
  refine ⟨fun pins s σ H Q I hq => ?_⟩
  obtain ⟨pa, w, ds, ρ', rfl, R, e1, q⟩ := hq
  exact a.run pins s σ w.H Q I (b pa w σ ds ρ' R e1 Q q)
theorem good_yes : GoodB K tYes BYes := fun pa w σ b ρ' R h Q q => by
  obtain ⟨q1, q2⟩ := Prod.mk.inj (Option.some.inj h)
  subst q1
  exact q w R q2 (Step.refl w)
theorem good_pots {i j : Nat} {wi : TI} {tg : TG} {tt : TT} {te1 te2 : TE} {it : FA} {gt : FT} {f : FL} {elt : FE} {ts vs : List Nat} (hi : GoodI K wi it) (hg : GoodT K tg gt ts) (hsub : ∀ i ∈ ts, i ∈ vs) (ht : GoodB K tt BYes) (he : GoodL K te1 f) (he2 : GoodE K te2 elt) :
    GoodS K (tSeq (tAsg (tLc wi tg tt te1 vs) (gName i)) (tRet (tCB (rAll K) (tCons (tLc (iSeq K (tVar i)) (gName j) tYes te2 [j]) tNil)))) (SPots i j vs it gt f elt) := fun pa w σ o ρ' R h E q => by
  obtain ⟨ds, ρ1, e1, h2⟩ := bnd_eq h
  split at h2
  case isFalse => cases h2
  rename_i hz
  obtain ⟨outs, ρ2, e2, h3⟩ := bnd_eq h2
  split at h3
  case isFalse => cases h3
  rename_i hl
  obtain ⟨bs, ρ3, e3, h4⟩ := bnd_eq h3
  obtain ⟨q1, q2⟩ := Prod.mk.inj (Option.some.inj h4)
  subst q1
  subst q2
  show tLc wi tg tt te1 vs σ w.H (fun x H1 => tRet (tCB (rAll K) (tCons (tLc (iSeq K (tVar i)) (gName j) tYes te2 [j]) tNil)) E (σ.set i (some x)) H1)
  refine pl_run hi hg hsub ht he R e1 hz e2 fun w' P acc R' p' s' h0 hA hF hO po => ?_
  obtain ⟨R2, s2⟩ := R'.unset (i := i) (v := .ref P)
  have ll := R'.len
  rw [p', backS_length] at ll
  show tLc (iSeq K (tVar i)) (gName j) tYes te2 [j] (σ.set i (some (.ref P))) w'.H (fun x H1 => rAll K [x] H1 E.rt)
  refine ql_run (w := ⟨w'.F, w'.H, w'.al, w'.ρ.set i .un⟩) good_yes he2 R2 (s'.trans s2) h0 hA hF (s2.notOwn hA hO) (po.step s2) (by rw [List.getElem?_set_self (by omega)]) (by dsimp only; rw [List.length_set, R'.len]; omega) (by rw [PLoop_len e2]; exact hz) (by dsimp only; rw [p']; exact e3) fun w3 D R3 p3 s3 hD => ?_
  exact ⟨D, bs, rfl, .inl (.inl hD), q w3 _ _ R3 (by rw [p3]; dsimp only; rw [p']) s3 (.bl _)⟩
theorem gss_pots (i j : Nat) {y z : Str} {elt1 tg iter elt2 : Expr} {scope1 scope2 : Scope} (own1 : List (Str × Nat)) {it : FA} {gt : FT} {ts : List Nat} {f : FL} {fe : FE} {py pos1 spos pz py2 pos2 pa2 pos3 pos4 : Pos} (hN : X.N.Nodup) (hi : GI X tg iter it) (ok1 : blkC X.N X.env.scope scope1 own1 = true)
    (hsw : swapsWith (.ListComp elt1 [⟨tg, iter, [], 0⟩] scope1 pos1) (some (.Name y py)) spos.line X.env = pure true)
    (hg : ∀ (s : Shared) (H : Hp) (C : Addr) (cl : List (Str × Addr)) (fp : List Addr), GT (X.blk s H scope1 (compEnvC scope1 cl C X.env) fp) tg gt ts)
    (he : ∀ (s : Shared) (H : Hp) (C : Addr) (cl : List (Str × Addr)) (fp : List Addr), GL (X.blk s H scope1 (compEnvC scope1 cl C X.env) fp) elt1 f)
    (ok2 : blkC X.N X.env.scope scope2 [(z, j)] = true)
    (hg2 : ∀ (s : Shared) (H : Hp) (C : Addr) (cl : List (Str × Addr)) (fp : List Addr), PG (X.blk s H scope2 (compEnvC scope2 cl C X.env) fp) (.Name z pz) (gName j))
    (he2 : ∀ (s : Shared) (H : Hp) (C : Addr) (cl : List (Str × Addr)) (fp : List Addr), GE (X.blk s H scope2 (compEnvC scope2 cl C X.env) fp) elt2 fe)
    (hm : X.mg "all" = none) (hy : X.N[i]? = some y := by rfl) (hyl : X.env.scope.names.lookup y = some .local := by rfl) (hsub : ∀ i ∈ ts, i ∈ own1.map (·.2) := by decide) (hc : X.calm = true := by rfl) (hs : ∀ x, foldedSetIterable iter X.env x = pure x := by intro _; rfl) (hs2 : ∀ x, foldedSetIterable (.Name y py2) X.env x = pure x := by intro _; rfl)
    (hv : Vis X.env.scope y := by first | exact Or.inl rfl | exact Or.inr (Or.inl rfl) | exact Or.inr (Or.inr rfl)) (hd : (y == ("__debug__" : Str)) = false := by decide) (hcd : (y == ("__classdict__" : Str)) = false := by decide) (hgl : Gl X "all" := by rfl)
    (hst : starEach [Expr.ListComp elt2 [⟨.Name z pz, .Name y py2, [], 0⟩] scope2 pos2] X.env = (false, eval (.ListComp elt2 [⟨.Name z pz, .Name y py2, [], 0⟩] scope2 pos2) X.env) :: starEach [] X.env := by rfl) :
    GSs X [.Assign [.Name y py] (.ListComp elt1 [⟨tg, iter, [], 0⟩] scope1 pos1) spos, .Return (some (.Call (.Name "all" pa2) [.ListComp elt2 [⟨.Name z pz, .Name y py2, [], 0⟩] scope2 pos2] [] pos3)) pos4] (SPots i j (own1.map (·.2)) it gt f fe) := by
  obtain ⟨wi, a, b⟩ := hi
  have s1 := ps_setLc (te := tOfL X.K f) (g := tOfT X.K gt ts) hc hN hy hyl hsw a (blkOk_by ok1) (fun s H C cl fp => (hg s H C cl fp).pg) (fun s H C cl fp => pts_nil) (fun s H C cl fp => (he s H C cl fp).pe) hs
  have s2 := ps_ret (pos := pos4) (pe_callB (cr_all hc) hgl hm (by decide +kernel) (pa_cons (pe_lc (own := [(z, j)]) hc hN (pi_seq (pe_var hy hv hd hcd)) (blkOk_by ok2) hg2 (fun s H C cl fp => pts_nil) (te := tOfE X.K fe) (fun s H C cl fp => (he2 s H C cl fp).pe) hs2) pa_nil hst) (pos := pos3) (p := pa2) (he := hst))
  exact ⟨_, pss_cons s1 (pss_one s2), good_pots b good_tOfT hsub good_yes good_tOfL good_tOfE⟩
end
end Dn
end
section
set_option maxHeartbeats 4000000
/-! tuple(enumerate(x)), tuple(zip(x, y)): a walk whose fresh pairs are all kept. -/
namespace Dn
open PySem PySem.Spec PyProof.Rows L2
section
variable {prog : Program} {w : World} {A : Around} {E : Value → Shared → Prop} {s : Shared}
abbrev lstO (acc : Array Value) (c : Nat) : Obj := { cls := .type "list", dict := none, data := .seq acc c, slots := #[] }
/-- the loop of list.extend, over any state that each draw keeps -/
theorem ext_loop {R : Result → Shared → Prop} {I S : Addr} {res : Value} {n : Nat} {J : Nat → Shared → Prop} (hn : n ≤ sizeLine)
    (item : ∀ (i : Nat) (s : Shared) (Q : Option Value → Shared → Prop) (E : Value → Shared → Prop), i < n → J i s →
      (∀ v s1 acc c, s1.heap.get? S = some (lstO acc c) → acc.size = i → J (i + 1) { s1 with heap := s1.heap.update S (Obj.mapSeq (·.push v)) } → Q (some v) s1) → wpAny (model prog w) A.in1 (pyNext (.ref I)) Q E s)
    (done : ∀ (s : Shared) (Q : Option Value → Shared → Prop) (E : Value → Shared → Prop), J n s → (∀ s1, R (.ok (.ret res)) s1 → Q none s1) → wpAny (model prog w) A.in1 (pyNext (.ref I)) Q E s) :
    ∀ (k i : Nat) (s : Shared), n - i = k → i ≤ n → J i s → codeAny (model prog w) A (.builtin "list.extend.loop" ⟨[.ref S, .ref I, res], []⟩) R s := by
  intro k
  induction k with
  | zero =>
    intro i s hk hi hJ
    obtain rfl : i = n := by omega
    refine codeAny_builtin F.entry_extend_loop ?_
    rw [Around.under_plainId F.plain_extend_loop _]
    show wpAny _ A.in1 (pyNext (.ref I) >>= _) _ _ s
    exact wpAny_bind (done s _ _ hJ fun s1 h => wpAny_pure h)
  | succ k ih =>
    intro i s hk hi hJ
    refine codeAny_builtin F.entry_extend_loop ?_
    rw [Around.under_plainId F.plain_extend_loop _]
    show wpAny _ A.in1 (pyNext (.ref I) >>= _) _ _ s
    refine wpAny_bind (item i s _ _ (by omega) hJ fun v s1 acc c hS hz hJ' => ?_)
    show wpAny _ A.in1 (updateSeq S (·.push v) >>= _) _ _ _
    refine wpAny_bind (wpAny_updateSeq hS rfl (wpAny_pure ⟨plainId_quiet F.plain_extend_loop _, ih (i + 1) _ (by omega) (by omega) hJ'⟩) (by omega) (by show (acc.push v).size ≤ sizeLine + 1; rw [Array.size_push]; omega))
/-- what collect asks of the iterator -/
theorem collect_by {T : String} {I : Addr} {Q : List Value → Shared → Prop} (hl : typeLookup (.type T) "__len__" = pure none) (hn0 : typeLookup (.type T) "__length_hint__" = pure none)
    (h2 : (Value.type T == Value.type "list") = false) (h3 : (Value.type T == Value.type "tuple") = false) (hI : s.TypeIs (.ref I) T)
    (self : ∀ (h' : Heap) (Q : Value → Shared → Prop) (E : Value → Shared → Prop), (∀ b o, s.heap.get? b = some o → h'.get? b = some o) → Q (.ref I) { s with heap := h' } → wpAny (model prog w) A.in1 (pyIter (.ref I)) Q E { s with heap := h' })
    (loop : ∀ h', (∀ b o, s.heap.get? b = some o → h'.get? b = some o) → (∃ c, h'.get? s.heap.objs.size = some (lstO #[] c)) →
      codeAny (model prog w) A (.builtin "list.extend.loop" ⟨[.ref s.heap.objs.size, .ref I, .ref s.heap.objs.size], []⟩) (fun r s1 => r = .ok (.ret (.ref s.heap.objs.size)) ∧ ∃ acc c, s1.heap.get? s.heap.objs.size = some (lstO acc c) ∧ Q acc.toList s1) { s with heap := h' }) :
    wpAny (model prog w) A (collect (.ref I)) Q E s := by
  obtain ⟨oI, eI, cI⟩ := id hI
  have hSI : s.heap.objs.size ≠ I := Nat.ne_of_gt (Heap.lt_size eI)
  have hI1 : ({ s with heap := s.heap.push (lstO ([] : List Value).toArray 0) } : Shared).TypeIs (.ref I) T := ⟨oI, Heap.get?_push_of_some _ eI, cI⟩
  unfold collect
  refine wpAny_bind (wpAny_runValue (codeAny_builtin F.entry_proto_collect ?_))
  rw [Around.under_plainId F.plain_proto_collect _]
  show wpAny _ A.in1 (newList [] >>= fun l => again (.builtin "list.__iadd__" ⟨[l, .ref I], []⟩)) _ _ s
  refine wpAny_bind (wpAny_newObj_type ?_)
  refine wpAny_pure ⟨plainId_quiet F.plain_list_iadd _, codeAny_builtin F.entry_list_iadd ?_⟩
  rw [Around.under_plainId F.plain_list_iadd _]
  show wpAny _ A.in1 (Builtin.List.listExtendWith (.ref s.heap.objs.size) (.ref I) (.ref s.heap.objs.size)) _ _ _
  unfold Builtin.List.listExtendWith
  refine wpAny_bind (wpAny_typeOf hI1 ?_)
  have h1 : Builtin.List.listSameRef (.ref s.heap.objs.size) (.ref I) = false := by simp [Builtin.List.listSameRef, hSI]
  simp only [h1, h2, h3, Bool.or_false, Bool.false_eq_true, if_false]
  refine wpAny_bind (self _ _ _ (fun b o e => Heap.get?_push_of_some _ e) ?_)
  refine wpAny_bind (wpAny_holding ?_)
  unfold Builtin.List.listLengthHint
  refine wpAny_bind (wpAny_specialOf hI1 hl ?_)
  show wpAny _ A.in1 (specialOf (Value.ref I) (Str.ofString "__length_hint__") >>= _) _ _ _
  refine wpAny_bind (wpAny_specialOf hI1 hn0 ?_)
  refine wpAny_pure ?_
  show wpAny _ A.in1 (rule "list.extend.makes-room" >>= fun _ => Builtin.List.listTouch (.ref s.heap.objs.size) >>= fun _ =>
    again (.builtin "list.extend.loop" ⟨[.ref s.heap.objs.size, .ref I, .ref s.heap.objs.size], []⟩)) _ _ _
  refine wpAny_bind (wpAny_rule ?_)
  have e1 : (s.heap.push (lstO ([] : List Value).toArray 0)).get? s.heap.objs.size = some (lstO ([] : List Value).toArray 0) := Heap.get?_push_size _ rfl
  refine wpAny_bind ?_
  show wpAny _ A.in1 (updateSeq s.heap.objs.size (·.push .none) >>= fun _ => updateSeq s.heap.objs.size (·.pop)) _ _ _
  refine wpAny_bind (wpAny_updateSeq e1 rfl ?_)
  have e2 := Heap.get?_update_self (Obj.mapSeq (·.push Value.none)) e1 rfl
  refine wpAny_updateSeq e2 rfl ?_
  have e3 := Heap.get?_update_self (Obj.mapSeq (·.pop)) e2 rfl
  refine wpAny_pure ⟨plainId_quiet F.plain_extend_loop _, codeAny_mono (loop _ (fun b o e => ?_) ⟨_, e3⟩) fun r s1 hr => ?_⟩
  · have hb : s.heap.objs.size ≠ b := Nat.ne_of_gt (Heap.lt_size e)
    exact (Heap.get?_update_other _ _ hb).trans ((Heap.get?_update_other _ _ hb).trans (Heap.get?_push_of_some _ e))
  · obtain ⟨rfl, acc, c, g1, g2⟩ := hr
    show wpAny _ A (load s.heap.objs.size >>= _) _ _ s1
    refine wpAny_bind (wpAny_load g1 ?_)
    exact wpAny_pure g2
theorem code_tuple_by {T : String} {I : Addr} {Q : Value → Shared → Prop} (hl : typeLookup (.type T) "__len__" = pure none) (hn0 : typeLookup (.type T) "__length_hint__" = pure none)
    (h2 : (Value.type T == Value.type "list") = false) (h3 : (Value.type T == Value.type "tuple") = false) (hI : s.TypeIs (.ref I) T)
    (self : ∀ (h' : Heap) (Q : Value → Shared → Prop) (E : Value → Shared → Prop), (∀ b o, s.heap.get? b = some o → h'.get? b = some o) → Q (.ref I) { s with heap := h' } → wpAny (model prog w) A.in1.in1 (pyIter (.ref I)) Q E { s with heap := h' })
    (loop : ∀ h', (∀ b o, s.heap.get? b = some o → h'.get? b = some o) → (∃ c, h'.get? s.heap.objs.size = some (lstO #[] c)) →
      codeAny (model prog w) A.in1 (.builtin "list.extend.loop" ⟨[.ref s.heap.objs.size, .ref I, .ref s.heap.objs.size], []⟩) (fun r s1 => r = .ok (.ret (.ref s.heap.objs.size)) ∧ ∃ acc c, s1.heap.get? s.heap.objs.size = some (lstO acc c) ∧ acc.size ≤ sizeLine ∧ Q (.ref s1.heap.objs.size) { s1 with heap := s1.heap.push { cls := .type "tuple", data := .seq acc } }) { s with heap := h' }) :
    codeAny (model prog w) A (.call (.builtin "tuple.__new__") ⟨[.type "tuple", .ref I], []⟩) (wants Q E) s := by
  refine codeAny_of_tree ?_
  show wpAny _ A.in1 (do checkBuiltinCall "tuple.__new__" ⟨[.type "tuple", .ref I], []⟩; again (.builtin "tuple.__new__" ⟨[.type "tuple", .ref I], []⟩)) _ _ s
  refine wpAny_bind (wpAny_of_eq (F.newCall_tuple_1 _) (wpAny_pure ⟨plainId_quiet F.plain_tuple_new _, codeAny_builtin F.entry_tuple_new ?_⟩))
  rw [Around.under_plainId F.plain_tuple_new _]
  have hsub := sub_tuple_self
  have hinit := init_tuple_lookup
  have hmh := madeHere_tuple
  have hT3 : (Value.type T == Value.type "tuple") = false := h3
  have col : ∀ {Q' : List Value → Shared → Prop} {E' : Value → Shared → Prop}, (∀ s1 acc c, s1.heap.get? s.heap.objs.size = some (lstO acc c) → acc.size ≤ sizeLine → Q (.ref s1.heap.objs.size) { s1 with heap := s1.heap.push { cls := .type "tuple", data := .seq acc } } → Q' acc.toList s1) → wpAny (model prog w) A.in1 (collect (.ref I)) Q' E' s := fun q =>
    collect_by hl hn0 h2 h3 hI self fun h' k e => codeAny_mono (loop h' k e) fun r s1 ⟨x1, acc, c, x2, x3, x4⟩ => ⟨x1, acc, c, x2, q s1 acc c x2 x3 x4⟩
  wp_walk using wpAny_typeOf hI, col
  intro s1 acc c g1 g2 g3
  show wpAny _ _ (Builtin.Tuple.tupleExact acc.toList.toArray >>= fun v => ret v) _ _ _
  unfold Builtin.Tuple.tupleExact
  refine wpAny_bind (wpAny_newObj_type ?_ (by show acc.toList.toArray.size ≤ sizeLine; simp only [Array.toArray_toList]; exact g2))
  refine wpAny_pure ?_
  have e : acc.toList.toArray = acc := by simp
  rw [e]
  exact g3
end
end Dn
end
section
set_option maxHeartbeats 4000000
/-! one more pair of an enumerate, of a zip, whose last pair is still out. -/
namespace Dn
open PySem PySem.Spec PyProof.Rows L2
section
variable {prog : Program} {w : World} {A : Around} {E : Value → Shared → Prop} {s : Shared}
theorem call_tuple_by {T : String} {I : Addr} {Q : Value → Shared → Prop} (hl : typeLookup (.type T) "__len__" = pure none) (hn0 : typeLookup (.type T) "__length_hint__" = pure none)
    (h2 : (Value.type T == Value.type "list") = false) (h3 : (Value.type T == Value.type "tuple") = false) (hI : s.TypeIs (.ref I) T)
    (self : ∀ (h' : Heap) (Q : Value → Shared → Prop) (E : Value → Shared → Prop), (∀ b o, s.heap.get? b = some o → h'.get? b = some o) → Q (.ref I) { s with heap := h' } → wpAny (model prog w) A.in1.in1.in1 (pyIter (.ref I)) Q E { s with heap := h' })
    (loop : ∀ h', (∀ b o, s.heap.get? b = some o → h'.get? b = some o) → (∃ c, h'.get? s.heap.objs.size = some (lstO #[] c)) →
      codeAny (model prog w) A.in1.in1 (.builtin "list.extend.loop" ⟨[.ref s.heap.objs.size, .ref I, .ref s.heap.objs.size], []⟩) (fun r s1 => r = .ok (.ret (.ref s.heap.objs.size)) ∧ ∃ acc c, s1.heap.get? s.heap.objs.size = some (lstO acc c) ∧ acc.size ≤ sizeLine ∧ Q (.ref s1.heap.objs.size) { s1 with heap := s1.heap.push { cls := .type "tuple", data := .seq acc } }) { s with heap := h' }) :
    wpAny (model prog w) A (call (.type "tuple") [.ref I]) Q E s := by
  refine callType_codes (Q₁ := fun obj s₁ => s₁.TypeIs obj "tuple" ∧ Q obj s₁) F.called_tuple (F.typeCall_tuple_1 _) F.entry_object_init
    (code_tuple_by hl hn0 h2 h3 hI self fun h' k e => codeAny_mono (loop h' k e) fun r s1 ⟨x1, acc, c, x2, x3, x4⟩ => ⟨x1, acc, c, x2, x3, ⟨_, Heap.get?_push_size _ rfl, rfl⟩, x4⟩) fun obj s₁ h₁ => ?_
  exact ⟨h₁.1, F.args_object_init_2 obj _, object_init_meets F.called_tuple.init.lookup F.called_tuple.made (by decide) prog w A.in1 _ s₁ ⟨h₁.1, rfl, h₁.2⟩⟩
/-! ### enumerate -/
theorem en_held_item {e it T : Addr} {fp : List Addr} {n i : Nat} {c : Int} {P : Nat → Value → Prop} {St : Nat → Heap → Prop} {old : Value} {f : Bool} {oT : Obj} {Q : Value → Shared → Prop}
    (D : Draws prog w A it fp n P St) (he : IsEnumHeld s.heap e it c old T f) (hT : s.heap.get? T = some oT) (hTe : T ≠ e) (hTi : T ≠ it) (hst : St i s.heap) (hlt : i < n) (hne : e ≠ it) (hef : e ∉ fp)
    (hQ : ∀ x h' tk, P i x → IsEnumHeld h' e it (c + 1) old T true → St (i + 1) h' → h'.get? s.heap.objs.size = some { cls := .type "tuple", data := .seq #[.int c tk, x] } → h'.objs.size = s.heap.objs.size + 1 →
      (∀ b o, b ≠ e → b ≠ it → s.heap.get? b = some o → h'.get? b = some o) → Q (.ref s.heap.objs.size) { s with heap := h', toks := tk + 1 }) :
    wpAny (model prog w) A (Builtin.«enumerate.__next__» ⟨[.ref e], []⟩) (fun fin s' => ∃ v, fin = .done (.ret v) ∧ Q v s') E s := by
  obtain ⟨hp, g, d, tk0, os⟩ := s
  show wpAny _ _ (field (.ref e) 2 >>= _) _ _ _
  refine wpAny_bind (wpAny_field he rfl (x := .ref it) rfl ?_)
  refine wpAny_bind (D.item i _ _ _ hlt hst fun x g1 tk px st1 b1 => ?_)
  replace b1 : Heap.SameBut it hp g1 := b1
  have e1 : IsEnumHeld g1 e it c old T f := (b1.2 e hne).trans he
  show wpAny _ _ (field (.ref e) 3 >>= _) _ _ ⟨g1, g, d, tk, os⟩
  refine wpAny_bind (wpAny_field e1 rfl (x := rawInt c) rfl ?_)
  show wpAny _ _ (field (.ref e) 4 >>= _) _ _ ⟨g1, g, d, tk, os⟩
  refine wpAny_bind (wpAny_field e1 rfl (x := .none) rfl ?_)
  show wpAny _ _ (mkInt c >>= _) _ _ ⟨g1, g, d, tk, os⟩
  refine wpAny_bind (wpAny_mkInt ?_)
  show wpAny _ _ (setField (.ref e) 3 (rawInt (c + 1)) >>= _) _ _ ⟨g1, g, d, tk + 1, os⟩
  refine wpAny_bind (wpAny_setField_rec e1 (by simp) fun g2 e2 b2 => ?_)
  replace b2 : Heap.SameBut e g1 g2 := b2
  replace e2 : IsEnumHeld g2 e it (c + 1) old T f := e2
  show wpAny _ _ (setField (.ref e) 4 .none >>= _) _ _ ⟨g2, g, d, tk + 1, os⟩
  refine wpAny_bind (wpAny_setField_rec e2 (by simp) fun g3 e3 b3 => ?_)
  replace b3 : Heap.SameBut e g2 g3 := b3
  replace e3 : IsEnumHeld g3 e it (c + 1) old T f := e3
  show wpAny _ _ (newTuple [.int c tk, x] >>= _) _ _ ⟨g3, g, d, tk + 1, os⟩
  refine wpAny_bind (wpAny_newTuple ?_)
  have sz : g3.objs.size = hp.objs.size := by rw [b3.1, b2.1, b1.1]
  have hel : e < hp.objs.size := Heap.lt_size he
  have up : ∀ b o, b ≠ e → b ≠ it → hp.get? b = some o → (g3.push { cls := .type "tuple", data := .seq #[.int c tk, x] }).get? b = some o := fun b o n1 n2 h =>
    Heap.get?_push_of_some _ (b3.extBut b o n1 (b2.extBut b o n1 (b1.extBut b o n2 h)))
  have stp : St (i + 1) (g3.push { cls := .type "tuple", data := .seq #[.int c tk, x] }) := D.frame _ _ _ st1 fun b hb o y => by
    have n1 : b ≠ e := fun q => hef (q ▸ hb)
    exact Heap.get?_push_of_some _ (b3.extBut b o n1 (b2.extBut b o n1 y))
  have tp : (g3.push { cls := .type "tuple", data := .seq #[.int c tk, x] }).get? hp.objs.size = some { cls := .type "tuple", data := .seq #[.int c tk, x] } := by rw [← sz]; exact Heap.get?_push_size _ rfl
  have zp : (g3.push { cls := .type "tuple", data := .seq #[.int c tk, x] }).objs.size = hp.objs.size + 1 := by rw [Heap.size_push, sz]
  have ep : IsEnumHeld (g3.push { cls := .type "tuple", data := .seq #[.int c tk, x] }) e it (c + 1) old T f := Heap.get?_push_of_some _ e3
  generalize g3.push { cls := .type "tuple", data := .seq #[.int c tk, x] } = g4 at up stp tp zp ep ⊢
  show wpAny _ _ (Builtin.SmallTypes.ownedTupleIsFree (.ref e) >>= _) _ _ ⟨g4, g, d, tk + 1, os⟩
  rw [sz]
  refine wpAny_bind (wpAny_tupleHeld_enum (s := ⟨g4, g, d, tk + 1, os⟩) ep (up T oT hTe hTi hT) fun g5 e5 b5 => ?_)
  replace b5 : Heap.SameBut e g4 g5 := b5
  simp only [Bool.false_eq_true, if_false]
  refine wpAny_pure ⟨_, rfl, hQ x g5 tk px e5 (D.frame _ _ _ stp fun b hb o y => b5.extBut b o (fun q => hef (q ▸ hb)) y) (b5.extBut _ _ (Nat.ne_of_gt hel) tp) ?_ fun b o n1 n2 h => b5.extBut b o n1 (up b o n1 n2 h)⟩
  show g5.objs.size = hp.objs.size + 1
  rw [b5.1, zp]
theorem en_held_done {e it T : Addr} {fp : List Addr} {n : Nat} {c : Int} {P : Nat → Value → Prop} {St : Nat → Heap → Prop} {old : Value} {f : Bool} {Q : Option Value → Shared → Prop}
    (D : Draws prog w A.in1 it fp n P St) (he : IsEnumHeld s.heap e it c old T f) (hst : St n s.heap) (hQ : ∀ h', Heap.ExtBut it s.heap h' → Q none { s with heap := h' }) :
    wpAny (model prog w) A (pyNext (.ref e)) Q E s := by
  have hTy : s.TypeIs (.ref e) "enumerate" := ⟨_, he, rfl⟩
  unfold pyNext
  refine wpAny_bind (wpAny_attempt (wpAny_callSpecial?_slot (name := Str.ofString "__next__") hTy F.slot_enumerate_next
    (wpAny_call_entry F.slot_enumerate_next hTy F.entry_enumerate_next ?_ (F.args_enumerate_next_1 _))))
  show wpAny _ _ (field (.ref e) 2 >>= _) _ _ _
  refine wpAny_bind (wpAny_field he rfl (x := .ref it) rfl ?_)
  refine wpAny_bind (D.done _ _ _ hst fun h' x he' hx' => ?_)
  obtain ⟨o, ho, hc⟩ := hx'
  refine wpAny_bind (wpAny_isInstance (T := "StopIteration") (b := true) ⟨o, ho, hc⟩ isSubtype_stop ?_)
  exact wpAny_pure (hQ _ he')
/-- an enumerate, whether nothing is out yet or the last pair still is -/
def EnSt (e it : Addr) (S : Addr) (i : Nat) (h : Heap) : Prop := (∃ old, IsEnum h e it (i : Nat) old) ∨ ∃ old T f oT, IsEnumHeld h e it (i : Nat) old T f ∧ h.get? T = some oT ∧ T ≠ e ∧ T ≠ it ∧ T ≠ S
theorem EnSt.keep {e it S : Addr} {i : Nat} {h h' : Heap} (x : EnSt e it S i h) (he : e ≠ S) (k : ∀ b o, b ≠ S → h.get? b = some o → h'.get? b = some o) : EnSt e it S i h' := by
  rcases x with ⟨old, x⟩ | ⟨old, T, f, oT, x1, x2, x3, x4, x5⟩
  · exact .inl ⟨old, k _ _ he x⟩
  · exact .inr ⟨old, T, f, oT, k _ _ he x1, k _ _ x5 x2, x3, x4, x5⟩
theorem en_item {e it S : Addr} {fp : List Addr} {n i : Nat} {P : Nat → Value → Prop} {St : Nat → Heap → Prop} {oS : Obj} {Q : Option Value → Shared → Prop}
    (D : Draws prog w A.in1 it fp n P St) (he : EnSt e it S i s.heap) (hS : s.heap.get? S = some oS) (hit : it < s.heap.objs.size) (hst : St i s.heap) (hlt : i < n) (hne : e ≠ it) (hef : e ∉ fp)
    (hQ : ∀ x h' tk, P i x → EnSt e it S (i + 1) h' → St (i + 1) h' → h'.get? s.heap.objs.size = some { cls := .type "tuple", data := .seq #[.int (i : Nat) tk, x] } → h'.objs.size = s.heap.objs.size + 1 →
      (∀ b o, b ≠ e → b ≠ it → s.heap.get? b = some o → h'.get? b = some o) → Q (some (.ref s.heap.objs.size)) { s with heap := h', toks := tk + 1 }) :
    wpAny (model prog w) A (pyNext (.ref e)) Q E s := by
  have sl := Heap.lt_size hS
  rcases he with ⟨old, he⟩ | ⟨old, T, f, oT, he, hT, n1, n2, n3⟩
  · have el := Heap.lt_size he
    refine wpAny_pyNext_enum_itemC D he hst hlt hne hef fun x h' tk a b c d k q => hQ x h' tk a (.inr ⟨x, s.heap.objs.size, false, _, b, d, Nat.ne_of_gt el, Nat.ne_of_gt hit, Nat.ne_of_gt sl⟩) c d k q
  · have hTy : s.TypeIs (.ref e) "enumerate" := ⟨_, he, rfl⟩
    unfold pyNext
    exact wpAny_bind (wpAny_attempt (wpAny_callSpecial?_slot (name := Str.ofString "__next__") hTy F.slot_enumerate_next
      (wpAny_call_entry F.slot_enumerate_next hTy F.entry_enumerate_next
        (en_held_item D he hT n1 n2 hst hlt hne hef fun x h' tk a b c d k q => wpAny_pure (hQ x h' tk a (.inr ⟨old, T, true, oT, b, q T oT n1 n2 hT, n1, n2, n3⟩) c d k q)) (F.args_enumerate_next_1 _))))
theorem en_done {e it S : Addr} {fp : List Addr} {n : Nat} {P : Nat → Value → Prop} {St : Nat → Heap → Prop} {Q : Option Value → Shared → Prop}
    (D : Draws prog w A.in1 it fp n P St) (he : EnSt e it S n s.heap) (hst : St n s.heap) (hQ : ∀ h', Heap.ExtBut it s.heap h' → Q none { s with heap := h' }) :
    wpAny (model prog w) A (pyNext (.ref e)) Q E s := by
  rcases he with ⟨old, he⟩ | ⟨old, T, f, oT, he, hT, n1, n2, n3⟩
  · exact wpAny_pyNext_enum_endD D he hst hQ
  · exact en_held_done D he hst hQ
end
end Dn
end
section
set_option maxHeartbeats 4000000
namespace Dn
open PySem PySem.Spec PyProof.Rows L2
section
variable {prog : Program} {w : World} {A : Around} {E : Value → Shared → Prop} {s : Shared} {z TI TO i1 i2 : Addr} {fp1 fp2 : List Addr} {n1 n2 i : Nat} {P1 P2 : Nat → Value → Prop} {St1 St2 : Nat → Heap → Prop} {a1 a2 : Value}
theorem zip_held_item {T : Addr} {f : Bool} {oT : Obj} {Q : Value → Shared → Prop} (S : ZipSep2 z TI TO i1 i2 fp1 fp2) (D1 : Draws prog w A i1 fp1 n1 P1 St1) (D2 : Draws prog w A i2 fp2 n2 P2 St2)
    (hz : IsZipHeld s.heap z TI TO T f) (hT : s.heap.get? T = some oT) (hTI : IsTupOf2 s.heap TI (.ref i1) (.ref i2)) (st1 : St1 i s.heap) (st2 : St2 i s.heap) (hlt1 : i < n1) (hlt2 : i < n2)
    (hQ : ∀ x1 x2 h' tk, P1 i x1 → P2 i x2 → IsZipHeld h' z TI TO T true → St1 (i + 1) h' → St2 (i + 1) h' → IsTupOf2 h' s.heap.objs.size x1 x2 → h'.objs.size = s.heap.objs.size + 1 →
      (∀ c o, c ≠ z → c ≠ i1 → c ≠ i2 → s.heap.get? c = some o → h'.get? c = some o) → Q (.ref s.heap.objs.size) { s with heap := h', toks := tk }) :
    wpAny (model prog w) A (Builtin.«zip.__next__» ⟨[.ref z], []⟩) (fun fin s' => ∃ v, fin = .done (.ret v) ∧ Q v s') E s := by
  obtain ⟨hp, g, d, tk0, os⟩ := s
  show wpAny _ _ (field (.ref z) 2 >>= _) _ _ _
  refine wpAny_bind (wpAny_field hz rfl (x := .bool false) rfl ?_)
  show wpAny _ _ (field (.ref z) 3 >>= _) _ _ _
  refine wpAny_bind (wpAny_field hz rfl (x := .ref TI) rfl ?_)
  refine wpAny_bind (wpAny_seqItems hTI rfl ?_)
  show wpAny _ _ (Builtin.SmallTypes.ownedTupleIsFree (.ref z) >>= _) _ _ _
  refine wpAny_bind (wpAny_tupleHeld_zip hz hT fun g0 z0 b0 => ?_)
  replace b0 : Heap.SameBut z hp g0 := b0
  simp only [Bool.false_eq_true, if_false]
  refine wpAny_bind ?_
  rw [← Array.forIn_toList]
  simp only [List.forIn_cons, List.forIn_nil]
  refine wpAny_bind (wpAny_bind (wpAny_holding ?_))
  show wpAny _ _ (Builtin.SmallTypes.nextOf (.ref i1) >>= _) _ _ ⟨g0, g, d, tk0, os⟩
  refine wpAny_bind (D1.item i ⟨g0, g, d, tk0, os⟩ _ _ hlt1 (D1.over st1 b0 S.zf1) fun x1 g1 tk1 p1 s1 b1 => wpAny_pure ?_)
  replace b1 : Heap.SameBut i1 g0 g1 := b1
  refine wpAny_pure ?_
  refine wpAny_bind (wpAny_bind (wpAny_holding ?_))
  show wpAny _ _ (Builtin.SmallTypes.nextOf (.ref i2) >>= _) _ _ ⟨g1, g, d, tk1, os⟩
  refine wpAny_bind (D2.item i ⟨g1, g, d, tk1, os⟩ _ _ hlt2 (D2.over (D2.over st2 b0 S.zf2) b1 S.sep1_2) fun x2 g2 tk2 p2 s2 b2 => wpAny_pure ?_)
  replace b2 : Heap.SameBut i2 g1 g2 := b2
  refine wpAny_pure (wpAny_pure ?_)
  show wpAny _ _ (newTuple [x1, x2] >>= _) _ _ ⟨g2, g, d, tk2, os⟩
  refine wpAny_bind (wpAny_newTuple ?_)
  have sz : g2.objs.size = hp.objs.size := by rw [b2.1, b1.1, b0.1]
  have z2 : IsZipHeld g2 z TI TO T true := b2.extBut _ _ S.zi2 (b1.extBut _ _ S.zi1 z0)
  have up : ∀ c o, c ≠ z → c ≠ i1 → c ≠ i2 → hp.get? c = some o → g2.get? c = some o := fun c o c1 c2 c3 e => b2.extBut _ _ c3 (b1.extBut _ _ c2 (b0.extBut _ _ c1 e))
  have s1' : St1 (i + 1) g2 := D1.over s1 b2 S.sep2_1
  refine wpAny_pure ⟨_, rfl, ?_⟩
  show Q (.ref g2.objs.size) _
  have tp : IsTupOf2 (g2.push { cls := .type "tuple", data := .seq #[x1, x2] }) g2.objs.size x1 x2 := Heap.get?_push_size _ rfl
  have zp : (g2.push { cls := .type "tuple", data := .seq #[x1, x2] }).objs.size = g2.objs.size + 1 := Heap.size_push ..
  rw [sz] at tp zp ⊢
  exact hQ x1 x2 _ tk2 p1 p2 (Heap.get?_push_of_some _ z2) (D1.frame _ _ _ s1' fun b _ o e => Heap.get?_push_of_some _ e) (D2.frame _ _ _ s2 fun b _ o e => Heap.get?_push_of_some _ e) tp zp fun c o c1 c2 c3 e => Heap.get?_push_of_some _ (up c o c1 c2 c3 e)
theorem zip_held_done {T : Addr} {f : Bool} {oT : Obj} {Q : Option Value → Shared → Prop} (S : ZipSep2 z TI TO i1 i2 fp1 fp2) (D1 : Draws prog w A.in1 i1 fp1 n1 P1 St1) (D2 : Draws prog w A.in1 i2 fp2 n2 P2 St2)
    (hz : IsZipHeld s.heap z TI TO T f) (hT : s.heap.get? T = some oT) (hTI : IsTupOf2 s.heap TI (.ref i1) (.ref i2)) (st1 : St1 i s.heap) (st2 : St2 i s.heap) (hle1 : i ≤ n1) (hle2 : i ≤ n2) (hend : i = n1 ∨ i = n2)
    (hQ : ∀ h' tk, (∀ c o, c ≠ z → c ≠ i1 → c ≠ i2 → s.heap.get? c = some o → h'.get? c = some o) → Q none { s with heap := h', toks := tk }) :
    wpAny (model prog w) A (pyNext (.ref z)) Q E s := by
  obtain ⟨hp, g, d, tk0, os⟩ := s
  have hTy : (⟨hp, g, d, tk0, os⟩ : Shared).TypeIs (.ref z) "zip" := ⟨_, hz, rfl⟩
  unfold pyNext
  refine wpAny_bind (wpAny_attempt (wpAny_callSpecial?_slot (name := Str.ofString "__next__") hTy F.slot_zip_next
    (wpAny_call_entry F.slot_zip_next hTy F.entry_zip_next ?_ (F.args_zip_next_1 _))))
  show wpAny _ _ (field (.ref z) 2 >>= _) _ _ _
  refine wpAny_bind (wpAny_field hz rfl (x := .bool false) rfl ?_)
  show wpAny _ _ (field (.ref z) 3 >>= _) _ _ _
  refine wpAny_bind (wpAny_field hz rfl (x := .ref TI) rfl ?_)
  refine wpAny_bind (wpAny_seqItems hTI rfl ?_)
  show wpAny _ _ (Builtin.SmallTypes.ownedTupleIsFree (.ref z) >>= _) _ _ _
  refine wpAny_bind (wpAny_tupleHeld_zip hz hT fun g0 z0 b0 => ?_)
  replace b0 : Heap.SameBut z hp g0 := b0
  simp only [Bool.false_eq_true, if_false]
  refine wpAny_bind ?_
  rw [← Array.forIn_toList]
  simp only [List.forIn_cons, List.forIn_nil]
  refine wpAny_bind (wpAny_bind (wpAny_holding ?_))
  show wpAny _ _ (Builtin.SmallTypes.nextOf (.ref i1) >>= _) _ _ ⟨g0, g, d, tk0, os⟩
  by_cases hlt1 : i < n1
  · refine wpAny_bind (D1.item i ⟨g0, g, d, tk0, os⟩ _ _ hlt1 (D1.over st1 b0 S.zf1) fun x1 g1 tk1 p1 s1 b1 => wpAny_pure ?_)
    replace b1 : Heap.SameBut i1 g0 g1 := b1
    refine wpAny_pure ?_
    refine wpAny_bind (wpAny_bind (wpAny_holding ?_))
    show wpAny _ _ (Builtin.SmallTypes.nextOf (.ref i2) >>= _) _ _ ⟨g1, g, d, tk1, os⟩
    have e2 : i = n2 := by omega
    refine wpAny_bind (D2.done ⟨g1, g, d, tk1, os⟩ _ _ (by rw [← e2]; exact D2.over (D2.over st2 b0 S.zf2) b1 S.sep1_2) fun q x hq hx => ?_)
    replace hq : Heap.ExtBut i2 g1 q := hq
    obtain ⟨o, ho, hc⟩ := hx
    refine wpAny_bind (wpAny_isInstance (T := "StopIteration") (b := true) ⟨o, ho, hc⟩ isSubtype_stop ?_)
    exact wpAny_pure (hQ q tk1 fun c o cz c1 c2 y => hq _ _ c2 (b1.extBut _ _ c1 (b0.extBut _ _ cz y)))
  · have e1 : i = n1 := by omega
    refine wpAny_bind (D1.done ⟨g0, g, d, tk0, os⟩ _ _ (by rw [← e1]; exact D1.over st1 b0 S.zf1) fun q x hq hx => ?_)
    replace hq : Heap.ExtBut i1 g0 q := hq
    obtain ⟨o, ho, hc⟩ := hx
    refine wpAny_bind (wpAny_isInstance (T := "StopIteration") (b := true) ⟨o, ho, hc⟩ isSubtype_stop ?_)
    exact wpAny_pure (hQ q tk0 fun c o cz c1 c2 y => hq _ _ c1 (b0.extBut _ _ cz y))
/-- a zip, whether nothing is out yet or the last pair still is -/
def ZiSt (z TI TO i1 i2 : Addr) (S : Addr) (h : Heap) : Prop := IsTupOf2 h TI (.ref i1) (.ref i2) ∧ (∃ a b, IsTupOf2 h TO a b) ∧
  (IsZip h z TI TO .none ∨ ∃ T f oT, IsZipHeld h z TI TO T f ∧ h.get? T = some oT ∧ T ≠ z ∧ T ≠ i1 ∧ T ≠ i2 ∧ T ≠ S)
theorem ZiSt.keep {S : Addr} {h h' : Heap} (x : ZiSt z TI TO i1 i2 S h) (hs : z ≠ S ∧ TI ≠ S ∧ TO ≠ S) (k : ∀ b o, b ≠ S → h.get? b = some o → h'.get? b = some o) : ZiSt z TI TO i1 i2 S h' := by
  obtain ⟨y1, ⟨a, b, y2⟩, x⟩ := x
  refine ⟨k _ _ hs.2.1 y1, ⟨a, b, k _ _ hs.2.2 y2⟩, ?_⟩
  rcases x with x | ⟨T, f, oT, x1, x2, x3, x4, x5, x6⟩
  · exact .inl (k _ _ hs.1 x)
  · exact .inr ⟨T, f, oT, k _ _ hs.1 x1, k _ _ x6 x2, x3, x4, x5, x6⟩
theorem zi_item {S : Addr} {oS : Obj} {Q : Option Value → Shared → Prop} (Sp : ZipSep2 z TI TO i1 i2 fp1 fp2) (D1 : Draws prog w A.in1 i1 fp1 n1 P1 St1) (D2 : Draws prog w A.in1 i2 fp2 n2 P2 St2)
    (hz : ZiSt z TI TO i1 i2 S s.heap) (hS : s.heap.get? S = some oS) (st1 : St1 i s.heap) (st2 : St2 i s.heap) (hlt1 : i < n1) (hlt2 : i < n2)
    (hQ : ∀ x1 x2 h' tk, P1 i x1 → P2 i x2 → ZiSt z TI TO i1 i2 S h' → St1 (i + 1) h' → St2 (i + 1) h' → IsTupOf2 h' s.heap.objs.size x1 x2 → h'.objs.size = s.heap.objs.size + 1 →
      (∀ c o, c ≠ z → c ≠ TO → c ≠ i1 → c ≠ i2 → s.heap.get? c = some o → h'.get? c = some o) → Q (some (.ref s.heap.objs.size)) { s with heap := h', toks := tk }) :
    wpAny (model prog w) A (pyNext (.ref z)) Q E s := by
  have sl := Heap.lt_size hS
  obtain ⟨o1, l1⟩ := D1.live _ _ st1
  obtain ⟨o2, l2⟩ := D2.live _ _ st2
  have l1 := Heap.lt_size l1
  have l2 := Heap.lt_size l2
  obtain ⟨y1, ⟨a, b, y2⟩, x⟩ := hz
  rcases x with x | ⟨T, f, oT, x1, x2, x3, x4, x5, x6⟩
  · have zl := Heap.lt_size x
    refine wpAny_pyNext_zipD2_item Sp D1 D2 x y1 y2 st1 st2 hlt1 hlt2 fun u1 u2 h' tk q1 q2 q3 q4 q5 q6 q7 q8 q9 => hQ u1 u2 h' tk q1 q2 ⟨?_, ⟨_, _, q4⟩, .inr ⟨s.heap.objs.size, false, _, q3, q7, Nat.ne_of_gt zl, Nat.ne_of_gt l1, Nat.ne_of_gt l2, Nat.ne_of_gt sl⟩⟩ q5 q6 q7 q8 q9
    exact q9 _ _ Sp.TIz Sp.TITO Sp.TIi1 Sp.TIi2 y1
  · have hTy : s.TypeIs (.ref z) "zip" := ⟨_, x1, rfl⟩
    unfold pyNext
    exact wpAny_bind (wpAny_attempt (wpAny_callSpecial?_slot (name := Str.ofString "__next__") hTy F.slot_zip_next
      (wpAny_call_entry F.slot_zip_next hTy F.entry_zip_next
        (zip_held_item Sp D1 D2 x1 x2 y1 st1 st2 hlt1 hlt2 fun u1 u2 h' tk q1 q2 q3 q4 q5 q6 q7 q8 => wpAny_pure (hQ u1 u2 h' tk q1 q2 ⟨q8 _ _ Sp.TIz Sp.TIi1 Sp.TIi2 y1, ⟨a, b, q8 _ _ Sp.TOz Sp.Ti1 Sp.Ti2 y2⟩, .inr ⟨T, true, oT, q3, q8 _ _ x3 x4 x5 x2, x3, x4, x5, x6⟩⟩ q4 q5 q6 q7 fun c o c1 _ c3 c4 e => q8 c o c1 c3 c4 e)) (F.args_zip_next_1 _))))
theorem zi_done {S : Addr} {Q : Option Value → Shared → Prop} (Sp : ZipSep2 z TI TO i1 i2 fp1 fp2) (D1 : Draws prog w A.in1 i1 fp1 n1 P1 St1) (D2 : Draws prog w A.in1 i2 fp2 n2 P2 St2)
    (hz : ZiSt z TI TO i1 i2 S s.heap) (st1 : St1 i s.heap) (st2 : St2 i s.heap) (hle1 : i ≤ n1) (hle2 : i ≤ n2) (hend : i = n1 ∨ i = n2)
    (hQ : ∀ h' tk, (∀ c o, c ≠ z → c ≠ TO → c ≠ i1 → c ≠ i2 → s.heap.get? c = some o → h'.get? c = some o) → Q none { s with heap := h', toks := tk }) :
    wpAny (model prog w) A (pyNext (.ref z)) Q E s := by
  obtain ⟨y1, ⟨a, b, y2⟩, x⟩ := hz
  rcases x with x | ⟨T, f, oT, x1, x2, x3, x4, x5, x6⟩
  · exact wpAny_pyNext_zipD2_end Sp D1 D2 x y1 y2 st1 st2 hle1 hle2 hend hQ
  · exact zip_held_done Sp D1 D2 x1 x2 y1 st1 st2 hle1 hle2 hend fun h' tk q => hQ h' tk fun c o c1 _ c3 c4 e => q c o c1 c3 c4 e
end
end Dn
end
section
set_option maxHeartbeats 4000000
namespace Dn
open PySem PySem.Spec PyProof.Rows L2
/-- fresh pairs, one behind another -/
inductive Prs : Hp → List (V × V) → List Addr → Hp → Prop
  | nil {H : Hp} : Prs H [] [] H
  | snoc {H H' : Hp} {ps : List (V × V)} {ts : List Addr} {p : V × V} {T : Addr} : Prs H ps ts H' → H' T = none → Prs H (ps ++ [p]) (ts ++ [T]) (upd H' T (.tup [p.1, p.2]))
theorem Prs.ex {H H' : Hp} {ps : List (V × V)} {ts : List Addr} (x : Prs H ps ts H') : Ex H H' := by
  induction x with
  | nil => exact Ex.refl _
  | snoc a b ih => exact ih.trans (Ex.new b)
/-- an iterator that gives these pairs, each in a new tuple -/
structure Giv (X : Cx) (I S : Addr) (fp : List Addr) (n : Nat) (ps : List (V × V)) (G : Hp → Prop) (St : Nat → Heap → Prop) : Prop where
  out : S ∉ fp
  mono : ∀ H H', G H → Ex H H' → G H'
  keep : ∀ i h h', St i h → (∀ b o, b ≠ S → h.get? b = some o → h'.get? b = some o) → St i h'
  live : ∀ i h, St i h → ∀ b ∈ fp, b < h.objs.size
  item : ∀ (A : Around) (i : Nat) (pins : List (Addr × Obj)) (s : Shared) (σ : L2.St) (H : Hp) (Q : Option Value → Shared → Prop) (E : Value → Shared → Prop), A.handled = none → Inv X pins σ H s → G H → (∃ o, s.heap.get? S = some o) → St i s.heap → i < n →
    (∀ p u1 u2 h' tk, ps[i]? = some p → RelV p.1 u1 → RelV p.2 u2 → St (i + 1) h' → IsTupOf2 h' s.heap.objs.size u1 u2 → h'.objs.size = s.heap.objs.size + 1 →
      (∀ b o, b ∉ fp → s.heap.get? b = some o → h'.get? b = some o) → Q (some (.ref s.heap.objs.size)) { s with heap := h', toks := tk }) → wpAny (model X.prog X.w) A (pyNext (.ref I)) Q E s
  done : ∀ (A : Around) (pins : List (Addr × Obj)) (s : Shared) (σ : L2.St) (H : Hp) (Q : Option Value → Shared → Prop) (E : Value → Shared → Prop), A.handled = none → Inv X pins σ H s → G H → St n s.heap →
    (∀ h' tk, (∀ b o, b ∉ fp → s.heap.get? b = some o → h'.get? b = some o) → Q none { s with heap := h', toks := tk }) → wpAny (model X.prog X.w) A (pyNext (.ref I)) Q E s
theorem Giv.tuple {X : Cx} {I : Addr} {T : String} {fp : List Addr} {ps : List (V × V)} {G : Hp → Prop} {St : Nat → Heap → Prop} {pins : List (Addr × Obj)} {σ : L2.St} {H : Hp} {s : Shared} {Q : VK} {E : Value → Shared → Prop}
    (g : Giv X I s.heap.objs.size fp ps.length ps G St) (hn : ps.length ≤ sizeLine) (J : Inv X pins σ H s) (hG : G H) (hst : St 0 s.heap) (hf : ∀ b ∈ fp, FpOk X pins H b) (hh : X.A.in1.handled = none)
    (hl : typeLookup (.type T) "__len__" = pure none) (hn0 : typeLookup (.type T) "__length_hint__" = pure none) (h2 : (Value.type T == Value.type "list") = false) (h3 : (Value.type T == Value.type "tuple") = false) (hI : s.TypeIs (.ref I) T)
    (self : ∀ (A : Around) (h' : Heap) (Q : Value → Shared → Prop) (E : Value → Shared → Prop), (∀ b o, s.heap.get? b = some o → h'.get? b = some o) → Q (.ref I) { s with heap := h' } → wpAny (model X.prog X.w) A (pyIter (.ref I)) Q E { s with heap := h' })
    (hQ : ∀ ts H' p, Prs H ps ts H' → H' p = none → Q (.ref p) (upd H' p (.tup (ts.map V.ref)))) :
    wpAny (model X.prog X.w) X.A (call (.type "tuple") [.ref I]) (EP X pins σ Q) E s := by
  refine call_tuple_by hl hn0 h2 h3 hI (self _) fun h0 k0 e0 => ?_
  obtain ⟨c0, e0⟩ := e0
  have J0 : Inv X pins σ H { s with heap := h0 } := J.kept (t' := s.toks) k0
  have fS : FpOk X pins H s.heap.objs.size := J.fpOk (Nat.le_refl _) (J.hok.fresh (Nat.le_refl _))
  refine ext_loop (n := ps.length) (J := fun i s1 => ∃ (H1 : Hp) (ts : List Addr) (acc : Array Value) (c : Nat), Inv X pins σ H1 s1 ∧ Prs H (ps.take i) ts H1 ∧ s1.heap.get? s.heap.objs.size = some (lstO acc c) ∧ acc.toList = ts.map Value.ref ∧ acc.size = i ∧ FpOk X pins H1 s.heap.objs.size ∧ (∀ b ∈ fp, FpOk X pins H1 b) ∧ St i s1.heap) hn ?_ ?_ _ 0 _ rfl (Nat.zero_le _)
    ⟨H, [], #[], c0, J0, by simpa using Prs.nil, e0, rfl, rfl, fS, hf, g.keep _ _ _ hst fun b o _ e => k0 b o e⟩
  · intro i s1 Q1 E1 hi ⟨H1, ts, acc, c, J1, pr, eS, ea, ez, f1, f2, st⟩ hq
    refine g.item _ i pins s1 σ H1 _ _ hh J1 (g.mono _ _ hG pr.ex) ⟨_, eS⟩ st hi fun p u1 u2 h' tk e1 r1 r2 st' hT hz kk => ?_
    have sl := Heap.lt_size eS
    have eS' : h'.get? s.heap.objs.size = some (lstO acc c) := kk _ _ g.out eS
    have new : ObjOk X.prog X.w (upd H1 s1.heap.objs.size (.tup [p.1, p.2])) h' s1.heap.objs.size (.tup [p.1, p.2]) :=
      ⟨by show 2 ≤ sizeLine; decide, [u1, u2], .cons r1 (.cons r2 .nil), ⟨_, hT, rfl, _, rfl⟩⟩
    have J2 : Inv X pins σ (upd H1 s1.heap.objs.size (.tup [p.1, p.2])) { s1 with heap := h', toks := tk } := J1.turnedNew (ch := fp) kk f2 (Nat.le_refl _) new
    have upf : ∀ b, b < s1.heap.objs.size → FpOk X pins H1 b → FpOk X pins (upd H1 s1.heap.objs.size (.tup [p.1, p.2])) b := fun b hb f => ⟨by rw [upd_ne (Nat.ne_of_lt hb)]; exact f.1, f.2⟩
    have fS2 := upf _ sl f1
    have oth : ∀ b o, b ≠ s.heap.objs.size → h'.get? b = some o → (h'.update s.heap.objs.size (Obj.mapSeq (·.push (.ref s1.heap.objs.size)))).get? b = some o := fun b o hb e => (Heap.get?_update_other _ _ (Ne.symm hb)).trans e
    have J3 : Inv X pins σ (upd H1 s1.heap.objs.size (.tup [p.1, p.2])) { s1 with heap := h'.update s.heap.objs.size (Obj.mapSeq (·.push (.ref s1.heap.objs.size))), toks := tk } :=
      Inv.turnedL (s := { s1 with heap := h', toks := tk }) (t' := tk) (ch := [s.heap.objs.size]) J2 (fun b o hb e => oth b o (fun q => hb (by simp [q])) e) fun b hb => by rw [List.mem_singleton.mp hb]; exact fS2
    have pr' : Prs H (ps.take (i + 1)) (ts ++ [s1.heap.objs.size]) (upd H1 s1.heap.objs.size (.tup [p.1, p.2])) := by
      rw [List.take_add_one, e1]
      exact .snoc pr (J1.hok.fresh (Nat.le_refl _))
    refine hq _ _ acc c eS' ez ⟨_, ts ++ [s1.heap.objs.size], acc.push (.ref s1.heap.objs.size), _, J3, pr', Heap.get?_update_self _ eS' rfl, ?_, ?_, fS2, fun b hb => upf b (g.live _ _ st b hb) (f2 b hb), g.keep _ _ _ st' fun b o hb e => oth b o hb e⟩
    · rw [Array.toList_push, ea, List.map_append]
      rfl
    · rw [Array.size_push, ez]
  · intro s1 Q1 E1 ⟨H1, ts, acc, c, J1, pr, eS, ea, ez, f1, f2, st⟩ hq
    refine g.done _ pins s1 σ H1 _ _ hh J1 (g.mono _ _ hG pr.ex) st fun h' tk kk => hq _ ⟨rfl, acc, c, kk _ _ g.out eS, by rw [ez]; exact hn, ?_⟩
    have J2 : Inv X pins σ H1 { s1 with heap := h', toks := tk } := J1.turnedL (t' := tk) (ch := fp) kk f2
    have lt : ts.length = acc.size := by
      rw [← Array.length_toList, ea, List.length_map]
    have vs : Vals (ts.map V.ref) acc.toList := by
      rw [ea]
      clear pr ea lt
      induction ts with
      | nil => exact .nil
      | cons t ts ih => exact .cons rfl ih
    have fr : H1 h'.objs.size = none := J2.hok.fresh (Nat.le_refl _)
    have new : ObjOk X.prog X.w (upd H1 h'.objs.size (.tup (ts.map V.ref))) (h'.push { cls := .type "tuple", data := .seq acc }) h'.objs.size (.tup (ts.map V.ref)) :=
      ⟨by rw [List.length_map, lt, ez]; exact hn, acc.toList, vs, ⟨_, Heap.get?_push_size _ rfl, rfl, 0, by simp only [Array.toArray_toList]⟩⟩
    rw [List.take_length] at pr
    exact ⟨.ref _, _, J2.laid (t' := tk) (fun b o e => Heap.get?_push_of_some _ e) (Nat.le_refl _) new, rfl, hQ ts H1 _ pr fr⟩
end Dn
end
section
set_option maxHeartbeats 4000000
namespace Dn
open PySem PySem.Spec PyProof.Rows L2
theorem nolen_en : typeLookup (.type "enumerate") "__len__" = pure none := by rw [typeLookup_type, builtinLookup_eq_fast]; kernel_rfl
theorem nohint_en : typeLookup (.type "enumerate") "__length_hint__" = pure none := by rw [typeLookup_type, builtinLookup_eq_fast]; kernel_rfl
theorem nolen_zi : typeLookup (.type "zip") "__len__" = pure none := by rw [typeLookup_type, builtinLookup_eq_fast]; kernel_rfl
theorem nohint_zi : typeLookup (.type "zip") "__length_hint__" = pure none := by rw [typeLookup_type, builtinLookup_eq_fast]; kernel_rfl
theorem wpAny_pyIter_held_en {prog : Program} {w : World} {A : Around} {E : Value → Shared → Prop} {s : Shared} {e : Addr} {Q : Value → Shared → Prop} (hT : s.TypeIs (.ref e) "enumerate") (h : Q (.ref e) s) : wpAny (model prog w) A (pyIter (.ref e)) Q E s := by
  refine wpAny_pyIter_slot hT F.slot_enumerate_iter (wpAny_call_entry F.slot_enumerate_iter hT F.entry_enumerate_iter ?_ (F.args_enumerate_iter_1 _))
  show wpAny _ _ (ret (.ref e)) _ _ s
  exact wpAny_pure ⟨_, rfl, "enumerate", _, hT, F.slot_enumerate_next.lookup, h⟩
theorem wpAny_pyIter_held_zi {prog : Program} {w : World} {A : Around} {E : Value → Shared → Prop} {s : Shared} {e : Addr} {Q : Value → Shared → Prop} (hT : s.TypeIs (.ref e) "zip") (h : Q (.ref e) s) : wpAny (model prog w) A (pyIter (.ref e)) Q E s := by
  refine wpAny_pyIter_slot hT F.slot_zip_iter (wpAny_call_entry F.slot_zip_iter hT F.entry_zip_iter ?_ (F.args_zip_iter_1 _))
  show wpAny _ _ (ret (.ref e)) _ _ s
  exact wpAny_pure ⟨_, rfl, "zip", _, hT, F.slot_zip_next.lookup, h⟩
def enV : Nat → List V → List (V × V)
  | _, [] => []
  | k, x :: xs => (.int (k : Nat), x) :: enV (k + 1) xs
theorem enV_len : ∀ (k : Nat) (xs : List V), (enV k xs).length = xs.length
  | _, [] => rfl
  | k, x :: xs => by show (enV (k + 1) xs).length + 1 = _; rw [enV_len (k + 1) xs]; rfl
theorem enV_get : ∀ (k : Nat) (xs : List V) (i : Nat), (enV k xs)[i]? = (xs[i]?).map fun x => (V.int ((k + i : Nat) : Int), x)
  | _, [], _ => by simp [enV]
  | k, x :: xs, 0 => by simp [enV]
  | k, x :: xs, i + 1 => by
    show (enV (k + 1) xs)[i]? = _
    rw [enV_get (k + 1) xs i, List.getElem?_cons_succ, show k + 1 + i = k + (i + 1) from by omega]
theorem KIt.lt {t : Bool} {h : Heap} {it a : Addr} {i : Nat} (k : KIt t h it a i) : it < h.objs.size := by
  obtain ⟨o, e, _⟩ := k.cell
  exact Heap.lt_size e
theorem giv_en {X : Cx} {t : Bool} {a e it S : Addr} {xs : List V} (h1 : e ≠ it) (h2 : a ≠ it) (h3 : e ≠ a) (h4 : e ≠ S) (h5 : it ≠ S) :
    Giv X e S [e, it] (enV 0 xs).length (enV 0 xs) (fun H => KS t X.K H a xs) (fun i h => KIt t h it a i ∧ EnSt e it S i h) where
  out := by simp only [List.mem_cons, List.not_mem_nil, or_false, not_or]; exact ⟨h4.symm, h5.symm⟩
  mono := fun H H' k e => k.ex e
  keep := fun i h h' st k => ⟨st.1.keep fun o q => k it o h5 q, st.2.keep h4 k⟩
  live := fun i h st b hb => by
    simp only [List.mem_cons, List.not_mem_nil, or_false] at hb
    rcases hb with q | q <;> rw [q]
    · rcases st.2 with ⟨old, x⟩ | ⟨old, T, f, oT, x, _⟩ <;> exact Heap.lt_size x
    · exact st.1.lt
  item := fun A i pins s σ H Q E hh J ka ⟨oS, eS⟩ st hi hQ => by
    obtain ⟨its, rv, p⟩ := ka.inv J
    have l1 := rv.length
    rw [enV_len] at hi
    have hh1 : A.in1.handled = none := hh
    refine en_item (kDraws hh1 t it a h2 its.toArray) st.2 eS st.1.lt ⟨st.1, p⟩ (by rw [List.size_toArray]; omega) h1 (by simp only [List.mem_cons, List.not_mem_nil, or_false, not_or]; exact ⟨h1, h3⟩) fun v1 h' tk e1 n1 n2 n3 n4 n5 => ?_
    obtain ⟨x, hvx, rx⟩ := vals_back rv (by simpa using e1)
    refine hQ (.int (i : Nat), x) _ _ h' (tk + 1) (by rw [enV_get, hvx, Nat.zero_add]; rfl) ⟨tk, rfl⟩ rx ⟨n2.1, n1⟩ n3 n4 fun b o hb q => n5 b o (fun z => hb (by simp [z])) (fun z => hb (by simp [z])) q
  done := fun A pins s σ H Q E hh J ka st hQ => by
    obtain ⟨its, rv, p⟩ := ka.inv J
    have l1 := rv.length
    have hh1 : A.in1.handled = none := hh
    have hi : (enV 0 xs).length = its.toArray.size := by rw [enV_len, List.size_toArray]; exact l1
    rw [hi] at st
    exact en_done (kDraws hh1 t it a h2 its.toArray) st.2 ⟨st.1, p⟩ fun h' hx => hQ h' s.toks fun b o hb q => hx b o (fun z => hb (by simp [z])) q
theorem giv_zip {X : Cx} {t u : Bool} {a b z TI TO i1 i2 S : Addr} {xs ys : List V} (D : ZipApart z TI TO i1 i2 a b) (h1 : z ≠ S) (h2 : TI ≠ S) (h3 : TO ≠ S) (h4 : i1 ≠ S) (h5 : i2 ≠ S) :
    Giv X z S [z, TI, TO, i1, i2] (xs.zip ys).length (xs.zip ys) (fun H => KS t X.K H a xs ∧ KS u X.K H b ys) (fun i h => ZiSt z TI TO i1 i2 S h ∧ KIt t h i1 a i ∧ KIt u h i2 b i) where
  out := by simp only [List.mem_cons, List.not_mem_nil, or_false, not_or]; exact ⟨h1.symm, h2.symm, h3.symm, h4.symm, h5.symm⟩
  mono := fun H H' k e => ⟨k.1.ex e, k.2.ex e⟩
  keep := fun i h h' st k => ⟨st.1.keep ⟨h1, h2, h3⟩ k, st.2.1.keep fun o q => k i1 o h4 q, st.2.2.keep fun o q => k i2 o h5 q⟩
  live := fun i h st c hc => by
    simp only [List.mem_cons, List.not_mem_nil, or_false] at hc
    obtain ⟨⟨y1, ⟨_, _, y2⟩, y3⟩, k1, k2⟩ := st
    rcases hc with q | q | q | q | q <;> rw [q]
    · rcases y3 with y3 | ⟨_, _, _, y3, _⟩ <;> exact Heap.lt_size y3
    · exact Heap.lt_size y1
    · exact Heap.lt_size y2
    · exact k1.lt
    · exact k2.lt
  item := fun A i pins s σ H Q E hh J ka ⟨oS, eS⟩ st hi hQ => by
    obtain ⟨its, rv, p⟩ := ka.1.inv J
    obtain ⟨its2, rv2, p2⟩ := ka.2.inv J
    have l1 := rv.length
    have l2 := rv2.length
    rw [List.length_zip] at hi
    have hh1 : A.in1.handled = none := hh
    refine zi_item (zsep D) (kDraws hh1 t i1 a D.l1i1 its.toArray) (kDraws hh1 u i2 b D.l2i2 its2.toArray) st.1 eS ⟨st.2.1, p⟩ ⟨st.2.2, p2⟩ (by rw [List.size_toArray]; omega) (by rw [List.size_toArray]; omega) fun v1 v2 h' tk e1 e2 n1 n2 n3 n4 n5 n6 => ?_
    obtain ⟨x, hvx, rx⟩ := vals_back rv (by simpa using e1)
    obtain ⟨y, hvy, ry⟩ := vals_back rv2 (by simpa using e2)
    refine hQ (x, y) _ _ h' tk (List.getElem?_zip_eq_some.mpr ⟨hvx, hvy⟩) rx ry ⟨n1, n2.1, n3.1⟩ n4 n5 fun c o hc q => n6 c o (fun z => hc (by simp [z])) (fun z => hc (by simp [z])) (fun z => hc (by simp [z])) (fun z => hc (by simp [z])) q
  done := fun A pins s σ H Q E hh J ka st hQ => by
    obtain ⟨its, rv, p⟩ := ka.1.inv J
    obtain ⟨its2, rv2, p2⟩ := ka.2.inv J
    have l1 := rv.length
    have l2 := rv2.length
    have hh1 : A.in1.handled = none := hh
    have lz : (xs.zip ys).length = min xs.length ys.length := List.length_zip
    exact zi_done (zsep D) (kDraws hh1 t i1 a D.l1i1 its.toArray) (kDraws hh1 u i2 b D.l2i2 its2.toArray) st.1 ⟨st.2.1, p⟩ ⟨st.2.2, p2⟩ (by rw [List.size_toArray]; omega) (by rw [List.size_toArray]; omega) (by rw [List.size_toArray, List.size_toArray]; omega) fun h' tk kk => hQ h' tk fun c o hc q => kk c o (fun z => hc (by simp [z])) (fun z => hc (by simp [z])) (fun z => hc (by simp [z])) (fun z => hc (by simp [z])) q
end Dn
end
section
set_option maxHeartbeats 4000000
namespace Dn
open PySem PySem.Spec PyProof.Rows L2
theorem Prs.at {H H' : Hp} {ps : List (V × V)} {ts : List Addr} (x : Prs H ps ts H') {F : Hp} (e : Ex F H) : ts.length = ps.length ∧ ∃ F', Grow F H F' H' ∧ ∀ (i : Nat) (p : V × V), ps[i]? = some p → ∃ T, ts[i]? = some T ∧ F' T = some (.tup [p.1, p.2]) := by
  induction x with
  | nil => exact ⟨rfl, F, Grow.refl e, fun i p h => by simp at h⟩
  | @snoc H' ps ts p T a b ih =>
    obtain ⟨l, F', g, h⟩ := ih
    have g2 := Grow.new (o := .tup [p.1, p.2]) g.e2 b
    refine ⟨by rw [List.length_append, List.length_append, l]; rfl, _, g.trans g2, fun i q hq => ?_⟩
    by_cases hi : i < ps.length
    · rw [List.getElem?_append_left hi] at hq
      obtain ⟨T', t1, t2⟩ := h i q hq
      exact ⟨T', by rw [List.getElem?_append_left (by omega)]; exact t1, g2.e1 _ _ t2⟩
    · have hi2 : i = ps.length := by
        have := (List.getElem?_eq_some_iff.mp hq).1
        rw [List.length_append, List.length_singleton] at this
        omega
      subst hi2
      rw [List.getElem?_append_right (Nat.le_refl _), Nat.sub_self] at hq
      cases hq
      exact ⟨T, by rw [List.getElem?_append_right (by omega), l, Nat.sub_self]; rfl, upd_same⟩
theorem RpA.of_get {K : PySem.W.Frag} {F : Hp} : ∀ {xs : List V} {ds : List D}, xs.length = ds.length → (∀ (i : Nat) (d : D), ds[i]? = some d → ∃ v, xs[i]? = some v ∧ Rp K F v d) → RpA K F xs ds
  | [], [], _, _ => .nil
  | [], _ :: _, h, _ => by cases h
  | _ :: _, [], h, _ => by cases h
  | x :: xs, d :: ds, h, k => by
    obtain ⟨v, h1, h2⟩ := k 0 d rfl
    cases h1
    exact .cons h2 (RpA.of_get (Nat.succ.inj h) fun i e he => k (i + 1) e he)
def rTupEn (K : PySem.W.Frag) : List V → Hp → VK → Prop := fun vs H Q => ∃ a t xs, vs = [.ref a] ∧ KS t K H a xs ∧ ∀ ts H' p, Prs H (enV 0 xs) ts H' → H' p = none → Q (.ref p) (upd H' p (.tup (ts.map V.ref)))
def rTupZi (K : PySem.W.Frag) : List V → Hp → VK → Prop := fun vs H Q => ∃ a b t u xs ys, vs = [.ref a, .ref b] ∧ KS t K H a xs ∧ KS u K H b ys ∧ ∀ ts H' p, Prs H (xs.zip ys) ts H' → H' p = none → Q (.ref p) (upd H' p (.tup (ts.map V.ref)))
/-- tuple(enumerate(x)) -/
def gTupEn : List D → Option D
  | [d] => (seqZ d).map fun ds => .tup (enD 0 ds)
  | _ => none
/-- tuple(zip(x, y)) -/
def gTupZi : List D → Option D
  | [x, y] => match seqZ x, seqZ y with
    | some xs, some ys => some (.tup (List.zipWith pairD xs ys))
    | _, _ => none
  | _ => none
theorem enD_len : ∀ (k : Nat) (ds : List D), (enD k ds).length = ds.length
  | _, [] => rfl
  | k, d :: ds => by show (enD (k + 1) ds).length + 1 = _; rw [enD_len (k + 1) ds]; rfl
theorem cg_tupEn {K : PySem.W.Frag} : CallG K (rTupEn K) gTupEn := fun F H xs ds z eF r hz Q k => by
  unfold gTupEn at hz
  split at hz
  case h_2 => cases hz
  obtain ⟨es, z1, z2⟩ := Option.map_eq_some_iff.mp hz
  subst z2
  cases r with
  | cons r rr =>
    cases rr
    obtain ⟨a, t, us, rfl, k1, k2⟩ := seqZ_ks r z1
    refine ⟨a, t, us, rfl, k1.ex eF, fun ts H' p pr hp => ?_⟩
    obtain ⟨l, F', g, h⟩ := pr.at eF
    have g2 := Grow.new (o := .tup (ts.map V.ref)) g.e2 hp
    have lu := k2.length
    rw [enV_len] at l
    refine k _ _ _ (g.trans g2) (.tup (.inl (.inl upd_same)) (RpA.of_get (by rw [List.length_map, enD_len, l, lu]) fun i d hd => ?_))
    rw [enD_get] at hd
    obtain ⟨d', h1, rfl⟩ := Option.map_eq_some_iff.mp hd
    obtain ⟨v, h3, h4⟩ := k2.get h1
    obtain ⟨T, t1, t2⟩ := h i (.int (i : Nat), v) (by rw [enV_get, h3, Nat.zero_add]; rfl)
    refine ⟨.ref T, by rw [List.getElem?_map, t1]; rfl, ?_⟩
    rw [Nat.zero_add]
    exact .tup (.inl (.inl (g2.e1 _ _ t2))) (.cons (.int _) (.cons ((h4.mono g.e1).mono g2.e1) .nil))
theorem cg_tupZi {K : PySem.W.Frag} : CallG K (rTupZi K) gTupZi := fun F H xs ds z eF r hz Q k => by
  unfold gTupZi at hz
  split at hz
  case h_2 => cases hz
  split at hz
  case h_2 => cases hz
  rename_i es fs z1 z2
  cases hz
  cases r with
  | cons r rr =>
    cases rr with
    | cons r' rr =>
      cases rr
      obtain ⟨a, t, us, rfl, k1, k2⟩ := seqZ_ks r z1
      obtain ⟨b, u, vs, rfl, k3, k4⟩ := seqZ_ks r' z2
      refine ⟨a, b, t, u, us, vs, rfl, k1.ex eF, k3.ex eF, fun ts H' p pr hp => ?_⟩
      obtain ⟨l, F', g, h⟩ := pr.at eF
      have g2 := Grow.new (o := .tup (ts.map V.ref)) g.e2 hp
      have lu := k2.length
      have lv := k4.length
      rw [List.length_zip] at l
      refine k _ _ _ (g.trans g2) (.tup (.inl (.inl upd_same)) (RpA.of_get (by rw [List.length_map, List.length_zipWith, l, lu, lv]) fun i d hd => ?_))
      obtain ⟨x, y, hx, hy, rfl⟩ := zip_some hd
      obtain ⟨v, h1, h2⟩ := k2.get hx
      obtain ⟨w, h3, h4⟩ := k4.get hy
      obtain ⟨T, t1, t2⟩ := h i (v, w) (List.getElem?_zip_eq_some.mpr ⟨h1, h3⟩)
      exact ⟨.ref T, by rw [List.getElem?_map, t1]; rfl, .tup (.inl (.inl (g2.e1 _ _ t2))) (.cons ((h2.mono g.e1).mono g2.e1) (.cons ((h4.mono g.e1).mono g2.e1) .nil))⟩
section
variable {X : Cx} {pos pos2 : Pos}
theorem pe_tupEn {e : Expr} {ta : TA} {p p2 : Pos} (ha : PA X [e] ta) (hg : Gl X "tuple") (hm : X.mg "tuple" = none) (hg2 : Gl X "enumerate") (hm2 : X.mg "enumerate" = none) (hc : X.calm = true)
    (hs : starEach [e] X.env = [(false, eval e X.env)] := by rfl) (hs2 : starEach [.Call (.Name "enumerate" p2) [e] [] pos2] X.env = [(false, eval (.Call (.Name "enumerate" p2) [e] [] pos2) X.env)] := by rfl) :
    PE X (.Call (.Name "tuple" p) [.Call (.Name "enumerate" p2) [e] [] pos2] [] pos) (tCB (rTupEn X.K) ta) := by
  refine ⟨fun pins s σ H Q I h => ?_⟩
  refine Call_ (ld_blt I hg hm PyProof.Rows.boot_tuple (PyProof.Rows.callWith_type1 ?_ hs2 rfl))
  rw [hs2]
  refine Calls.spliced_cons (wpAny_mono (Q := fun v s1 => wpAny (model X.prog X.w) X.A (call (.type "tuple") [v]) (EP X pins σ Q) X.xe s1) ?_ (fun v s1 h => Calls.spliced_nil h) fun _ _ x => x)
  refine Call_ (ld_blt I hg2 hm2 boot_enumerate (PyProof.Rows.callWith_type1 (thn (ha.run pos2 pins s σ H _ I h) fun us s1 hv => ?_) hs rfl))
  obtain ⟨vs, H1, I1, r1, a, t, xs, ex, ka, q⟩ := hv
  subst ex
  cases r1 with
  | cons r rr =>
    cases rr
    cases r
    obtain ⟨its, rv, p1⟩ := ka.inv I1
    have lz : xs.length ≤ sizeLine := by
      cases t
      · obtain ⟨_, _, _, z⟩ := I1.list ka
        exact z
      · obtain ⟨_, _, _, z⟩ := I1.tuple ka
        exact z
    refine call_en (kBegins t a its.toArray) p1 fun h' hz h1 hk => ?_
    have I2 : Inv X pins σ H1 { s1 with heap := h' } := I1.kept (t' := s1.toks) hk
    have hzl : s1.heap.objs.size + 1 < h'.objs.size := Heap.lt_size hz
    exact Giv.tuple (s := { s1 with heap := h' }) (giv_en (S := h'.objs.size) (Nat.succ_ne_self _) (Nat.ne_of_lt p1.lt) (Nat.ne_of_gt (Nat.lt_succ_of_lt p1.lt)) (Nat.ne_of_lt hzl) (Nat.ne_of_lt (Nat.lt_of_succ_lt hzl))) (by rw [enV_len]; exact lz) I2 ka ⟨kIt0 h1, .inl ⟨_, hz⟩⟩
      (fp_new I1 fun c hc => by
        simp only [List.mem_cons, List.not_mem_nil, or_false] at hc
        rcases hc with q' | q' <;> rw [q'] <;> first | exact Nat.le_add_right _ _ | exact Nat.le_refl _)
      (I1.ok.hd hc) nolen_en nohint_en (by decide) (by decide) ⟨_, hz, rfl⟩ (fun A h2 Q2 E2 k2 hq => wpAny_pyIter_held_en ⟨_, k2 _ _ hz, rfl⟩ hq) q
theorem pe_tupZi {e e2 : Expr} {ta : TA} {p p2 : Pos} (ha : PA X [e, e2] ta) (hg : Gl X "tuple") (hm : X.mg "tuple" = none) (hg2 : Gl X "zip") (hm2 : X.mg "zip" = none) (hc : X.calm = true)
    (hs : starEach [e, e2] X.env = (false, eval e X.env) :: starEach [e2] X.env := by rfl) (hpl : (backTo pos2 (starEach [e2] X.env)).any (·.1) = false := by rfl)
    (hs2 : starEach [.Call (.Name "zip" p2) [e, e2] [] pos2] X.env = [(false, eval (.Call (.Name "zip" p2) [e, e2] [] pos2) X.env)] := by rfl) :
    PE X (.Call (.Name "tuple" p) [.Call (.Name "zip" p2) [e, e2] [] pos2] [] pos) (tCB (rTupZi X.K) ta) := by
  refine ⟨fun pins s σ H Q I h => ?_⟩
  refine Call_ (ld_blt I hg hm PyProof.Rows.boot_tuple (PyProof.Rows.callWith_type1 ?_ hs2 rfl))
  rw [hs2]
  refine Calls.spliced_cons (wpAny_mono (Q := fun v s1 => wpAny (model X.prog X.w) X.A (call (.type "tuple") [v]) (EP X pins σ Q) X.xe s1) ?_ (fun v s1 h => Calls.spliced_nil h) fun _ _ x => x)
  refine Call_ (ld_blt I hg2 hm2 PyProof.Rows.boot_zip (PyProof.Rows.callWith_type1 (thn (ha.run pos2 pins s σ H _ I h) fun us s1 hv => ?_) hs hpl))
  obtain ⟨vs, H1, I1, r1, a, b, t, u, xs, ys, ex, ka, kb, q⟩ := hv
  subst ex
  cases r1 with
  | cons r rr =>
    cases rr with
    | cons r' rr =>
      cases rr
      cases r
      cases r'
      obtain ⟨its, rv, p1⟩ := ka.inv I1
      obtain ⟨its2, rv2, p2⟩ := kb.inv I1
      have lz : xs.length ≤ sizeLine := by
        cases t
        · obtain ⟨_, _, _, z⟩ := I1.list ka
          exact z
        · obtain ⟨_, _, _, z⟩ := I1.tuple ka
          exact z
      refine zip_begins2 (kBegins t a its.toArray) (kBegins u b its2.toArray) p1 p2 fun h' hz hTI hTO h1 h2 hsz hk => ?_
      have I2 : Inv X pins σ H1 { s1 with heap := h' } := I1.kept (t' := s1.toks) hk
      have n0 : s1.heap.objs.size < h'.objs.size := by omega
      have n1 : s1.heap.objs.size + 1 < h'.objs.size := by omega
      have n2 : s1.heap.objs.size + 2 < h'.objs.size := by omega
      have n3 : s1.heap.objs.size + 3 < h'.objs.size := by omega
      have n4 : s1.heap.objs.size + 4 < h'.objs.size := by omega
      exact Giv.tuple (s := { s1 with heap := h' }) (giv_zip (S := h'.objs.size) (PySem.W.ktu_apart s1.heap.objs.size a b p1.lt p2.lt) (Nat.ne_of_lt n4) (Nat.ne_of_lt n2) (Nat.ne_of_lt n3) (Nat.ne_of_lt n0) (Nat.ne_of_lt n1)) (by rw [List.length_zip]; omega) I2 ⟨ka, kb⟩ ⟨⟨hTI, ⟨_, _, hTO⟩, .inl hz⟩, kIt0 h1, kIt0 h2⟩
        (fp_new I1 fun c hc => by
          simp only [List.mem_cons, List.not_mem_nil, or_false] at hc
          rcases hc with q' | q' | q' | q' | q' <;> rw [q'] <;> first | exact Nat.le_add_right _ _ | exact Nat.le_refl _)
        (I1.ok.hd hc) nolen_zi nohint_zi (by decide) (by decide) ⟨_, hz, rfl⟩ (fun A h2 Q2 E2 k2 hq => wpAny_pyIter_held_zi ⟨_, k2 _ _ hz, rfl⟩ hq) q
theorem ge_tupEn {e : Expr} {fa : FA} {p p2 : Pos} (ha : GA X [e] fa) (hm : X.mg "tuple" = none) (hm2 : X.mg "enumerate" = none) (hc : X.calm = true := by rfl) (hg : Gl X "tuple" := by rfl) (hg2 : Gl X "enumerate" := by rfl)
    (hs : starEach [e] X.env = [(false, eval e X.env)] := by rfl) (hs2 : starEach [.Call (.Name "enumerate" p2) [e] [] pos2] X.env = [(false, eval (.Call (.Name "enumerate" p2) [e] [] pos2) X.env)] := by rfl) :
    GE X (.Call (.Name "tuple" p) [.Call (.Name "enumerate" p2) [e] [] pos2] [] pos) (FCall gTupEn fa) := by
  obtain ⟨ta, a, b⟩ := ha
  exact ⟨_, pe_tupEn a hg hm hg2 hm2 hc hs hs2, good_cb cg_tupEn b⟩
theorem ge_tupZi {e e2 : Expr} {fa : FA} {p p2 : Pos} (ha : GA X [e, e2] fa) (hm : X.mg "tuple" = none) (hm2 : X.mg "zip" = none) (hc : X.calm = true := by rfl) (hg : Gl X "tuple" := by rfl) (hg2 : Gl X "zip" := by rfl)
    (hs : starEach [e, e2] X.env = (false, eval e X.env) :: starEach [e2] X.env := by rfl) (hpl : (backTo pos2 (starEach [e2] X.env)).any (·.1) = false := by rfl)
    (hs2 : starEach [.Call (.Name "zip" p2) [e, e2] [] pos2] X.env = [(false, eval (.Call (.Name "zip" p2) [e, e2] [] pos2) X.env)] := by rfl) :
    GE X (.Call (.Name "tuple" p) [.Call (.Name "zip" p2) [e, e2] [] pos2] [] pos) (FCall gTupZi fa) := by
  obtain ⟨ta, a, b⟩ := ha
  exact ⟨_, pe_tupZi a hg hm hg2 hm2 hc hs hpl hs2, good_cb cg_tupZi b⟩
end
end Dn
end
section
set_option maxHeartbeats 4000000
/-! repr of a pair of great ints. -/
namespace Dn
open PySem PySem.Spec PyProof.Rows L2
section
variable {prog : Program} {w : World} {A : Around} {E : Value → Shared → Prop} {s : Shared} {K : PySem.W.Frag}
theorem over_none {a : Int} {Q : Option Nat → Shared → Prop} (e : PySem.W.nsIn K cStatics "sys.int_max_str_digits" = some none) (X : K.In s.heap) (h : a.natAbs.log2 < 12900) (q : Q none s) : wpAny (model prog w) A (Builtin.overDigitLimit? a) Q E s := by
  unfold Builtin.overDigitLimit?
  by_cases hs : a.natAbs.log2 < 1920
  · rw [if_pos hs]
    exact wpAny_pure q
  · rw [if_neg hs]
    unfold Builtin.intMaxStrDigits
    refine wpAny_bind (wpAny_bind (PySem.W.looks_nsIn X e A _ _ s (fun _ _ x => x) (wpAny_pure ?_)))
    dsimp only
    rw [if_neg (by omega), if_pos (by simp only [Bool.or_eq_true, decide_eq_true_eq]; omega)]
    exact wpAny_pure q
theorem call_int_big {a : Int} {t : Tok} {Q : Value → Shared → Prop} (e : PySem.W.nsIn K cStatics "sys.int_max_str_digits" = some none) (X : K.In s.heap) (h : a.natAbs.log2 < 12900) (q : Q (.str (toString a) s.toks) { s with toks := s.toks + 1 }) :
    wpAny (model prog w) A (call (.builtin "int.__repr__") [.int a t]) Q E s := by
  refine wpAny_call_entry F.slot_int_repr (typeIs_int s a t) F.entry_int_repr ?_ (F.args_int_repr_1 _)
  unfold Builtin.«int.__repr__»
  show wpAny _ _ (do let r ← Builtin.overDigitLimit? a; _) _ _ s
  refine wpAny_bind (over_none e X h ?_)
  refine wpAny_bind (wpAny_mkStr (wpAny_pure ⟨_, rfl, q⟩) ?_)
  have l := int_text_length_le (k := 12900) (by decide) h
  rw [PySem.ofString_length, sizeLine_eq]
  omega
theorem big_reprK {as : List Addr} {h₀ : Heap} {d : Nat} {a : Int} {t : Tok} (e : PySem.W.nsIn K cStatics "sys.int_max_str_digits" = some none) (X : K.In h₀) (h : a.natAbs.log2 < 12900) : ReprK prog w as h₀ d (.int a t) (toString a) := by
  intro base hb A g E s Q hg hcl hu hk hQ
  rw [pyReprUnder_leaf (v := .int a t) (by omega) (fun _ e => nomatch e)]
  unfold pyRepr
  refine wpAny_bind ?_
  unfold pyReprObj
  have hv : [Value.int a t].any Value.onHeap = false := rfl
  simp only [cRoomFor, hv, Bool.false_eq_true, if_false, pure_bind]
  refine wpAny_bind (wpAny_specialOf (name := Str.ofString "__repr__") (typeIs_int s a t) F.slot_int_repr.lookup ?_)
  refine wpAny_bind (m := callSpecialIfBound? (.int a t) (Str.ofString "__repr__")) (wpAny_callSpecialIfBound?_slot (name := Str.ofString "__repr__") (typeIs_int s a t) F.slot_int_repr (call_int_big e (X.keeps hk) h ?_))
  exact wpAny_bind (wpAny_isInstance (T := "str") (b := true) rfl isSubtype_str_str (wpAny_pure (wpAny_pure (hQ s.heap _ fun _ _ e => e))))
end
def pairOk : D → Bool
  | .tup [.int i, .int j] => decide (i.natAbs.log2 < 12900) && decide (j.natAbs.log2 < 12900)
  | _ => false
def gReprP : List D → Option D
  | [d] => if showOk d = true then some (.str (toPD d).shown) else if pairOk d = true then some (.str (toPD d).shown) else none
  | _ => none
def rReprP (K : PySem.W.Frag) : List V → Hp → VK → Prop := fun xs H Q => rRepr K xs H Q ∨ ∃ a i j, xs = [.ref a] ∧ SqT K H a [.int i, .int j] ∧ i.natAbs.log2 < 12900 ∧ j.natAbs.log2 < 12900 ∧ Q (.str (tupleText [toString i, toString j])) H
theorem cr_reprP {X : Cx} {k : Nat} (rm : Rm X.A k) (e : PySem.W.nsIn X.K cStatics "sys.int_max_str_digits" = some none) : CallR X (.builtin "repr") (rReprP X.K) := by
  intro pins s σ H xs us Q I r h
  rcases h with h | ⟨a, i, j, rfl, hs, hi, hj, q⟩
  · exact cr_repr rm pins s σ H xs us Q I r h
  · rw [Vals.ref1 r]
    obtain ⟨its, rv, tu, hz⟩ := I.tuple hs
    obtain ⟨o, ho, hc, n, hd⟩ := tu
    have hu := rm.room.units
    cases rv with
    | cons r1 rr =>
      cases rr with
      | cons r2 rr =>
        cases rr
        obtain ⟨t1, rfl⟩ := r1
        obtain ⟨t2, rfl⟩ := r2
        refine call_repr_slot (by omega) ⟨o, ho, hc⟩ F.slot_tuple_repr ?_
        refine call_tuple_reprK (as := []) (h₀ := s.heap) (d := 0) (g := []) ho hc hd (by simp) (ts := [toString i, toString j]) (.cons (big_reprK e I.kIn hi) (.cons (big_reprK e I.kIn hj) .nil)) rm.gd (fun b _ => Clear.nil b) (by show X.A.units + 1 + (0 + 1) < cLine; omega) (fun _ _ e => e) (fun h' u tk hk => ⟨_, _, rfl, .str _, H, I.kept hk, ⟨_, rfl⟩, q⟩) ?_
        have l1 := int_text_length_le (k := 12900) (by decide) hi
        have l2 := int_text_length_le (k := 12900) (by decide) hj
        have e3 : (tupleText [Str.ofString (toString i), Str.ofString (toString j)]).length = (Str.ofString (toString i)).length + (Str.ofString (toString j)).length + 4 := by
          unfold tupleText
          rw [strLen_append, strLen_append]
          have j1 : (Str.join ", " [Str.ofString (toString i), Str.ofString (toString j)]).length = (Str.ofString (toString i)).length + 2 + (Str.ofString (toString j)).length := by
            show (Str.ofString (toString i) ++ ", " ++ Str.ofString (toString j)).length = _
            rw [strLen_append, strLen_append]
            rfl
          rw [j1]
          show 1 + _ + 1 = _
          omega
        rw [e3, PySem.ofString_length, PySem.ofString_length, sizeLine_eq]
        omega
theorem cg_reprP {K : PySem.W.Frag} : CallG K (rReprP K) gReprP := fun F H xs ds z eF r hz Q k => by
  unfold gReprP at hz
  split at hz
  case h_2 => cases hz
  rename_i d
  split at hz
  · rename_i hc
    refine .inl (cg_repr F H xs [d] z eF r ?_ Q k)
    unfold gRepr
    dsimp only
    rw [if_pos hc]
    exact hz
  · split at hz
    case isFalse => cases hz
    rename_i hc
    cases hz
    unfold pairOk at hc
    split at hc
    case h_2 => cases hc
    rename_i i j
    simp only [Bool.and_eq_true, decide_eq_true_eq] at hc
    cases r with
    | cons r rr =>
      cases rr
      cases r with
      | tup hs ra =>
        cases ra with
        | cons r1 ra =>
          cases ra with
          | cons r2 ra =>
            cases ra
            cases r1
            cases r2
            exact .inr ⟨_, _, _, rfl, eF.t hs, hc.1, hc.2, k F H _ (Grow.refl eF) (.str _)⟩
theorem reprP_pair {i j : Int} (hi : i.natAbs.log2 < 12900) (hj : j.natAbs.log2 < 12900) : gReprP [.tup [.int i, .int j]] = some (.str (toPD (.tup [.int i, .int j])).shown) := by
  have h : pairOk (.tup [.int i, .int j]) = true := by
    show (decide _ && decide _) = true
    rw [decide_eq_true hi, decide_eq_true hj]
    rfl
  show (if _ then _ else if _ then _ else _) = _
  rw [if_pos h]
  split <;> rfl
end Dn
end
section
set_option maxHeartbeats 4000000
/-! xs.count(b): how many of a list of bools are b. -/
namespace Dn
open PySem PySem.Spec PyProof.Rows L2
theorem readsAll_bools {h : Heap} : ∀ {bs : List Bool} {its : List Value}, Vals (bs.map V.bl) its → ReadsAll h its (bs.map PyData.bool) []
  | [], [], .nil => .nil
  | b :: bs, v :: its, .cons r rr => by
    cases r
    exact .cons (as := []) (bs := []) (.bool b) (readsAll_bools rr)
theorem plain_bools : ∀ bs : List Bool, PyData.plainAll (bs.map PyData.bool) = true
  | [] => by unfold PyData.plainAll; rfl
  | b :: bs => by
    rw [List.map_cons, PyData.plainAll, plain_bools bs]
    rfl
theorem count_bools (b : Bool) (bs : List Bool) : (bs.map PyData.bool).countP (fun y => PyData.eqv y (.bool b)) = bs.count b := by
  rw [List.countP_map]
  rfl
def rCntB (K : PySem.W.Frag) : V → List V → Hp → VK → Prop := fun x xs H Q => ∃ (p : Addr) (bs : List Bool) (b : Bool), x = .ref p ∧ xs = [.bl b] ∧ SqL K H p (bs.map V.bl) ∧ Q (.int (bs.count b : Nat)) H
theorem mt_cntB {X : Cx} (hu : X.A.units + 65 < cLine) : MtR X "list.count" (rCntB X.K) := by
  intro pins s σ H x xs v us Q I rx rxs h
  obtain ⟨p, bs, b, rfl, rfl, hs, q⟩ := h
  cases rx
  obtain ⟨u, rfl, ru⟩ := rxs.one
  cases ru
  obtain ⟨its, rv, pl, hlen⟩ := I.list hs
  refine SeqAt.count_list_data (xs := bs.map PyData.bool) (as := []) (d := .bool b) (bs := []) pl.isList (readsAll_bools rv) (.bool b) (plain_bools bs) rfl (by show X.A.units + 1 + min _ 0 < cLine; omega) ?_
  rw [count_bools]
  exact ⟨.int (bs.count b : Nat), H, I.tok _, ⟨s.toks, rfl⟩, q⟩
theorem boolsD_rp {K : PySem.W.Frag} {F : Hp} {xs : List V} {ds : List D} {bs : List Bool} (r : RpA K F xs ds) (e : boolsD ds = some bs) : xs = bs.map V.bl := by
  have := boolsD_eq e
  subst this
  exact r.bools
theorem Rm.cnt {A : Around} {k : Nat} (rm : Rm A k) : A.units + 65 < cLine := by
  have := rm.room.un
  omega
/-- of a list of one's own -/
def mCntB : List D → List D → Option (D × List D) := fun ds es => match es with
  | [.bl b] => match boolsD ds with
    | some bs => some (.int (bs.count b : Nat), ds)
    | none => none
  | _ => none
theorem met_cntB {K : PySem.W.Frag} : MetG K (rCntB K) mCntB := fun F H a xs vs ds es ds' z e1 e2 e3 r1 r2 h Q q => by
  unfold mCntB at h
  split at h
  case h_2 => cases h
  rename_i b
  split at h
  case h_2 => cases h
  rename_i bs hb
  obtain ⟨q1, q2⟩ := Prod.mk.inj (Option.some.inj h)
  subst q1
  subst q2
  cases r2 with
  | cons r rr =>
    cases rr
    cases r
    have ex := boolsD_rp r1 hb
    have hq := q (.int (bs.count b : Nat)) xs (.int _) r1
    have eu : upd H a (.lst xs) = H := funext fun c => by
      by_cases z : c = a
      · subst z
        rw [upd_same, e3]
      · rw [upd_ne z]
    rw [eu] at hq
    exact ⟨a, bs, b, rfl, rfl, .inl (.inl (by rw [e3, ex])), hq⟩
/-- of data -/
def gCntB : D → List D → Option D := fun d es => match d, es with
  | .lst ds, [.bl b] => (boolsD ds).map fun bs => .int (bs.count b : Nat)
  | .frl ds, [.bl b] => (boolsD ds).map fun bs => .int (bs.count b : Nat)
  | _, _ => none
def FCntB (f : FE) (fa : FA) : FE := fun ρ => bnd (f ρ) fun d ρ1 => bnd (fa ρ1) fun es ρ2 => lft (gCntB d es) ρ2
section
variable {X : Cx} {pos : Pos}
theorem ge_cntB {k : Nat} (rm : Rm X.A k) {o e : Expr} {f : FE} {fa : FA} {apos cpos : Pos} (ho : GE X o f) (ha : GA X [e] fa)
    (hbase : attributeBase o "count" X.env (eval o X.env) = eval o X.env := by rfl)
    (hfew : ((backTo cpos (starEach [e] X.env)).all (fun x => !x.1) && (backToKw cpos (keywordEach [] X.env)).all (fun x => x.1.isSome) && decide ([e].length + ([] : List Keyword).length + (if ([] : List Keyword).isEmpty then 0 else 1) < 30)) = true := by rfl)
    (hline : (apos.endLine == cpos.line) = true := by rfl) (hs : starEach [e] X.env = (false, eval e X.env) :: starEach [] X.env := by rfl) (hplain : (backTo cpos (starEach [] X.env)).any (·.1) = false := by rfl) :
    GE X (.Call (.Attribute o "count" apos) [e] [] cpos) (FCntB f fa) := by
  obtain ⟨to, a1, a2⟩ := ho
  obtain ⟨ta, b1, b2⟩ := ha
  refine ⟨_, pe_bm PySem.F.plainAttrs_list PySem.F.slot_list_count PySem.F.type_list_count (mt_cntB (by have := rm.room.un; omega)) a1 b1 hbase hfew hline hs hplain, fun pa w σ d ρ' R h Q q => ?_⟩
  obtain ⟨x, ρ1, e1, h1⟩ := bnd_eq h
  obtain ⟨es, ρ2, e2, h2⟩ := bnd_eq h1
  obtain ⟨z, e3, h3⟩ := lft_eq h2
  obtain ⟨q1, q2⟩ := Prod.mk.inj h3
  subst q1
  subst q2
  refine a2 pa w σ x ρ1 R e1 _ fun w1 v R1 p1 s1 r1 => ?_
  subst p1
  have key : ∀ {ds : List D} {b : Bool} {a : Addr} {vs : List V}, SqL X.K w1.F a vs → RpA X.K w1.F vs ds → es = [.bl b] → (boolsD ds).map (fun bs => D.int (bs.count b : Nat)) = some d → tBM X.K "list" (rCntB X.K) (fun σ H Q => Q (.ref a) H) ta σ w1.H Q := by
    intro ds b a vs hs ra ee eq
    subst ee
    obtain ⟨bs, hb, rfl⟩ := Option.map_eq_some_iff.mp eq
    have ex := boolsD_rp ra hb
    refine ⟨.inl ⟨rfl, vs, R1.ex.l hs⟩, b2 pa w1 σ [.bl b] ρ' R1 e2 _ fun w2 us R2 p2 s2 r2 => ?_⟩
    subst p2
    cases r2 with
    | cons ry rr =>
      cases rr
      cases ry
      exact ⟨a, bs, b, rfl, rfl, by rw [← ex]; exact R2.ex.l (s2.ex.l hs), q w2 _ R2 rfl (s1.trans s2) (.int _)⟩
  unfold gCntB at e3
  split at e3
  case h_3 => cases e3
  · cases r1 with
    | @lst a vs _ hs1 ra => exact key (.inl (.inl hs1)) ra rfl e3
  · cases r1 with
    | @frl a vs _ hs1 ra => exact key hs1 ra rfl e3
end
end Dn
end
noncomputable section
set_option maxHeartbeats 4000000
namespace Dn.k45
open PySem PySem.Spec PyProof.Rows L2 Dn
def b_is_integer : FS :=
  SRet (FAnd (FCall gIsi (ACons (FVar 0) (ACons (FC (.ty "int")) ANil))) (FNot (FCall gIsi (ACons (FVar 0) (ACons (FC (.ty "bool")) ANil)))))
def f_is_integer : DN := fDef 1 1 b_is_integer
def d1_power_of : FS :=
  SSeq (SIf (BVal (FBin gEq (FBin gMod (FVar 1) (FC (.int 2))) (FC (.int 1)))) (SAsg (FBin gMul (FVar 2) (FVar 3)) (TName 2)) SNx)
  (SSeq (SAsg (FBin gDiv (FVar 1) (FC (.int 2))) (TName 1))
  (SIf (BVal (FBin gGt (FVar 1) (FC (.int 0)))) (SAsg (FBin gMul (FVar 3) (FVar 3)) (TName 3)) SNx))
def l1_power_of : FS :=
  SWhile (BVal (FBin gGt (FVar 1) (FC (.int 0)))) d1_power_of 10000000
def b_power_of : FS :=
  SSeq (SAsg (FC (.int 1)) (TName 2))
  (SSeq (SAsg (FVar 0) (TName 3))
  (SSeq l1_power_of
  (SRet (FVar 2))))
def f_power_of : DN := fDef 2 4 b_power_of
def b_is_at_most : FS :=
  SRet (FBin gLe (FBin gMul (FBin gIx (FVar 0) (FC (.int 0))) (FBin gIx (FVar 1) (FC (.int 1)))) (FBin gMul (FBin gIx (FVar 1) (FC (.int 0))) (FBin gIx (FVar 0) (FC (.int 1)))))
def f_is_at_most : DN := fDef 2 2 b_is_at_most
def b__law_pot : FS :=
  SSeq (SAsg (FIf (BVal (FBin gLt (FVar 1) (FCall gLen (ACons (FVar 0) ANil)))) (FBin gIx (FVar 0) (FVar 1)) (FBin gAdd (FBin gAdd (FBin gMod (FCall gSum (ACons (FSl (FVar 0) ONone (OSome (FC (.int 1)))) ANil)) (FC (.int 1000003))) (FBin gMul (FC (.int 1154)) (FVar 1))) (FC (.int 529)))) (TName 2))
  (SSeq (SAsg (FBin gMul (FBin gMod (FCall gInt (ACons (FCall gAbs (ACons (FVar 2) ANil)) ANil)) (FBin gPow (FBin gPow (FC (.int 10)) (FC (.int 60))) (FC (.int 5)))) (FCall gInt (ACons (FBin gGe (FCall gAbs (ACons (FVar 2) ANil)) (FBin gPow (FC (.int 10)) (FC (.int 18)))) ANil))) (TName 3))
  (SSeq (SAsg (FBin gMod (FCall gInt (ACons (FVar 2) ANil)) (FC (.int 2305843009213693951))) (TName 4))
  (SRetL (LDisp (ACons (FVar 3) (ACons (FBin gMod (FCall gInt (ACons (FBin gAdd (FBin gAdd (FBin gMul (FVar 4) (FC (.int 73199))) (FBin gMul (FBin gMul (FC (.int 8093)) (FVar 1)) (FVar 1))) (FC (.int 470))) ANil)) (FC (.int 2305843009213693921))) (ACons (FC (.int 0)) ANil)))))))
def f__law_pot : DN := fDef 2 5 b__law_pot
def b__law_take : FS :=
  SSeq (SIf (BVal (FBin gGt (FIxO 0 (FC (.int 0))) (FC (.int 0)))) (SSeq (SAsg (FBin gMod (FCall gInt (ACons (FIxO 0 (FC (.int 0))) ANil)) (FVar 1)) (TName 2))
  (SSeq (SAsg (FBin gDiv (FIxO 0 (FC (.int 0))) (FVar 1)) (TSubO 0 (FC (.int 0))))
  (SRet (FVar 2)))) SNx)
  (SSeq (SAsg (FBin gAdd (FIxO 0 (FC (.int 2))) (FC (.int 1))) (TSubO 0 (FC (.int 2))))
  (SSeq (SAsg (FBin gIx (FLst (ACons (FC (.int 2147483647)) (ACons (FC (.int 2147483629)) (ACons (FC (.int 2147483587)) (ACons (FC (.int 2147483579)) (ACons (FC (.int 2147483563)) ANil)))))) (FBin gMod (FCall gInt (ACons (FIxO 0 (FC (.int 2))) ANil)) (FC (.int 5)))) (TName 3))
  (SSeq (SAsg (FBin gMod (FCall gInt (ACons (FBin gPow (FCall gInt (ACons (FBin gAdd (FBin gAdd (FIxO 0 (FC (.int 1))) (FBin gMul (FBin gMul (FC (.int 98299)) (FIxO 0 (FC (.int 2)))) (FIxO 0 (FC (.int 2))))) (FC (.int 467))) ANil)) (FC (.int 3))) ANil)) (FVar 3)) (TName 4))
  (SSeq (SAsg (FBin gMod (FCall gInt (ACons (FBin gMul (FVar 4) (FBin gAdd (FBin gMod (FCall gInt (ACons (FVar 4) ANil)) (FC (.int 10009))) (FBin gMul (FC (.int 89)) (FIxO 0 (FC (.int 2)))))) ANil)) (FC (.int 2305843009213693907))) (TName 4))
  (SRet (FBin gMod (FCall gInt (ACons (FBin gDiv (FVar 4) (FC (.int 173))) ANil)) (FVar 1)))))))
def f__law_take : DN := fDef 2 5 b__law_take
def b__law_cells : FS :=
  SRet (FOf (LRg1 (FCall gMax (ACons (FC (.int 1)) (ACons (FCall gMin (ACons (FVar 1) (ACons (FCall gLen (ACons (FVar 0) ANil)) ANil))) ANil)))))
def f__law_cells : DN := fDef 2 2 b__law_cells
def c1__law_rows_all : FL :=
  LComp (([("row", 6)] : List (Str × Nat)).map (·.2)) (IRange1 (ACons (FBin gIx (FVar 0) (FC (.int 1))) ANil)) (TName 6) BYes (FAnd (FVar 5) (FBin gLt (FVar 6) (FBin gIx (FVar 0) (FC (.int 0)))))
def d1__law_rows_all : FS :=
  SDrop (FExt 4 c1__law_rows_all)
def l1__law_rows_all : FS :=
  SFor (ISeq (FVar 2)) (TName 5) d1__law_rows_all
def d2__law_rows_all : FS :=
  SSeq (SOwn 4 (LDisp ANil))
  (SSeq l1__law_rows_all
  (SAsg (FFrz 4) (TName 2)))
def l2__law_rows_all : FS :=
  SFor (IRange1 (ACons (FVar 1) ANil)) (TName 3) d2__law_rows_all
def b__law_rows_all : FS :=
  SSeq (SAsg (FLst (ACons (FC (.bl true)) ANil)) (TName 2))
  (SSeq l2__law_rows_all
  (SRet (FTup (ACons (FCntB (FVar 2) (ACons (FC (.bl true)) ANil)) (ACons (FCall gLen (ACons (FVar 2) ANil)) ANil)))))
def f__law_rows_all : DN := fDef 2 7 b__law_rows_all
def c1__law_rows_led : FL :=
  LComp (([("second", 4)] : List (Str × Nat)).map (·.2)) (IRange1 (ACons (FBin gIx (FVar 1) (FC (.int 1))) ANil)) (TName 4) BYes (FOr (FBin gLt (FVar 3) (FBin gIx (FVar 0) (FC (.int 0)))) (FBin gLt (FVar 4) (FBin gIx (FVar 1) (FC (.int 0)))))
def d1__law_rows_led : FS :=
  SDrop (FExt 2 c1__law_rows_led)
def l1__law_rows_led : FS :=
  SFor (IRange1 (ACons (FBin gIx (FVar 0) (FC (.int 1))) ANil)) (TName 3) d1__law_rows_led
def b__law_rows_led : FS :=
  SSeq (SOwn 2 (LDisp ANil))
  (SSeq l1__law_rows_led
  (SRet (FTup (ACons (FMeth 2 mCntB (ACons (FC (.bl true)) ANil)) (ACons (FLenO 2) ANil)))))
def f__law_rows_led : DN := fDef 2 5 b__law_rows_led
def d1__law_product : FS :=
  SAsg (FBin gMul (FVar 2) (FVar 0)) (TName 2)
def l1__law_product : FS :=
  SFor (IRange1 (ACons (FVar 1) ANil)) (TName 3) d1__law_product
def b__law_product : FS :=
  SSeq (SAsg (FC (.int 1)) (TName 2))
  (SSeq l1__law_product
  (SRet (FVar 2)))
def f__law_product : DN := fDef 2 4 b__law_product
def c1_check_share : FL :=
  LComp (([("part", 1)] : List (Str × Nat)).map (·.2)) (ISeq (FVar 0)) (TName 1) BYes (FCallE f_is_integer (GAll (ACons (FVar 1) ANil)))
def b_check_share : FS :=
  SSeq (SIf (BOr (BNot (BVal (FCall gIsi (ACons (FVar 0) (ACons (FC (.ty "tuple")) ANil))))) (BOr (BVal (FBin gNe (FCall gLen (ACons (FVar 0) ANil)) (FC (.int 2)))) (BNot (BVal (FCall gAll (ACons (FOf c1_check_share) ANil)))))) SNo SNx)
  (SIf (BOr (BNot (BVal (FChain gLe gLe (FC (.int 0)) (FBin gIx (FVar 0) (FC (.int 0))) (FBin gIx (FVar 0) (FC (.int 1)))))) (BVal (FBin gLt (FBin gIx (FVar 0) (FC (.int 1))) (FC (.int 1))))) SNo SNx)
def f_check_share : DN := fDef 1 2 b_check_share
def b__law_of : FS :=
  SRet (FBin gIx (FVar 1) (FCallE f__law_take (GVar 0 (ACons (FCall gLen (ACons (FVar 1) ANil)) ANil))))
def f__law_of : DN := fDef 2 2 b__law_of
def b__law_share : FS :=
  SSeq (SAsg (FBin gAdd (FC (.int 1)) (FCallE f__law_take (GVar 0 (ACons (FVar 1) ANil)))) (TName 2))
  (SRet (FTup (ACons (FCallE f__law_take (GVar 0 (ACons (FBin gAdd (FVar 2) (FC (.int 1))) ANil))) (ACons (FCall gInt (ACons (FVar 2) ANil)) ANil))))
def f__law_share : DN := fDef 2 3 b__law_share
def b_repeated_share : FS :=
  SSeq (SDrop (FCallE f_check_share (GAll (ACons (FVar 0) ANil))))
  (SSeq (SIf (BOr (BNot (BVal (FCallE f_is_integer (GAll (ACons (FVar 1) ANil))))) (BNot (BVal (FChain gLe gLe (FC (.int 1)) (FVar 1) (FC (.int 40)))))) SNo SNx)
  (SRet (FTup (ACons (FCallE f_power_of (GAll (ACons (FBin gIx (FVar 0) (FC (.int 0))) (ACons (FVar 1) ANil)))) (ACons (FCallE f_power_of (GAll (ACons (FBin gIx (FVar 0) (FC (.int 1))) (ACons (FVar 1) ANil)))) ANil)))))
def f_repeated_share : DN := fDef 2 2 b_repeated_share
def b_led_share : FS :=
  SSeq (SDrop (FCallE f_check_share (GAll (ACons (FVar 0) ANil))))
  (SSeq (SDrop (FCallE f_check_share (GAll (ACons (FVar 1) ANil))))
  (SSeq (SAsg (FBin gMul (FBin gIx (FVar 0) (FC (.int 1))) (FBin gIx (FVar 1) (FC (.int 1)))) (TName 2))
  (SRet (FTup (ACons (FBin gSub (FVar 2) (FBin gMul (FBin gSub (FBin gIx (FVar 0) (FC (.int 1))) (FBin gIx (FVar 0) (FC (.int 0)))) (FBin gSub (FBin gIx (FVar 1) (FC (.int 1))) (FBin gIx (FVar 1) (FC (.int 0)))))) (ACons (FVar 2) ANil))))))
def f_led_share : DN := fDef 2 3 b_led_share
def b_greater_share : FS :=
  SSeq (SDrop (FCallE f_check_share (GAll (ACons (FVar 0) ANil))))
  (SSeq (SDrop (FCallE f_check_share (GAll (ACons (FVar 1) ANil))))
  (SRet (FIf (BVal (FCallE f_is_at_most (GAll (ACons (FVar 1) (ACons (FVar 0) ANil))))) (FVar 0) (FVar 1))))
def f_greater_share : DN := fDef 2 2 b_greater_share
def b__law_are_great_right : FS :=
  SSeq (SAsg (FCallE f__law_of (GVar 0 (ACons (FLst (ACons (FTup (ACons (FBin gSub (FBin gPow (FC (.int 10)) (FC (.int 20))) (FC (.int 1))) (ACons (FBin gPow (FC (.int 10)) (FC (.int 20))) ANil))) (ACons (FTup (ACons (FC (.int 3)) (ACons (FBin gPow (FC (.int 10)) (FC (.int 30))) ANil))) (ACons (FTup (ACons (FC (.int 0)) (ACons (FC (.int 7)) ANil))) (ACons (FTup (ACons (FC (.int 5)) (ACons (FC (.int 5)) ANil))) (ACons (FTup (ACons (FBin gSub (FC (.int 343)) (FC (.int 125))) (ACons (FC (.int 343)) ANil))) ANil)))))) ANil))) (TName 1))
  (SSeq (SPar2 2 3 (ACons (FCallE f__law_share (GVar 0 (ACons (FC (.int 1000)) ANil))) (ACons (FBin gAdd (FC (.int 1)) (FCallE f__law_take (GVar 0 (ACons (FC (.int 40)) ANil)))) ANil)))
  (SSeq (SAsg (FTup (ACons (FCallE f__law_product (GAll (ACons (FBin gIx (FVar 1) (FC (.int 0))) (ACons (FVar 3) ANil)))) (ACons (FCallE f__law_product (GAll (ACons (FBin gIx (FVar 1) (FC (.int 1))) (ACons (FVar 3) ANil)))) ANil))) (TName 4))
  (SSeq (SIf (BVal (FBin gNe (FCall gReprP (ACons (FCallK f_repeated_share [1, 0] (ACons (FVar 3) (ACons (FVar 1) ANil))) ANil)) (FCall gReprP (ACons (FVar 4) ANil)))) (SRet (FC (.bl false))) SNx)
  (SSeq (SAsg (FBin gMul (FBin gIx (FVar 1) (FC (.int 1))) (FBin gIx (FVar 2) (FC (.int 1)))) (TName 5))
  (SSeq (SIf (BVal (FBin gNe (FCall gReprP (ACons (FCallK f_led_share [1, 0] (ACons (FVar 2) (ACons (FVar 1) ANil))) ANil)) (FCall gReprP (ACons (FTup (ACons (FBin gSub (FVar 5) (FBin gMul (FBin gSub (FBin gIx (FVar 1) (FC (.int 1))) (FBin gIx (FVar 1) (FC (.int 0)))) (FBin gSub (FBin gIx (FVar 2) (FC (.int 1))) (FBin gIx (FVar 2) (FC (.int 0)))))) (ACons (FVar 5) ANil))) ANil)))) (SRet (FC (.bl false))) SNx)
  (SSeq (SAsg (FTup (ACons (FBin gMul (FBin gIx (FVar 2) (FC (.int 0))) (FBin gIx (FVar 2) (FC (.int 0)))) (ACons (FBin gMul (FBin gIx (FVar 2) (FC (.int 1))) (FBin gIx (FVar 2) (FC (.int 1)))) ANil))) (TName 6))
  (SSeq (SAsg (FBin gMul (FBin gIx (FVar 1) (FC (.int 1))) (FBin gIx (FVar 6) (FC (.int 1)))) (TName 5))
  (SSeq (SIf (BVal (FBin gNe (FCall gReprP (ACons (FCallE f_led_share (GAll (ACons (FVar 1) (ACons (FCallE f_repeated_share (GAll (ACons (FVar 2) (ACons (FC (.int 2)) ANil)))) ANil)))) ANil)) (FCall gReprP (ACons (FTup (ACons (FBin gSub (FVar 5) (FBin gMul (FBin gSub (FBin gIx (FVar 1) (FC (.int 1))) (FBin gIx (FVar 1) (FC (.int 0)))) (FBin gSub (FBin gIx (FVar 6) (FC (.int 1))) (FBin gIx (FVar 6) (FC (.int 0)))))) (ACons (FVar 5) ANil))) ANil)))) (SRet (FC (.bl false))) SNx)
  (SSeq (SAsg (FIf (BVal (FBin gGt (FBin gMul (FBin gIx (FVar 2) (FC (.int 0))) (FBin gIx (FVar 1) (FC (.int 1)))) (FBin gMul (FBin gIx (FVar 1) (FC (.int 0))) (FBin gIx (FVar 2) (FC (.int 1)))))) (FVar 2) (FVar 1)) (TName 4))
  (SRet (FBin gEq (FCall gReprP (ACons (FCallE f_greater_share (GAll (ACons (FVar 1) (ACons (FVar 2) ANil)))) ANil)) (FCall gReprP (ACons (FVar 4) ANil)))))))))))))
def f__law_are_great_right : DN := fDef 1 7 b__law_are_great_right
def b__law_right : FS :=
  SSeq (SPar3 1 2 3 (ACons (FCallE f__law_share (GVar 0 (ACons (FC (.int 6)) ANil))) (ACons (FCallE f__law_share (GVar 0 (ACons (FC (.int 12)) ANil))) (ACons (FBin gAdd (FC (.int 1)) (FCallE f__law_take (GVar 0 (ACons (FC (.int 4)) ANil)))) ANil))))
  (SSeq (SIf (BVal (FBin gNe (FCall gReprP (ACons (FCallE f_repeated_share (GAll (ACons (FVar 1) (ACons (FVar 3) ANil)))) ANil)) (FCall gReprP (ACons (FCallE f__law_rows_all (GAll (ACons (FVar 1) (ACons (FVar 3) ANil)))) ANil)))) (SRet (FC (.bl false))) SNx)
  (SSeq (SIf (BVal (FBin gNe (FCall gReprP (ACons (FCallE f_led_share (GAll (ACons (FVar 1) (ACons (FVar 2) ANil)))) ANil)) (FCall gReprP (ACons (FCallE f__law_rows_led (GAll (ACons (FVar 1) (ACons (FVar 2) ANil)))) ANil)))) (SRet (FC (.bl false))) SNx)
  (SSeq (SIf (BVal (FBin gNe (FCall gReprP (ACons (FCallE f_led_share (GAll (ACons (FVar 2) (ACons (FVar 1) ANil)))) ANil)) (FCall gReprP (ACons (FCallE f__law_rows_led (GAll (ACons (FVar 2) (ACons (FVar 1) ANil)))) ANil)))) (SRet (FC (.bl false))) SNx)
  (SSeq (SAsg (FTup (ACons (FBin gMul (FC (.int 2)) (FBin gIx (FVar 1) (FC (.int 0)))) (ACons (FBin gMul (FC (.int 2)) (FBin gIx (FVar 1) (FC (.int 1)))) ANil))) (TName 4))
  (SSeq (SIf (BVal (FBin gNe (FCall gReprP (ACons (FLst (ACons (FCallE f_greater_share (GAll (ACons (FVar 1) (ACons (FVar 4) ANil)))) (ACons (FCallE f_greater_share (GAll (ACons (FVar 4) (ACons (FVar 1) ANil)))) ANil))) ANil)) (FCall gReprP (ACons (FLst (ACons (FVar 1) (ACons (FVar 4) ANil))) ANil)))) (SRet (FC (.bl false))) SNx)
  (SSeq (SAsg (FIf (BVal (FBin gGt (FBin gMul (FBin gIx (FVar 2) (FC (.int 0))) (FBin gIx (FVar 1) (FC (.int 1)))) (FBin gMul (FBin gIx (FVar 1) (FC (.int 0))) (FBin gIx (FVar 2) (FC (.int 1)))))) (FVar 2) (FVar 1)) (TName 5))
  (SRet (FAnd (FBin gEq (FCall gReprP (ACons (FCallK f_greater_share [1, 0] (ACons (FVar 2) (ACons (FVar 1) ANil))) ANil)) (FCall gReprP (ACons (FVar 5) ANil))) (FCallE f__law_are_great_right (GVar 0 ANil))))))))))
def f__law_right : DN := fDef 1 6 b__law_right
def c1_law : FL :=
  LComp (([("place", 1)] : List (Str × Nat)).map (·.2)) (ISeq (FCallE f__law_cells (GAll (ACons (FVar 0) (ACons (FC (.int 3)) ANil))))) (TName 1) BYes (FCallE f__law_right (GFr (FCallL f__law_pot (GAll (ACons (FVar 0) (ACons (FVar 1) ANil)))) ANil))
def b_law : FS :=
  SRet (FCall gAll (ACons (FOf c1_law) ANil))
def f_law : DN := fDef 1 2 b_law
def topS (i : Nat) : Stmt := PySem.Challenge.pw_fewthrows_k45_whole_shares_of_several_ta.main.body.getD i (.Pass ⟨0, 0, 0, 0⟩)
abbrev s_is_integer : Stmt := topS 5
abbrev s_power_of : Stmt := topS 7
abbrev s_is_at_most : Stmt := topS 11
abbrev s__law_pot : Stmt := topS 16
abbrev s__law_take : Stmt := topS 17
abbrev s__law_cells : Stmt := topS 19
abbrev s__law_rows_all : Stmt := topS 21
abbrev s__law_rows_led : Stmt := topS 22
abbrev s__law_product : Stmt := topS 23
abbrev s_check_share : Stmt := topS 10
abbrev s__law_of : Stmt := topS 18
abbrev s__law_share : Stmt := topS 20
abbrev s_repeated_share : Stmt := topS 12
abbrev s_led_share : Stmt := topS 13
abbrev s_greater_share : Stmt := topS 14
abbrev s__law_are_great_right : Stmt := topS 24
abbrev s__law_right : Stmt := topS 25
abbrev s_law : Stmt := topS 26
theorem sc_is_integer : FnScope ["value"] ["value"] (defScope s_is_integer) := ⟨rfl, rfl, rfl, by decide +kernel, rfl, by decide +kernel, by decide +kernel⟩
theorem sc_power_of : FnScope ["number", "many", "power", "square"] ["number", "many"] (defScope s_power_of) := ⟨rfl, rfl, rfl, by decide +kernel, rfl, by decide +kernel, by decide +kernel⟩
theorem sc_is_at_most : FnScope ["one", "other"] ["one", "other"] (defScope s_is_at_most) := ⟨rfl, rfl, rfl, by decide +kernel, rfl, by decide +kernel, by decide +kernel⟩
theorem sc__law_pot : FnScope ["script", "place", "cell", "own", "small"] ["script", "place"] (defScope s__law_pot) := ⟨rfl, rfl, rfl, by decide +kernel, rfl, by decide +kernel, by decide +kernel⟩
theorem sc__law_take : FnScope ["pot", "upto", "digit", "prime", "blend"] ["pot", "upto"] (defScope s__law_take) := ⟨rfl, rfl, rfl, by decide +kernel, rfl, by decide +kernel, by decide +kernel⟩
theorem sc__law_cells : FnScope ["script", "most"] ["script", "most"] (defScope s__law_cells) := ⟨rfl, rfl, rfl, by decide +kernel, rfl, by decide +kernel, by decide +kernel⟩
theorem sc__law_rows_all : FnScope ["share", "many", "found", "lap", "later", "is_let", "row"] ["share", "many"] (defScope s__law_rows_all) := ⟨rfl, rfl, rfl, by decide +kernel, rfl, by decide +kernel, by decide +kernel⟩
theorem sc__law_rows_led : FnScope ["one", "other", "found", "first", "second"] ["one", "other"] (defScope s__law_rows_led) := ⟨rfl, rfl, rfl, by decide +kernel, rfl, by decide +kernel, by decide +kernel⟩
theorem sc__law_product : FnScope ["number", "many", "found", "lap"] ["number", "many"] (defScope s__law_product) := ⟨rfl, rfl, rfl, by decide +kernel, rfl, by decide +kernel, by decide +kernel⟩
theorem sc_check_share : FnScope ["value", "part"] ["value"] (defScope s_check_share) := ⟨rfl, rfl, rfl, by decide +kernel, rfl, by decide +kernel, by decide +kernel⟩
theorem sc__law_of : FnScope ["pot", "some"] ["pot", "some"] (defScope s__law_of) := ⟨rfl, rfl, rfl, by decide +kernel, rfl, by decide +kernel, by decide +kernel⟩
theorem sc__law_share : FnScope ["pot", "most", "rows"] ["pot", "most"] (defScope s__law_share) := ⟨rfl, rfl, rfl, by decide +kernel, rfl, by decide +kernel, by decide +kernel⟩
theorem sc_repeated_share : FnScope ["share", "many"] ["share", "many"] (defScope s_repeated_share) := ⟨rfl, rfl, rfl, by decide +kernel, rfl, by decide +kernel, by decide +kernel⟩
theorem sc_led_share : FnScope ["one", "other", "rows"] ["one", "other"] (defScope s_led_share) := ⟨rfl, rfl, rfl, by decide +kernel, rfl, by decide +kernel, by decide +kernel⟩
theorem sc_greater_share : FnScope ["one", "other"] ["one", "other"] (defScope s_greater_share) := ⟨rfl, rfl, rfl, by decide +kernel, rfl, by decide +kernel, by decide +kernel⟩
theorem sc__law_are_great_right : FnScope ["pot", "one", "other", "many", "due", "rows", "twice"] ["pot"] (defScope s__law_are_great_right) := ⟨rfl, rfl, rfl, by decide +kernel, rfl, by decide +kernel, by decide +kernel⟩
theorem sc__law_right : FnScope ["pot", "one", "other", "many", "twice", "due"] ["pot"] (defScope s__law_right) := ⟨rfl, rfl, rfl, by decide +kernel, rfl, by decide +kernel, by decide +kernel⟩
theorem sc_law : FnScope ["script", "place"] ["script"] (defScope s_law) := ⟨rfl, rfl, rfl, by decide +kernel, rfl, by decide +kernel, by decide +kernel⟩
section
variable {P : Program} {w : World} {K : PySem.W.Frag} {mg : Str → Option Value} {base : Heap}
theorem ok_is_integer (z_bool : mg "bool" = none) (z_int : mg "int" = none) (z_isinstance : mg "isinstance" = none) {f : Addr} {fd : FuncData} (F : Fun K "is_integer" "is_integer" s_is_integer f fd) : FnG P w K mg base CX0 1 f fd ["value"] (spD K 1 f_is_integer) :=
  fn_den (k := 0) (N := ["value"]) F sc_is_integer fun cdv A outer s H E hr hgd => by
    have rm : Rm (A.deeper (envOfC "is_integer" (defScope s_is_integer) s.heap.objs.size f cdv)) 0 := ⟨hr, hgd⟩
    have nd := sc_is_integer.nd
    exact gss_one (gs_ret (ge_and (ge_callB call_isi cg_isi (ga_cons (ge_var 0) (ga_cons (ge_ty z_int (hv := b_int)) ga_nil)) z_isinstance (hv := b_isinstance)) (ge_one (ge_not (ge_callB call_isi cg_isi (ga_cons (ge_var 0) (ga_cons (ge_ty z_bool (hv := b_bool)) ga_nil)) z_isinstance (hv := b_isinstance))))))
theorem ok_power_of  {f : Addr} {fd : FuncData} (F : Fun K "power_of" "power_of" s_power_of f fd) : FnG P w K mg base CX0 1 f fd ["number", "many"] (spD K 2 f_power_of) :=
  fn_den (k := 0) (N := ["number", "many", "power", "square"]) F sc_power_of fun cdv A outer s H E hr hgd => by
    have rm : Rm (A.deeper (envOfC "power_of" (defScope s_power_of) s.heap.objs.size f cdv)) 0 := ⟨hr, hgd⟩
    have nd := sc_power_of.nd
    exact gss_cons (gs_set 2 nd ge_int)
        (gss_cons (gs_set 3 nd (ge_var 0))
        (gss_cons (gs_while 10000000 (gb_cmp op_gt opg_gt (ge_var 1) ge_int (nomark _)) (gss_cons (gs_if (gb_cmp (op_eqDG rm.eq) opg_eq (ge_op op_mod opg_mod (ge_var 1) ge_int) ge_int (nomark _)) (gss_one (gs_set 2 nd (ge_op op_mulG opg_mul (ge_var 2) (ge_var 3)))) gss_nil)
        (gss_cons (gs_set 1 nd (ge_op op_fdivW opg_div (ge_var 1) ge_int))
        (gss_one (gs_if (gb_cmp op_gt opg_gt (ge_var 1) ge_int (nomark _)) (gss_one (gs_set 3 nd (ge_op op_mulG opg_mul (ge_var 3) (ge_var 3)))) gss_nil)))) PassesOwn.never)
        (gss_one (gs_ret (ge_var 2)))))
theorem ok_is_at_most  {f : Addr} {fd : FuncData} (F : Fun K "is_at_most" "is_at_most" s_is_at_most f fd) : FnG P w K mg base CX0 1 f fd ["one", "other"] (spD K 2 f_is_at_most) :=
  fn_den (k := 0) (N := ["one", "other"]) F sc_is_at_most fun cdv A outer s H E hr hgd => by
    have rm : Rm (A.deeper (envOfC "is_at_most" (defScope s_is_at_most) s.heap.objs.size f cdv)) 0 := ⟨hr, hgd⟩
    have nd := sc_is_at_most.nd
    exact gss_one (gs_ret (ge_cmp op_le opg_le (ge_op op_mulG opg_mul (ge_ix ix_seq opg_ix (ge_var 0) ge_int) (ge_ix ix_seq opg_ix (ge_var 1) ge_int)) (ge_op op_mulG opg_mul (ge_ix ix_seq opg_ix (ge_var 1) ge_int) (ge_ix ix_seq opg_ix (ge_var 0) ge_int)) (nomark _)))
theorem ok__law_pot (z_abs : mg "abs" = none) (z_int : mg "int" = none) (z_len : mg "len" = none) (z_sum : mg "sum" = none) {f : Addr} {fd : FuncData} (F : Fun K "_law_pot" "_law_pot" s__law_pot f fd) : FnG P w K mg base CX0 1 f fd ["script", "place"] (spD K 2 f__law_pot) :=
  fn_den (k := 0) (N := ["script", "place", "cell", "own", "small"]) F sc__law_pot fun cdv A outer s H E hr hgd => by
    have rm : Rm (A.deeper (envOfC "_law_pot" (defScope s__law_pot) s.heap.objs.size f cdv)) 0 := ⟨hr, hgd⟩
    have nd := sc__law_pot.nd
    exact gss_cons (gs_set 2 nd (ge_if (gb_cmp op_lt opg_lt (ge_var 1) (ge_callB cr_len cg_len (ga_cons (ge_var 0) ga_nil) z_len (hv := b_len)) (nomark _)) (ge_ix ix_seq opg_ix (ge_var 0) (ge_var 1)) (ge_op op_addG opg_add (ge_op op_addG opg_add (ge_op op_mod opg_mod (ge_callB (cr_sum rfl) cg_sum (ga_cons (ge_slice (ge_var 0) go_none (go_some ge_int)) ga_nil) z_sum (hv := b_sum)) ge_int) (ge_op op_mulG opg_mul ge_int (ge_var 1))) ge_int)))
        (gss_cons (gs_set 3 nd (ge_op op_mulG opg_mul (ge_op op_mod opg_mod (ge_callTy cr_int cg_int (ga_cons (ge_callB cr_abs cg_abs (ga_cons (ge_var 2) ga_nil) z_abs (hv := b_abs)) ga_nil) z_int (hv := b_int)) (ge_op op_powW opg_pow (ge_op op_powW opg_pow ge_int ge_int) ge_int)) (ge_callTy cr_int cg_int (ga_cons (ge_cmp op_ge opg_ge (ge_callB cr_abs cg_abs (ga_cons (ge_var 2) ga_nil) z_abs (hv := b_abs)) (ge_op op_powW opg_pow ge_int ge_int) (nomark _)) ga_nil) z_int (hv := b_int))))
        (gss_cons (gs_set 4 nd (ge_op op_mod opg_mod (ge_callTy cr_int cg_int (ga_cons (ge_var 2) ga_nil) z_int (hv := b_int)) ge_int))
        (gss_one (gs_retL (gl_lst (ga_cons (ge_var 3) (ga_cons (ge_op op_mod opg_mod (ge_callTy cr_int cg_int (ga_cons (ge_op op_addG opg_add (ge_op op_addG opg_add (ge_op op_mulG opg_mul (ge_var 4) ge_int) (ge_op op_mulG opg_mul (ge_op op_mulG opg_mul ge_int (ge_var 1)) (ge_var 1))) ge_int) ga_nil) z_int (hv := b_int)) ge_int) (ga_cons ge_int ga_nil))))))))
theorem ok__law_take (z_int : mg "int" = none) {f : Addr} {fd : FuncData} (F : Fun K "_law_take" "_law_take" s__law_take f fd) : FnG P w K mg base CX0 1 f fd ["pot", "upto"] (spD K 2 f__law_take) :=
  fn_den (k := 0) (N := ["pot", "upto", "digit", "prime", "blend"]) F sc__law_take fun cdv A outer s H E hr hgd => by
    have rm : Rm (A.deeper (envOfC "_law_take" (defScope s__law_take) s.heap.objs.size f cdv)) 0 := ⟨hr, hgd⟩
    have nd := sc__law_take.nd
    exact gss_cons (gs_if (gb_cmp op_gt opg_gt (ge_ixO 0 ge_int) ge_int (nomark _)) (gss_cons (gs_set 2 nd (ge_op op_mod opg_mod (ge_callTy cr_int cg_int (ga_cons (ge_ixO 0 ge_int) ga_nil) z_int (hv := b_int)) (ge_var 1)))
        (gss_cons (gs_asg (ge_op op_fdivW opg_div (ge_ixO 0 ge_int) (ge_var 1)) (gt_subO 0 ge_int))
        (gss_one (gs_ret (ge_var 2))))) gss_nil)
        (gss_cons (gs_asg (ge_op op_addG opg_add (ge_ixO 0 ge_int) ge_int) (gt_subO 0 ge_int))
        (gss_cons (gs_set 3 nd (ge_ix ix_seq opg_ix (ge_lst (ga_cons ge_int (ga_cons ge_int (ga_cons ge_int (ga_cons ge_int (ga_cons ge_int ga_nil)))))) (ge_op op_mod opg_mod (ge_callTy cr_int cg_int (ga_cons (ge_ixO 0 ge_int) ga_nil) z_int (hv := b_int)) ge_int)))
        (gss_cons (gs_set 4 nd (ge_op op_mod opg_mod (ge_callTy cr_int cg_int (ga_cons (ge_op op_powW opg_pow (ge_callTy cr_int cg_int (ga_cons (ge_op op_addG opg_add (ge_op op_addG opg_add (ge_ixO 0 ge_int) (ge_op op_mulG opg_mul (ge_op op_mulG opg_mul ge_int (ge_ixO 0 ge_int)) (ge_ixO 0 ge_int))) ge_int) ga_nil) z_int (hv := b_int)) ge_int) ga_nil) z_int (hv := b_int)) (ge_var 3)))
        (gss_cons (gs_set 4 nd (ge_op op_mod opg_mod (ge_callTy cr_int cg_int (ga_cons (ge_op op_mulG opg_mul (ge_var 4) (ge_op op_addG opg_add (ge_op op_mod opg_mod (ge_callTy cr_int cg_int (ga_cons (ge_var 4) ga_nil) z_int (hv := b_int)) ge_int) (ge_op op_mulG opg_mul ge_int (ge_ixO 0 ge_int)))) ga_nil) z_int (hv := b_int)) ge_int))
        (gss_one (gs_ret (ge_op op_mod opg_mod (ge_callTy cr_int cg_int (ga_cons (ge_op op_fdivW opg_div (ge_var 4) ge_int) ga_nil) z_int (hv := b_int)) (ge_var 1))))))))
theorem ok__law_cells (z_len : mg "len" = none) (z_list : mg "list" = none) (z_max : mg "max" = none) (z_min : mg "min" = none) (z_range : mg "range" = none) {f : Addr} {fd : FuncData} (F : Fun K "_law_cells" "_law_cells" s__law_cells f fd) : FnG P w K mg base CX0 1 f fd ["script", "most"] (spD K 2 f__law_cells) :=
  fn_den (k := 0) (N := ["script", "most"]) F sc__law_cells fun cdv A outer s H E hr hgd => by
    have rm : Rm (A.deeper (envOfC "_law_cells" (defScope s__law_cells) s.heap.objs.size f cdv)) 0 := ⟨hr, hgd⟩
    have nd := sc__law_cells.nd
    exact gss_one (gs_ret (GL.ge (gl_listRg1 (ge_callB (cr_max2 rfl) cg_max (ga_cons ge_int (ga_cons (ge_callB (cr_min2 rfl) cg_min (ga_cons (ge_var 1) (ga_cons (ge_callB cr_len cg_len (ga_cons (ge_var 0) ga_nil) z_len (hv := b_len)) ga_nil)) z_min (hv := b_min)) ga_nil)) z_max (hv := b_max)) z_list z_range)))
theorem ok__law_rows_all (z_len : mg "len" = none) (z_range : mg "range" = none) {f : Addr} {fd : FuncData} (F : Fun K "_law_rows_all" "_law_rows_all" s__law_rows_all f fd) : FnG P w K mg base CX0 1 f fd ["share", "many"] (spD K 2 f__law_rows_all) :=
  fn_den (k := 0) (N := ["share", "many", "found", "lap", "later", "is_let", "row"]) F sc__law_rows_all fun cdv A outer s H E hr hgd => by
    have rm : Rm (A.deeper (envOfC "_law_rows_all" (defScope s__law_rows_all) s.heap.objs.size f cdv)) 0 := ⟨hr, hgd⟩
    have nd := sc__law_rows_all.nd
    exact gss_cons (gs_set 2 nd (ge_lst (ga_cons ge_bl ga_nil)))
        (gss_cons (gs_for (gi_range1 (ga_cons (ge_var 1) ga_nil) z_range) (gt_name 3 nd) (gss_cons (gs_own 4 nd (gl_lst ga_nil))
        (gss_cons (gs_for (gi_seq (ge_var 2)) (gt_name 5 nd) (gss_one (gs_expr (ge_extend 4 (gl_lc ([("row", 6)] : List (Str × Nat)) nd (gi_range1 (ga_cons (ge_ix ix_seq opg_ix (ge_var 0) ge_int) ga_nil) z_range) (blk_by (N := ["share", "many", "found", "lap", "later", "is_let", "row"]) (sc := defScope s__law_rows_all) (by decide +kernel)) (fun _ _ _ _ _ => gt_name 6 nd) (fun _ _ _ _ _ => gps_nil) (fun _ _ _ _ _ => ge_and (ge_var 5) (ge_one (ge_cmp op_lt opg_lt (ge_var 6) (ge_ix ix_seq opg_ix (ge_var 0) ge_int) (nomark _)))))))) PassesOwn.never)
        (gss_one (gs_set 2 nd (ge_frz 4))))) PassesOwn.never)
        (gss_one (gs_ret (ge_tup (ga_cons (ge_cntB rm (ge_var 2) (ga_cons ge_bl ga_nil)) (ga_cons (ge_callB cr_len cg_len (ga_cons (ge_var 2) ga_nil) z_len (hv := b_len)) ga_nil))))))
theorem ok__law_rows_led (z_len : mg "len" = none) (z_range : mg "range" = none) {f : Addr} {fd : FuncData} (F : Fun K "_law_rows_led" "_law_rows_led" s__law_rows_led f fd) : FnG P w K mg base CX0 1 f fd ["one", "other"] (spD K 2 f__law_rows_led) :=
  fn_den (k := 0) (N := ["one", "other", "found", "first", "second"]) F sc__law_rows_led fun cdv A outer s H E hr hgd => by
    have rm : Rm (A.deeper (envOfC "_law_rows_led" (defScope s__law_rows_led) s.heap.objs.size f cdv)) 0 := ⟨hr, hgd⟩
    have nd := sc__law_rows_led.nd
    exact gss_cons (gs_own 2 nd (gl_lst ga_nil))
        (gss_cons (gs_for (gi_range1 (ga_cons (ge_ix ix_seq opg_ix (ge_var 0) ge_int) ga_nil) z_range) (gt_name 3 nd) (gss_one (gs_expr (ge_extend 2 (gl_lc ([("second", 4)] : List (Str × Nat)) nd (gi_range1 (ga_cons (ge_ix ix_seq opg_ix (ge_var 1) ge_int) ga_nil) z_range) (blk_by (N := ["one", "other", "found", "first", "second"]) (sc := defScope s__law_rows_led) (by decide +kernel)) (fun _ _ _ _ _ => gt_name 4 nd) (fun _ _ _ _ _ => gps_nil) (fun _ _ _ _ _ => ge_or (ge_cmp op_lt opg_lt (ge_var 3) (ge_ix ix_seq opg_ix (ge_var 0) ge_int) (nomark _)) (ge_one (ge_cmp op_lt opg_lt (ge_var 4) (ge_ix ix_seq opg_ix (ge_var 1) ge_int) (nomark _)))))))) PassesOwn.never)
        (gss_one (gs_ret (ge_tup (ga_cons (ge_meth 2 PySem.F.slot_list_count PySem.F.type_list_count (mt_cntB rm.cnt) met_cntB (ga_cons ge_bl ga_nil)) (ga_cons (ge_lenO 2 z_len) ga_nil))))))
theorem ok__law_product (z_range : mg "range" = none) {f : Addr} {fd : FuncData} (F : Fun K "_law_product" "_law_product" s__law_product f fd) : FnG P w K mg base CX0 1 f fd ["number", "many"] (spD K 2 f__law_product) :=
  fn_den (k := 0) (N := ["number", "many", "found", "lap"]) F sc__law_product fun cdv A outer s H E hr hgd => by
    have rm : Rm (A.deeper (envOfC "_law_product" (defScope s__law_product) s.heap.objs.size f cdv)) 0 := ⟨hr, hgd⟩
    have nd := sc__law_product.nd
    exact gss_cons (gs_set 2 nd ge_int)
        (gss_cons (gs_for (gi_range1 (ga_cons (ge_var 1) ga_nil) z_range) (gt_name 3 nd) (gss_one (gs_set 2 nd (ge_op op_mulG opg_mul (ge_var 2) (ge_var 0)))) PassesOwn.never)
        (gss_one (gs_ret (ge_var 2))))
theorem ok_check_share (z_all : mg "all" = none) (z_isinstance : mg "isinstance" = none) (z_len : mg "len" = none) (z_tuple : mg "tuple" = none) (c_is_integer : Cal P w K mg base "is_integer" s_is_integer ["value"] 1 f_is_integer) {f : Addr} {fd : FuncData} (F : Fun K "check_share" "check_share" s_check_share f fd) : FnG P w K mg base CX0 2 f fd ["value"] (spD K 1 f_check_share) :=
  fn_den (k := 1) (N := ["value", "part"]) F sc_check_share fun cdv A outer s H E hr hgd => by
    have rm : Rm (A.deeper (envOfC "check_share" (defScope s_check_share) s.heap.objs.size f cdv)) 1 := ⟨hr, hgd⟩
    have nd := sc_check_share.nd
    exact gss_cons (gs_if (GW.gb (gw_or (gb_not (gb_val (ge_callB call_isi cg_isi (ga_cons (ge_var 0) (ga_cons (ge_ty z_tuple (hv := b_tuple)) ga_nil)) z_isinstance (hv := b_isinstance)))) (gw_or (gb_cmp (op_neDG rm.eq) opg_ne (ge_callB cr_len cg_len (ga_cons (ge_var 0) ga_nil) z_len (hv := b_len)) ge_int (nomark _)) (gw_or1 (gb_not (gb_val (ge_callB (cr_all rfl) cg_all (ga_cons (GL.ge (gl_lc ([("part", 1)] : List (Str × Nat)) nd (gi_seq (ge_var 0)) (blk_by (N := ["value", "part"]) (sc := defScope s_check_share) (by decide +kernel)) (fun _ _ _ _ _ => gt_name 1 nd) (fun _ _ _ _ _ => gps_nil) (fun _ _ _ _ _ => ge_call c_is_integer (rm.mono (by decide)) (gg_all (ga_cons (ge_var 1) ga_nil))))) ga_nil) z_all (hv := b_all)))))))) (gss_one gs_never) gss_nil)
        (gss_one (gs_if (GW.gb (gw_or (gb_not (gb_chain op_le op_le opg_le opg_le ge_int (ge_ix ix_seq opg_ix (ge_var 0) ge_int) (ge_ix ix_seq opg_ix (ge_var 0) ge_int))) (gw_or1 (gb_cmp op_lt opg_lt (ge_ix ix_seq opg_ix (ge_var 0) ge_int) ge_int (nomark _))))) (gss_one gs_never) gss_nil))
theorem ok__law_of (z_len : mg "len" = none) (c__law_take : Cal P w K mg base "_law_take" s__law_take ["pot", "upto"] 1 f__law_take) {f : Addr} {fd : FuncData} (F : Fun K "_law_of" "_law_of" s__law_of f fd) : FnG P w K mg base CX0 2 f fd ["pot", "some"] (spD K 2 f__law_of) :=
  fn_den (k := 1) (N := ["pot", "some"]) F sc__law_of fun cdv A outer s H E hr hgd => by
    have rm : Rm (A.deeper (envOfC "_law_of" (defScope s__law_of) s.heap.objs.size f cdv)) 1 := ⟨hr, hgd⟩
    have nd := sc__law_of.nd
    exact gss_one (gs_ret (ge_ix ix_seq opg_ix (ge_var 1) (ge_call c__law_take (rm.mono (by decide)) (gg_var 0 (ga_cons (ge_callB cr_len cg_len (ga_cons (ge_var 1) ga_nil) z_len (hv := b_len)) ga_nil)))))
theorem ok__law_share (z_int : mg "int" = none) (c__law_take : Cal P w K mg base "_law_take" s__law_take ["pot", "upto"] 1 f__law_take) {f : Addr} {fd : FuncData} (F : Fun K "_law_share" "_law_share" s__law_share f fd) : FnG P w K mg base CX0 2 f fd ["pot", "most"] (spD K 2 f__law_share) :=
  fn_den (k := 1) (N := ["pot", "most", "rows"]) F sc__law_share fun cdv A outer s H E hr hgd => by
    have rm : Rm (A.deeper (envOfC "_law_share" (defScope s__law_share) s.heap.objs.size f cdv)) 1 := ⟨hr, hgd⟩
    have nd := sc__law_share.nd
    exact gss_cons (gs_set 2 nd (ge_op op_addG opg_add ge_int (ge_call c__law_take (rm.mono (by decide)) (gg_var 0 (ga_cons (ge_var 1) ga_nil)))))
        (gss_one (gs_ret (ge_tup (ga_cons (ge_call c__law_take (rm.mono (by decide)) (gg_var 0 (ga_cons (ge_op op_addG opg_add (ge_var 2) ge_int) ga_nil))) (ga_cons (ge_callTy cr_int cg_int (ga_cons (ge_var 2) ga_nil) z_int (hv := b_int)) ga_nil)))))
theorem ok_repeated_share (g_MOST_TALKS : ∃ t, mg "MOST_TALKS" = some (.int 40 t)) (c_check_share : Cal P w K mg base "check_share" s_check_share ["value"] 2 f_check_share) (c_is_integer : Cal P w K mg base "is_integer" s_is_integer ["value"] 1 f_is_integer) (c_power_of : Cal P w K mg base "power_of" s_power_of ["number", "many"] 1 f_power_of) {f : Addr} {fd : FuncData} (F : Fun K "repeated_share" "repeated_share" s_repeated_share f fd) : FnG P w K mg base CX0 3 f fd ["share", "many"] (spD K 2 f_repeated_share) :=
  fn_den (k := 2) (N := ["share", "many"]) F sc_repeated_share fun cdv A outer s H E hr hgd => by
    have rm : Rm (A.deeper (envOfC "repeated_share" (defScope s_repeated_share) s.heap.objs.size f cdv)) 2 := ⟨hr, hgd⟩
    have nd := sc_repeated_share.nd
    exact gss_cons (gs_expr (ge_call c_check_share (rm.mono (by decide)) (gg_all (ga_cons (ge_var 0) ga_nil))))
        (gss_cons (gs_if (GW.gb (gw_or (gb_not (gb_val (ge_call c_is_integer (rm.mono (by decide)) (gg_all (ga_cons (ge_var 1) ga_nil))))) (gw_or1 (gb_not (gb_chain op_le op_le opg_le opg_le ge_int (ge_var 1) (ge_gint g_MOST_TALKS)))))) (gss_one gs_never) gss_nil)
        (gss_one (gs_ret (ge_tup (ga_cons (ge_call c_power_of (rm.mono (by decide)) (gg_all (ga_cons (ge_ix ix_seq opg_ix (ge_var 0) ge_int) (ga_cons (ge_var 1) ga_nil)))) (ga_cons (ge_call c_power_of (rm.mono (by decide)) (gg_all (ga_cons (ge_ix ix_seq opg_ix (ge_var 0) ge_int) (ga_cons (ge_var 1) ga_nil)))) ga_nil))))))
theorem ok_led_share (c_check_share : Cal P w K mg base "check_share" s_check_share ["value"] 2 f_check_share) {f : Addr} {fd : FuncData} (F : Fun K "led_share" "led_share" s_led_share f fd) : FnG P w K mg base CX0 3 f fd ["one", "other"] (spD K 2 f_led_share) :=
  fn_den (k := 2) (N := ["one", "other", "rows"]) F sc_led_share fun cdv A outer s H E hr hgd => by
    have rm : Rm (A.deeper (envOfC "led_share" (defScope s_led_share) s.heap.objs.size f cdv)) 2 := ⟨hr, hgd⟩
    have nd := sc_led_share.nd
    exact gss_cons (gs_expr (ge_call c_check_share (rm.mono (by decide)) (gg_all (ga_cons (ge_var 0) ga_nil))))
        (gss_cons (gs_expr (ge_call c_check_share (rm.mono (by decide)) (gg_all (ga_cons (ge_var 1) ga_nil))))
        (gss_cons (gs_set 2 nd (ge_op op_mulG opg_mul (ge_ix ix_seq opg_ix (ge_var 0) ge_int) (ge_ix ix_seq opg_ix (ge_var 1) ge_int)))
        (gss_one (gs_ret (ge_tup (ga_cons (ge_op op_sub opg_sub (ge_var 2) (ge_op op_mulG opg_mul (ge_op op_sub opg_sub (ge_ix ix_seq opg_ix (ge_var 0) ge_int) (ge_ix ix_seq opg_ix (ge_var 0) ge_int)) (ge_op op_sub opg_sub (ge_ix ix_seq opg_ix (ge_var 1) ge_int) (ge_ix ix_seq opg_ix (ge_var 1) ge_int)))) (ga_cons (ge_var 2) ga_nil)))))))
theorem ok_greater_share (c_check_share : Cal P w K mg base "check_share" s_check_share ["value"] 2 f_check_share) (c_is_at_most : Cal P w K mg base "is_at_most" s_is_at_most ["one", "other"] 1 f_is_at_most) {f : Addr} {fd : FuncData} (F : Fun K "greater_share" "greater_share" s_greater_share f fd) : FnG P w K mg base CX0 3 f fd ["one", "other"] (spD K 2 f_greater_share) :=
  fn_den (k := 2) (N := ["one", "other"]) F sc_greater_share fun cdv A outer s H E hr hgd => by
    have rm : Rm (A.deeper (envOfC "greater_share" (defScope s_greater_share) s.heap.objs.size f cdv)) 2 := ⟨hr, hgd⟩
    have nd := sc_greater_share.nd
    exact gss_cons (gs_expr (ge_call c_check_share (rm.mono (by decide)) (gg_all (ga_cons (ge_var 0) ga_nil))))
        (gss_cons (gs_expr (ge_call c_check_share (rm.mono (by decide)) (gg_all (ga_cons (ge_var 1) ga_nil))))
        (gss_one (gs_ret (ge_if (gb_val (ge_call c_is_at_most (rm.mono (by decide)) (gg_all (ga_cons (ge_var 1) (ga_cons (ge_var 0) ga_nil))))) (ge_var 0) (ge_var 1)))))
theorem ok__law_are_great_right (zd : PySem.W.nsIn K cStatics "sys.int_max_str_digits" = some none) (z_repr : mg "repr" = none) (c__law_of : Cal P w K mg base "_law_of" s__law_of ["pot", "some"] 2 f__law_of) (c__law_product : Cal P w K mg base "_law_product" s__law_product ["number", "many"] 1 f__law_product) (c__law_share : Cal P w K mg base "_law_share" s__law_share ["pot", "most"] 2 f__law_share) (c__law_take : Cal P w K mg base "_law_take" s__law_take ["pot", "upto"] 1 f__law_take) (c_greater_share : Cal P w K mg base "greater_share" s_greater_share ["one", "other"] 3 f_greater_share) (c_led_share : Cal P w K mg base "led_share" s_led_share ["one", "other"] 3 f_led_share) (c_repeated_share : Cal P w K mg base "repeated_share" s_repeated_share ["share", "many"] 3 f_repeated_share) {f : Addr} {fd : FuncData} (F : Fun K "_law_are_great_right" "_law_are_great_right" s__law_are_great_right f fd) : FnG P w K mg base CX0 4 f fd ["pot"] (spD K 1 f__law_are_great_right) :=
  fn_den (k := 3) (N := ["pot", "one", "other", "many", "due", "rows", "twice"]) F sc__law_are_great_right fun cdv A outer s H E hr hgd => by
    have rm : Rm (A.deeper (envOfC "_law_are_great_right" (defScope s__law_are_great_right) s.heap.objs.size f cdv)) 3 := ⟨hr, hgd⟩
    have nd := sc__law_are_great_right.nd
    exact gss_cons (gs_set 1 nd (ge_call c__law_of (rm.mono (by decide)) (gg_var 0 (ga_cons (ge_lst (ga_cons (ge_tup (ga_cons (ge_op op_sub opg_sub (ge_op op_powW opg_pow ge_int ge_int) ge_int) (ga_cons (ge_op op_powW opg_pow ge_int ge_int) ga_nil))) (ga_cons (ge_tup (ga_cons ge_int (ga_cons (ge_op op_powW opg_pow ge_int ge_int) ga_nil))) (ga_cons (ge_tup (ga_cons ge_int (ga_cons ge_int ga_nil))) (ga_cons (ge_tup (ga_cons ge_int (ga_cons ge_int ga_nil))) (ga_cons (ge_tup (ga_cons (ge_op op_sub opg_sub ge_int ge_int) (ga_cons ge_int ga_nil))) ga_nil)))))) ga_nil))))
        (gss_cons (gs_par2 2 3 nd (ga_cons (ge_call c__law_share (rm.mono (by decide)) (gg_var 0 (ga_cons ge_int ga_nil))) (ga_cons (ge_op op_addG opg_add ge_int (ge_call c__law_take (rm.mono (by decide)) (gg_var 0 (ga_cons ge_int ga_nil)))) ga_nil)))
        (gss_cons (gs_set 4 nd (ge_tup (ga_cons (ge_call c__law_product (rm.mono (by decide)) (gg_all (ga_cons (ge_ix ix_seq opg_ix (ge_var 1) ge_int) (ga_cons (ge_var 3) ga_nil)))) (ga_cons (ge_call c__law_product (rm.mono (by decide)) (gg_all (ga_cons (ge_ix ix_seq opg_ix (ge_var 1) ge_int) (ga_cons (ge_var 3) ga_nil)))) ga_nil))))
        (gss_cons (gs_if (gb_cmp (op_neDG rm.eq) opg_ne (ge_callB (cr_reprP rm zd) cg_reprP (ga_cons (ge_callK [1, 0] c_repeated_share (rm.mono (by decide)) (gk_cons (ge_var 3) (gk_cons (ge_var 1) gk_nil)) (by decide) (ks := ["many", "share"]) (fun _ _ _ _ _ _ ws hl => match ws, hl with | a0 :: a1 :: _, _ => rfl | [], hl => by simp [permV] at hl | [a0], hl => by simp [permV] at hl)) ga_nil) z_repr (hv := b_repr)) (ge_callB (cr_reprP rm zd) cg_reprP (ga_cons (ge_var 4) ga_nil) z_repr (hv := b_repr)) (nomark _)) (gss_one (gs_ret ge_bl)) gss_nil)
        (gss_cons (gs_set 5 nd (ge_op op_mulG opg_mul (ge_ix ix_seq opg_ix (ge_var 1) ge_int) (ge_ix ix_seq opg_ix (ge_var 2) ge_int)))
        (gss_cons (gs_if (gb_cmp (op_neDG rm.eq) opg_ne (ge_callB (cr_reprP rm zd) cg_reprP (ga_cons (ge_callK [1, 0] c_led_share (rm.mono (by decide)) (gk_cons (ge_var 2) (gk_cons (ge_var 1) gk_nil)) (by decide) (ks := ["other", "one"]) (fun _ _ _ _ _ _ ws hl => match ws, hl with | a0 :: a1 :: _, _ => rfl | [], hl => by simp [permV] at hl | [a0], hl => by simp [permV] at hl)) ga_nil) z_repr (hv := b_repr)) (ge_callB (cr_reprP rm zd) cg_reprP (ga_cons (ge_tup (ga_cons (ge_op op_sub opg_sub (ge_var 5) (ge_op op_mulG opg_mul (ge_op op_sub opg_sub (ge_ix ix_seq opg_ix (ge_var 1) ge_int) (ge_ix ix_seq opg_ix (ge_var 1) ge_int)) (ge_op op_sub opg_sub (ge_ix ix_seq opg_ix (ge_var 2) ge_int) (ge_ix ix_seq opg_ix (ge_var 2) ge_int)))) (ga_cons (ge_var 5) ga_nil))) ga_nil) z_repr (hv := b_repr)) (nomark _)) (gss_one (gs_ret ge_bl)) gss_nil)
        (gss_cons (gs_set 6 nd (ge_tup (ga_cons (ge_op op_mulG opg_mul (ge_ix ix_seq opg_ix (ge_var 2) ge_int) (ge_ix ix_seq opg_ix (ge_var 2) ge_int)) (ga_cons (ge_op op_mulG opg_mul (ge_ix ix_seq opg_ix (ge_var 2) ge_int) (ge_ix ix_seq opg_ix (ge_var 2) ge_int)) ga_nil))))
        (gss_cons (gs_set 5 nd (ge_op op_mulG opg_mul (ge_ix ix_seq opg_ix (ge_var 1) ge_int) (ge_ix ix_seq opg_ix (ge_var 6) ge_int)))
        (gss_cons (gs_if (gb_cmp (op_neDG rm.eq) opg_ne (ge_callB (cr_reprP rm zd) cg_reprP (ga_cons (ge_call c_led_share (rm.mono (by decide)) (gg_all (ga_cons (ge_var 1) (ga_cons (ge_call c_repeated_share (rm.mono (by decide)) (gg_all (ga_cons (ge_var 2) (ga_cons ge_int ga_nil)))) ga_nil)))) ga_nil) z_repr (hv := b_repr)) (ge_callB (cr_reprP rm zd) cg_reprP (ga_cons (ge_tup (ga_cons (ge_op op_sub opg_sub (ge_var 5) (ge_op op_mulG opg_mul (ge_op op_sub opg_sub (ge_ix ix_seq opg_ix (ge_var 1) ge_int) (ge_ix ix_seq opg_ix (ge_var 1) ge_int)) (ge_op op_sub opg_sub (ge_ix ix_seq opg_ix (ge_var 6) ge_int) (ge_ix ix_seq opg_ix (ge_var 6) ge_int)))) (ga_cons (ge_var 5) ga_nil))) ga_nil) z_repr (hv := b_repr)) (nomark _)) (gss_one (gs_ret ge_bl)) gss_nil)
        (gss_cons (gs_set 4 nd (ge_if (gb_cmp op_gt opg_gt (ge_op op_mulG opg_mul (ge_ix ix_seq opg_ix (ge_var 2) ge_int) (ge_ix ix_seq opg_ix (ge_var 1) ge_int)) (ge_op op_mulG opg_mul (ge_ix ix_seq opg_ix (ge_var 1) ge_int) (ge_ix ix_seq opg_ix (ge_var 2) ge_int)) (nomark _)) (ge_var 2) (ge_var 1)))
        (gss_one (gs_ret (ge_cmp (op_eqDG rm.eq) opg_eq (ge_callB (cr_reprP rm zd) cg_reprP (ga_cons (ge_call c_greater_share (rm.mono (by decide)) (gg_all (ga_cons (ge_var 1) (ga_cons (ge_var 2) ga_nil)))) ga_nil) z_repr (hv := b_repr)) (ge_callB (cr_reprP rm zd) cg_reprP (ga_cons (ge_var 4) ga_nil) z_repr (hv := b_repr)) (nomark _)))))))))))))
theorem ok__law_right (zd : PySem.W.nsIn K cStatics "sys.int_max_str_digits" = some none) (z_repr : mg "repr" = none) (c__law_are_great_right : Cal P w K mg base "_law_are_great_right" s__law_are_great_right ["pot"] 4 f__law_are_great_right) (c__law_rows_all : Cal P w K mg base "_law_rows_all" s__law_rows_all ["share", "many"] 1 f__law_rows_all) (c__law_rows_led : Cal P w K mg base "_law_rows_led" s__law_rows_led ["one", "other"] 1 f__law_rows_led) (c__law_share : Cal P w K mg base "_law_share" s__law_share ["pot", "most"] 2 f__law_share) (c__law_take : Cal P w K mg base "_law_take" s__law_take ["pot", "upto"] 1 f__law_take) (c_greater_share : Cal P w K mg base "greater_share" s_greater_share ["one", "other"] 3 f_greater_share) (c_led_share : Cal P w K mg base "led_share" s_led_share ["one", "other"] 3 f_led_share) (c_repeated_share : Cal P w K mg base "repeated_share" s_repeated_share ["share", "many"] 3 f_repeated_share) {f : Addr} {fd : FuncData} (F : Fun K "_law_right" "_law_right" s__law_right f fd) : FnG P w K mg base CX0 5 f fd ["pot"] (spD K 1 f__law_right) :=
  fn_den (k := 4) (N := ["pot", "one", "other", "many", "twice", "due"]) F sc__law_right fun cdv A outer s H E hr hgd => by
    have rm : Rm (A.deeper (envOfC "_law_right" (defScope s__law_right) s.heap.objs.size f cdv)) 4 := ⟨hr, hgd⟩
    have nd := sc__law_right.nd
    exact gss_cons (gs_par3 1 2 3 nd (ga_cons (ge_call c__law_share (rm.mono (by decide)) (gg_var 0 (ga_cons ge_int ga_nil))) (ga_cons (ge_call c__law_share (rm.mono (by decide)) (gg_var 0 (ga_cons ge_int ga_nil))) (ga_cons (ge_op op_addG opg_add ge_int (ge_call c__law_take (rm.mono (by decide)) (gg_var 0 (ga_cons ge_int ga_nil)))) ga_nil))))
        (gss_cons (gs_if (gb_cmp (op_neDG rm.eq) opg_ne (ge_callB (cr_reprP rm zd) cg_reprP (ga_cons (ge_call c_repeated_share (rm.mono (by decide)) (gg_all (ga_cons (ge_var 1) (ga_cons (ge_var 3) ga_nil)))) ga_nil) z_repr (hv := b_repr)) (ge_callB (cr_reprP rm zd) cg_reprP (ga_cons (ge_call c__law_rows_all (rm.mono (by decide)) (gg_all (ga_cons (ge_var 1) (ga_cons (ge_var 3) ga_nil)))) ga_nil) z_repr (hv := b_repr)) (nomark _)) (gss_one (gs_ret ge_bl)) gss_nil)
        (gss_cons (gs_if (gb_cmp (op_neDG rm.eq) opg_ne (ge_callB (cr_reprP rm zd) cg_reprP (ga_cons (ge_call c_led_share (rm.mono (by decide)) (gg_all (ga_cons (ge_var 1) (ga_cons (ge_var 2) ga_nil)))) ga_nil) z_repr (hv := b_repr)) (ge_callB (cr_reprP rm zd) cg_reprP (ga_cons (ge_call c__law_rows_led (rm.mono (by decide)) (gg_all (ga_cons (ge_var 1) (ga_cons (ge_var 2) ga_nil)))) ga_nil) z_repr (hv := b_repr)) (nomark _)) (gss_one (gs_ret ge_bl)) gss_nil)
        (gss_cons (gs_if (gb_cmp (op_neDG rm.eq) opg_ne (ge_callB (cr_reprP rm zd) cg_reprP (ga_cons (ge_call c_led_share (rm.mono (by decide)) (gg_all (ga_cons (ge_var 2) (ga_cons (ge_var 1) ga_nil)))) ga_nil) z_repr (hv := b_repr)) (ge_callB (cr_reprP rm zd) cg_reprP (ga_cons (ge_call c__law_rows_led (rm.mono (by decide)) (gg_all (ga_cons (ge_var 2) (ga_cons (ge_var 1) ga_nil)))) ga_nil) z_repr (hv := b_repr)) (nomark _)) (gss_one (gs_ret ge_bl)) gss_nil)
        (gss_cons (gs_set 4 nd (ge_tup (ga_cons (ge_op op_mulG opg_mul ge_int (ge_ix ix_seq opg_ix (ge_var 1) ge_int)) (ga_cons (ge_op op_mulG opg_mul ge_int (ge_ix ix_seq opg_ix (ge_var 1) ge_int)) ga_nil))))
        (gss_cons (gs_if (gb_cmp (op_neDG rm.eq) opg_ne (ge_callB (cr_reprP rm zd) cg_reprP (ga_cons (ge_lst (ga_cons (ge_call c_greater_share (rm.mono (by decide)) (gg_all (ga_cons (ge_var 1) (ga_cons (ge_var 4) ga_nil)))) (ga_cons (ge_call c_greater_share (rm.mono (by decide)) (gg_all (ga_cons (ge_var 4) (ga_cons (ge_var 1) ga_nil)))) ga_nil))) ga_nil) z_repr (hv := b_repr)) (ge_callB (cr_reprP rm zd) cg_reprP (ga_cons (ge_lst (ga_cons (ge_var 1) (ga_cons (ge_var 4) ga_nil))) ga_nil) z_repr (hv := b_repr)) (nomark _)) (gss_one (gs_ret ge_bl)) gss_nil)
        (gss_cons (gs_set 5 nd (ge_if (gb_cmp op_gt opg_gt (ge_op op_mulG opg_mul (ge_ix ix_seq opg_ix (ge_var 2) ge_int) (ge_ix ix_seq opg_ix (ge_var 1) ge_int)) (ge_op op_mulG opg_mul (ge_ix ix_seq opg_ix (ge_var 1) ge_int) (ge_ix ix_seq opg_ix (ge_var 2) ge_int)) (nomark _)) (ge_var 2) (ge_var 1)))
        (gss_one (gs_ret (ge_and (ge_cmp (op_eqDG rm.eq) opg_eq (ge_callB (cr_reprP rm zd) cg_reprP (ga_cons (ge_callK [1, 0] c_greater_share (rm.mono (by decide)) (gk_cons (ge_var 2) (gk_cons (ge_var 1) gk_nil)) (by decide) (ks := ["other", "one"]) (fun _ _ _ _ _ _ ws hl => match ws, hl with | a0 :: a1 :: _, _ => rfl | [], hl => by simp [permV] at hl | [a0], hl => by simp [permV] at hl)) ga_nil) z_repr (hv := b_repr)) (ge_callB (cr_reprP rm zd) cg_reprP (ga_cons (ge_var 5) ga_nil) z_repr (hv := b_repr)) (nomark _)) (ge_one (ge_call c__law_are_great_right (rm.mono (by decide)) (gg_var 0 ga_nil))))))))))))
theorem ok_law (z_all : mg "all" = none) (c__law_cells : Cal P w K mg base "_law_cells" s__law_cells ["script", "most"] 1 f__law_cells) (c__law_pot : Cal P w K mg base "_law_pot" s__law_pot ["script", "place"] 1 f__law_pot) (c__law_right : Cal P w K mg base "_law_right" s__law_right ["pot"] 5 f__law_right) {f : Addr} {fd : FuncData} (F : Fun K "law" "law" s_law f fd) : FnG P w K mg base CX0 6 f fd ["script"] (spD K 1 f_law) :=
  fn_den (k := 5) (N := ["script", "place"]) F sc_law fun cdv A outer s H E hr hgd => by
    have rm : Rm (A.deeper (envOfC "law" (defScope s_law) s.heap.objs.size f cdv)) 5 := ⟨hr, hgd⟩
    have nd := sc_law.nd
    exact gss_one (gs_ret (ge_callB (cr_all rfl) cg_all (ga_cons (GL.ge (gl_lc ([("place", 1)] : List (Str × Nat)) nd (gi_seq (ge_call c__law_cells (rm.mono (by decide)) (gg_all (ga_cons (ge_var 0) (ga_cons ge_int ga_nil))))) (blk_by (N := ["script", "place"]) (sc := defScope s_law) (by decide +kernel)) (fun _ _ _ _ _ => gt_name 1 nd) (fun _ _ _ _ _ => gps_nil) (fun _ _ _ _ _ => ge_call c__law_right (rm.mono (by decide)) (gg_fr (gl_call c__law_pot (rm.mono (by decide)) (gg_all (ga_cons (ge_var 0) (ga_cons (ge_var 1) ga_nil)))) ga_nil)))) ga_nil) z_all (hv := b_all)))
end
end Dn.k45
end
section
namespace Dn.k45
open PySem PySem.Spec PyProof.Rows L2 Dn
set_option maxHeartbeats 1000000
theorem is_integer_int (i : Int) : f_is_integer [.fz (.int i)] = some (.d (.bl true), [.un]) := by
  simp only [f_is_integer, b_is_integer, bnd_some, lft_some, SSeq, SAsg, SRet, SRetL, SRetN, SIf, SPar2, SPar3, SAugO, IEnum, LBin, LOf, SFor, SDrop, SOwn, SNx, FVar, FFrz, FC, FBin, FUn, FCall, FChain, FAnd, FOr, FNot, FIf, FTup, FLst, FSl, ONone, OSome, FIxO, FExt, FOf, FCallE, FCallL, FCallK, BVal, BAnd, BOr, BNot, BYes, LDisp, ISeq, IZip, IZipM, seqZ, TName, TTup, TCons, TNil, ANil, ACons, GAll, GVar, GFr, callR, parS, wipeS, backS, List.getElem?_cons_zero, List.getElem?_cons_succ, List.getElem?_nil, List.set_cons_zero, List.set_cons_succ, List.length_cons, List.length_nil, List.map_cons, List.map_nil, List.nil_append, List.cons_append, List.append_nil, List.length_append, Option.map_some, Option.map_none, Option.bind_some, Option.some.injEq, Bool.false_eq_true, if_true, if_false, reduceIte, Bool.not_true, Bool.not_false, Nat.reduceLT, Nat.reduceAdd, Nat.reduceLeDiff, Nat.zero_add, decide_true, decide_false, true_and, false_and, and_true, and_self, gLt_int, gLe_int, gGt_int, gGe_int, gAdd_int, gSub_int, gInt_int, gInt_bl, gLen_tup, gLen_lst, gLen_frl, gTuple_lst, gTuple_tup, gEq_int, gNe_int, isi_int_int, isi_int_bool, isi_tup_tup, fDef, fEnd, outs, List.replicate, Nat.sub_self, Nat.reduceSub, not_true_eq_false, not_false_eq_true]
theorem take_big {k : Nat} {x y z u : Int} (hx : 0 < x) (hu : 1 ≤ u) (hu2 : u < 1152921504606846976) :
    f__law_take [.ow (some 0) [.int x, .int y, .int z], .fz (.int u)] = some (.d (.int (x % u)), [.ow (some 0) [.int (x / u), .int y, .int z], .un]) := by
  have a0 : atI [D.int x, .int y, .int z] 0 = some (.int x) := rfl
  have a1 : ixN [D.int x, .int y, .int z].length 0 = some 0 := rfl
  have a2 : ixN 3 0 = some 0 := rfl
  have m := gMod_int (i := x) (j := u) (by omega)
  have d := gDiv_int (i := x) (j := u) (by omega) hu2
  simp only [f__law_take, b__law_take, TSubO, a0, a1, a2, hx, m, d, bnd_some, lft_some, SSeq, SAsg, SRet, SRetL, SRetN, SIf, SPar2, SPar3, SAugO, IEnum, LBin, LOf, SFor, SDrop, SOwn, SNx, FVar, FFrz, FC, FBin, FUn, FCall, FChain, FAnd, FOr, FNot, FIf, FTup, FLst, FSl, ONone, OSome, FIxO, FExt, FOf, FCallE, FCallL, FCallK, BVal, BAnd, BOr, BNot, BYes, LDisp, ISeq, IZip, IZipM, seqZ, TName, TTup, TCons, TNil, ANil, ACons, GAll, GVar, GFr, callR, parS, wipeS, backS, List.getElem?_cons_zero, List.getElem?_cons_succ, List.getElem?_nil, List.set_cons_zero, List.set_cons_succ, List.length_cons, List.length_nil, List.map_cons, List.map_nil, List.nil_append, List.cons_append, List.append_nil, List.length_append, Option.map_some, Option.map_none, Option.bind_some, Option.some.injEq, Bool.false_eq_true, if_true, if_false, reduceIte, Bool.not_true, Bool.not_false, Nat.reduceLT, Nat.reduceAdd, Nat.reduceLeDiff, Nat.zero_add, decide_true, decide_false, true_and, false_and, and_true, and_self, gLt_int, gLe_int, gGt_int, gGe_int, gAdd_int, gSub_int, gInt_int, gInt_bl, gLen_tup, gLen_lst, gLen_frl, gTuple_lst, gTuple_tup, gEq_int, gNe_int, isi_int_int, isi_int_bool, isi_tup_tup, fDef, fEnd, outs, List.replicate, Nat.sub_self, Nat.reduceSub, not_true_eq_false, not_false_eq_true]
theorem take_small {k : Nat} {x y z u : Int} (hx : x ≤ 0) (hy : 0 ≤ y) (hy2 : y < 2305843009213693921) (hz : 0 ≤ z) (hz2 : z < 1000000) (hu : 1 ≤ u) :
    ∃ r : Int, f__law_take [.ow (some 0) [.int x, .int y, .int z], .fz (.int u)] = some (.d (.int r), [.ow (some 0) [.int x, .int y, .int (z + 1)], .un]) ∧ 0 ≤ r ∧ r < u := by
  have a0 : atI [D.int x, .int y, .int z] 0 = some (.int x) := rfl
  have a1 : atI [D.int x, .int y, .int z] 2 = some (.int z) := rfl
  have a2 : ixN 3 2 = some 2 := rfl
  have b1 : atI [D.int x, .int y, .int (z + 1)] 2 = some (.int (z + 1)) := rfl
  have b2 : atI [D.int x, .int y, .int (z + 1)] 1 = some (.int y) := rfl
  have hx' : ¬ (0 < x) := by omega
  have m5 := gMod_int (i := z + 1) (j := 5) (by decide)
  obtain ⟨q, hq, hq1, hq2⟩ := prs ((z + 1) % 5) (by omega) (by omega)
  have p1 := gMul_small (i := 98299) (j := z + 1) (by omega) (by omega)
  have zz : 0 ≤ (z + 1) * (z + 1) ∧ (z + 1) * (z + 1) ≤ 1000000 * 1000000 := ⟨Int.mul_nonneg (by omega) (by omega), Int.mul_le_mul (by omega) (by omega) (by omega) (by omega)⟩
  have ez : 98299 * (z + 1) * (z + 1) = 98299 * ((z + 1) * (z + 1)) := Int.mul_assoc ..
  have p2 := gMul_small (i := 98299 * (z + 1)) (j := z + 1) (by omega) (by omega)
  have pw := gPow_int (i := y + 98299 * (z + 1) * (z + 1) + 467) (j := 3) 80 (by decide) (abs_lt_pow (by simp only [Nat.reducePow]; omega) (by simp only [Nat.reducePow]; omega)) (by decide) (by decide)
  generalize ht : (y + 98299 * (z + 1) * (z + 1) + 467) ^ (Int.toNat 3) = t at pw
  have m1 := gMod_int (i := t) (j := q) (by omega)
  have c1 : 0 ≤ t % q ∧ t % q < q := ⟨Int.emod_nonneg _ (by omega), Int.emod_lt_of_pos _ (by omega)⟩
  generalize t % q = b at m1 c1
  have m2 := gMod_int (i := b) (j := 10009) (by decide)
  have p3 := gMul_small (i := 89) (j := z + 1) (by omega) (by omega)
  have p4 := gMul_small (i := b) (j := b % 10009 + 89 * (z + 1)) (by omega) (by omega)
  have m3 := gMod_int (i := b * (b % 10009 + 89 * (z + 1))) (j := 2305843009213693907) (by decide)
  generalize b * (b % 10009 + 89 * (z + 1)) % 2305843009213693907 = c at m3
  have d1 := gDiv_int (i := c) (j := 173) (by decide) (by decide)
  have m4 := gMod_int (i := c / 173) (j := u) (by omega)
  refine ⟨c / 173 % u, ?_, Int.emod_nonneg _ (by omega), Int.emod_lt_of_pos _ (by omega)⟩
  simp only [f__law_take, b__law_take, TSubO, a0, a1, a2, b1, b2, hx', m5, hq, p1, p2, pw, m1, m2, p3, p4, m3, d1, m4, bnd_some, lft_some, SSeq, SAsg, SRet, SRetL, SRetN, SIf, SPar2, SPar3, SAugO, IEnum, LBin, LOf, SFor, SDrop, SOwn, SNx, FVar, FFrz, FC, FBin, FUn, FCall, FChain, FAnd, FOr, FNot, FIf, FTup, FLst, FSl, ONone, OSome, FIxO, FExt, FOf, FCallE, FCallL, FCallK, BVal, BAnd, BOr, BNot, BYes, LDisp, ISeq, IZip, IZipM, seqZ, TName, TTup, TCons, TNil, ANil, ACons, GAll, GVar, GFr, callR, parS, wipeS, backS, List.getElem?_cons_zero, List.getElem?_cons_succ, List.getElem?_nil, List.set_cons_zero, List.set_cons_succ, List.length_cons, List.length_nil, List.map_cons, List.map_nil, List.nil_append, List.cons_append, List.append_nil, List.length_append, Option.map_some, Option.map_none, Option.bind_some, Option.some.injEq, Bool.false_eq_true, if_true, if_false, reduceIte, Bool.not_true, Bool.not_false, Nat.reduceLT, Nat.reduceAdd, Nat.reduceLeDiff, Nat.zero_add, decide_true, decide_false, true_and, false_and, and_true, and_self, gLt_int, gLe_int, gGt_int, gGe_int, gAdd_int, gSub_int, gInt_int, gInt_bl, gLen_tup, gLen_lst, gLen_frl, gTuple_lst, gTuple_tup, gEq_int, gNe_int, isi_int_int, isi_int_bool, isi_tup_tup, fDef, fEnd, outs, List.replicate, Nat.sub_self, Nat.reduceSub, not_true_eq_false, not_false_eq_true]
/-- a take -/
theorem take_ok {k : Nat} {ds : List D} {u : Int} (h : Pot k ds) (hk : k < 1000000) (hu : 1 ≤ u) (hu2 : u < 1152921504606846976) :
    ∃ (r : Int) (es : List D), f__law_take [.ow (some 0) ds, .fz (.int u)] = some (.d (.int r), [.ow (some 0) es, .un]) ∧ 0 ≤ r ∧ r < u ∧ Pot (k + 1) es := by
  obtain ⟨x, y, z, rfl, x0, x1, y0, y1, z0, z1⟩ := h
  by_cases hx : 0 < x
  · refine ⟨x % u, _, take_big (k := k) hx hu hu2, Int.emod_nonneg _ (by omega), Int.emod_lt_of_pos _ (by omega), x / u, y, z, rfl, Int.ediv_nonneg x0 (by omega), ?_, y0, y1, z0, by omega⟩
    have : x / u ≤ x := Int.ediv_le_self _ x0
    omega
  · obtain ⟨r, h1, h2, h3⟩ := take_small (k := k) (x := x) (y := y) (z := z) (u := u) (by omega) y0 y1 z0 (by omega) hu
    exact ⟨r, _, h1, h2, h3, x, y, z + 1, rfl, x0, x1, y0, y1, by omega, by omega⟩
theorem pot_ok (ns : List Int) (i : Int) (h0 : 0 ≤ i) (h1 : i < 1000000) : ∃ ds : List D, f__law_pot [.fz (.frl (ns.map D.int)), .fz (.int i)] = some (.l ds, [.un, .un]) ∧ Pot 0 ds := by
  have key : ∀ c : Int, ∃ o : Int, gMod (.int (if c < 0 then -c else c)) (.int (10 ^ 300)) = some (.int ((if c < 0 then -c else c) % 10 ^ 300)) ∧ gMul (.int ((if c < 0 then -c else c) % 10 ^ 300)) (.int (if decide ((10 : Int) ^ 18 ≤ (if c < 0 then -c else c)) = true then 1 else 0)) = some (.int o) ∧ 0 ≤ o ∧ o < 10 ^ 300 := fun c => by
    have e := abs_mod c
    have hm := gMod_int (i := if c < 0 then -c else c) (j := 10 ^ 300) pow_pos300
    generalize (if c < 0 then -c else c) % 10 ^ 300 = a at e hm ⊢
    have ep := pow_lt
    generalize hP : (10 : Int) ^ 300 = P at e ep hm ⊢
    generalize hb : decide ((10 : Int) ^ 18 ≤ (if c < 0 then -c else c)) = b
    have m := gMul_int (i := a) (j := if b = true then 1 else 0) 1000 2 (abs_lt_pow (by omega) (by omega)) (by cases b <;> decide) (by decide) (by decide) (by decide)
    refine ⟨_, hm, m, ?_, ?_⟩
    · cases b <;> simp <;> omega
    · cases b <;> simp <;> omega
  have tail : ∀ c : Int, ∃ y : Int, gMod (.int c) (.int 2305843009213693951) = some (.int (c % 2305843009213693951)) ∧ gMul (.int (c % 2305843009213693951)) (.int 73199) = some (.int (c % 2305843009213693951 * 73199)) ∧
      gMod (.int (c % 2305843009213693951 * 73199 + 8093 * i * i + 470)) (.int 2305843009213693921) = some (.int y) ∧ 0 ≤ y ∧ y < 2305843009213693921 := fun c => by
    have e1 := Int.emod_nonneg c (b := 2305843009213693951) (by decide)
    have e2 := Int.emod_lt_of_pos c (b := 2305843009213693951) (by decide)
    refine ⟨_, gMod_int (by decide), gMul_int 62 20 (abs_lt_pow (by simp only [Nat.reducePow]; omega) (by simp only [Nat.reducePow]; omega)) (by decide) (by decide) (by decide) (by decide), gMod_int (by decide), Int.emod_nonneg _ (by decide), Int.emod_lt_of_pos _ (by decide)⟩
  have p1 := gMul_small (i := 8093) (j := i) (by omega) (by omega)
  have p2 := gMul_small (i := 8093 * i) (j := i) ⟨by have := Int.mul_nonneg (show 0 ≤ 8093 * i by omega) h0; omega, by have := Int.mul_le_mul (show 8093 * i ≤ 8093 * 1000000 by omega) (show i ≤ 1000000 by omega) h0 (by omega); omega⟩ (by omega)
  by_cases h : i < (ns.length : Int)
  · have ix : gIx (.frl (ns.map D.int)) (.int i) = some (.int (ns[i.toNat]'(by omega))) := gIx_frl h0 (by rw [List.getElem?_map, List.getElem?_eq_getElem (by omega)]; rfl)
    generalize ns[i.toNat]'(by omega) = c at ix
    obtain ⟨o, k1, k2, k3, k4⟩ := key c
    obtain ⟨y, q1, q2, q3, q4, q5⟩ := tail c
    refine ⟨[.int o, .int y, .int 0], ?_, o, y, 0, rfl, k3, k4, q4, q5, by omega, by omega⟩
    simp only [f__law_pot, b__law_pot, List.length_map, h, ix, gAbs_int, pow300, pow300b, pow18, k1, k2, q1, q2, q3, p1, p2, bnd_some, lft_some, SSeq, SAsg, SRet, SRetL, SRetN, SIf, SPar2, SPar3, SAugO, IEnum, LBin, LOf, SFor, SDrop, SOwn, SNx, FVar, FFrz, FC, FBin, FUn, FCall, FChain, FAnd, FOr, FNot, FIf, FTup, FLst, FSl, ONone, OSome, FIxO, FExt, FOf, FCallE, FCallL, FCallK, BVal, BAnd, BOr, BNot, BYes, LDisp, ISeq, IZip, IZipM, seqZ, TName, TTup, TCons, TNil, ANil, ACons, GAll, GVar, GFr, callR, parS, wipeS, backS, List.getElem?_cons_zero, List.getElem?_cons_succ, List.getElem?_nil, List.set_cons_zero, List.set_cons_succ, List.length_cons, List.length_nil, List.map_cons, List.map_nil, List.nil_append, List.cons_append, List.append_nil, List.length_append, Option.map_some, Option.map_none, Option.bind_some, Option.some.injEq, Bool.false_eq_true, if_true, if_false, reduceIte, Bool.not_true, Bool.not_false, Nat.reduceLT, Nat.reduceAdd, Nat.reduceLeDiff, Nat.zero_add, decide_true, decide_false, true_and, false_and, and_true, and_self, gLt_int, gLe_int, gGt_int, gGe_int, gAdd_int, gSub_int, gInt_int, gInt_bl, gLen_tup, gLen_lst, gLen_frl, gTuple_lst, gTuple_tup, gEq_int, gNe_int, isi_int_int, isi_int_bool, isi_tup_tup, fDef, fEnd, outs, List.replicate, Nat.sub_self, Nat.reduceSub, not_true_eq_false, not_false_eq_true]
  · have s1 := gSum_ints (ns.take 1)
    have m1 := gMod_int (i := (ns.take 1).sum) (j := 1000003) (by decide)
    have p3 := gMul_small (i := 1154) (j := i) (by omega) (by omega)
    generalize (ns.take 1).sum % 1000003 = b at m1
    obtain ⟨o, k1, k2, k3, k4⟩ := key (b + 1154 * i + 529)
    obtain ⟨y, q1, q2, q3, q4, q5⟩ := tail (b + 1154 * i + 529)
    refine ⟨[.int o, .int y, .int 0], ?_, o, y, 0, rfl, k3, k4, q4, q5, by omega, by omega⟩
    simp only [f__law_pot, b__law_pot, List.length_map, h, gSl_frl1, s1, m1, p3, gAbs_int, pow300, pow300b, pow18, k1, k2, q1, q2, q3, p1, p2, bnd_some, lft_some, SSeq, SAsg, SRet, SRetL, SRetN, SIf, SPar2, SPar3, SAugO, IEnum, LBin, LOf, SFor, SDrop, SOwn, SNx, FVar, FFrz, FC, FBin, FUn, FCall, FChain, FAnd, FOr, FNot, FIf, FTup, FLst, FSl, ONone, OSome, FIxO, FExt, FOf, FCallE, FCallL, FCallK, BVal, BAnd, BOr, BNot, BYes, LDisp, ISeq, IZip, IZipM, seqZ, TName, TTup, TCons, TNil, ANil, ACons, GAll, GVar, GFr, callR, parS, wipeS, backS, List.getElem?_cons_zero, List.getElem?_cons_succ, List.getElem?_nil, List.set_cons_zero, List.set_cons_succ, List.length_cons, List.length_nil, List.map_cons, List.map_nil, List.nil_append, List.cons_append, List.append_nil, List.length_append, Option.map_some, Option.map_none, Option.bind_some, Option.some.injEq, Bool.false_eq_true, if_true, if_false, reduceIte, Bool.not_true, Bool.not_false, Nat.reduceLT, Nat.reduceAdd, Nat.reduceLeDiff, Nat.zero_add, decide_true, decide_false, true_and, false_and, and_true, and_self, gLt_int, gLe_int, gGt_int, gGe_int, gAdd_int, gSub_int, gInt_int, gInt_bl, gLen_tup, gLen_lst, gLen_frl, gTuple_lst, gTuple_tup, gEq_int, gNe_int, isi_int_int, isi_int_bool, isi_tup_tup, fDef, fEnd, outs, List.replicate, Nat.sub_self, Nat.reduceSub, not_true_eq_false, not_false_eq_true]
theorem cells_ok (xs : List D) : ∃ n : Nat, n ≤ 3 ∧ f__law_cells [.fz (.frl xs), .fz (.int 3)] = some (.d (.lst ((List.range n).map fun i => D.int (i : Nat))), [.un, .un]) := by
  have key : ∀ l : Int, ∃ n : Nat, n ≤ 3 ∧ gMax [.int 1, .int (if l < 3 then l else 3)] = some (.int (n : Nat)) := fun l => by
    refine ⟨(if (if l < 3 then l else 3) > 1 then (if l < 3 then l else 3) else 1).toNat, ?_, ?_⟩
    · split <;> split <;> omega
    · show some (D.int (if (if l < 3 then l else 3) > 1 then (if l < 3 then l else 3) else 1)) = _
      congr 2
      split <;> split <;> omega
  obtain ⟨n, h1, h2⟩ := key (xs.length : Nat)
  refine ⟨n, h1, ?_⟩
  have mn : gMin [.int 3, .int (xs.length : Nat)] = some (.int (if (xs.length : Int) < 3 then (xs.length : Int) else 3)) := rfl
  have lr : LRg1 (FCall gMax (ACons (FC (.int 1)) (ACons (FCall gMin (ACons (FVar 1) (ACons (FCall gLen (ACons (FVar 0) ANil)) ANil))) ANil))) [.fz (.frl xs), .fz (.int 3)] = some ((List.range n).map fun i => D.int (i : Nat), [.fz (.frl xs), .fz (.int 3)]) := by
    have e : FCall gMax (ACons (FC (.int 1)) (ACons (FCall gMin (ACons (FVar 1) (ACons (FCall gLen (ACons (FVar 0) ANil)) ANil))) ANil)) [.fz (.frl xs), .fz (.int 3)] = some (.int (n : Nat), [.fz (.frl xs), .fz (.int 3)]) := by
      generalize hl : ((xs.length : Nat) : Int) = l at h2 mn
      simp only [hl, mn, h2, bnd_some, lft_some, SSeq, SAsg, SRet, SRetL, SRetN, SIf, SPar2, SPar3, SAugO, IEnum, LBin, LOf, SFor, SDrop, SOwn, SNx, FVar, FFrz, FC, FBin, FUn, FCall, FChain, FAnd, FOr, FNot, FIf, FTup, FLst, FSl, ONone, OSome, FIxO, FExt, FOf, FCallE, FCallL, FCallK, BVal, BAnd, BOr, BNot, BYes, LDisp, ISeq, IZip, IZipM, seqZ, TName, TTup, TCons, TNil, ANil, ACons, GAll, GVar, GFr, callR, parS, wipeS, backS, List.getElem?_cons_zero, List.getElem?_cons_succ, List.getElem?_nil, List.set_cons_zero, List.set_cons_succ, List.length_cons, List.length_nil, List.map_cons, List.map_nil, List.nil_append, List.cons_append, List.append_nil, List.length_append, Option.map_some, Option.map_none, Option.bind_some, Option.some.injEq, Bool.false_eq_true, if_true, if_false, reduceIte, Bool.not_true, Bool.not_false, Nat.reduceLT, Nat.reduceAdd, Nat.reduceLeDiff, Nat.zero_add, decide_true, decide_false, true_and, false_and, and_true, and_self, gLt_int, gLe_int, gGt_int, gGe_int, gAdd_int, gSub_int, gInt_int, gInt_bl, gLen_tup, gLen_lst, gLen_frl, gTuple_lst, gTuple_tup, gEq_int, gNe_int, isi_int_int, isi_int_bool, isi_tup_tup, fDef, fEnd, outs, List.replicate, Nat.sub_self, Nat.reduceSub, not_true_eq_false, not_false_eq_true]
    unfold LRg1
    rw [e, bnd_some]
    dsimp only
    rw [if_pos ⟨by omega, by omega⟩, rngD_eq, Int.toNat_natCast]
  have b : b__law_cells [.fz (.frl xs), .fz (.int 3)] = some (.ret (.lst ((List.range n).map fun i => D.int (i : Nat))), [.fz (.frl xs), .fz (.int 3)]) := by
    unfold b__law_cells SRet FOf
    rw [lr]
    rfl
  exact fDef_ret rfl rfl b rfl
end Dn.k45
end
section
namespace Dn.k45
open PySem PySem.Spec PyProof.Rows L2 Dn
set_option maxHeartbeats 1000000
/-- a share -/
abbrev Sh (a b : Int) : D := .tup [.int a, .int b]
structure Ok (a b : Int) : Prop where
  h0 : 0 ≤ a
  h1 : a ≤ b
  h2 : 1 ≤ b
theorem cs_s (L : FL) (S : D) (a b : Int) (xs : List D) (h : Ok a b) (ht : gIsi [S, .ty "tuple"] = some (.bl true)) (hl : gLen [S] = some (.int 2)) (i0 : gIx S (.int 0) = some (.int a)) (i1 : gIx S (.int 1) = some (.int b))
    (hL : L [.fz S, .un] = some (xs, [.fz S, .un])) (al : gAll [.lst xs] = some (.bl true)) :
    SSeq (SIf (BOr (BNot (BVal (FCall gIsi (ACons (FVar 0) (ACons (FC (.ty "tuple")) ANil))))) (BOr (BVal (FBin gNe (FCall gLen (ACons (FVar 0) ANil)) (FC (.int 2)))) (BNot (BVal (FCall gAll (ACons (FOf L) ANil)))))) SNo SNx)
  (SIf (BOr (BNot (BVal (FChain gLe gLe (FC (.int 0)) (FBin gIx (FVar 0) (FC (.int 0))) (FBin gIx (FVar 0) (FC (.int 1)))))) (BVal (FBin gLt (FBin gIx (FVar 0) (FC (.int 1))) (FC (.int 1))))) SNo SNx) [.fz S, .un] = some (.nx, [.fz S, .un]) := by
  have g0 := h.h0
  have g1 := h.h1
  have g2 : ¬ (b < 1) := by have := h.h2; omega
  have l2 : gNe (.int 2) (.int 2) = some (.bl false) := rfl
  simp only [ht, hl, hL, al, i0, i1, g0, g1, g2, l2, bnd_some, lft_some, SSeq, SAsg, SRet, SRetL, SRetN, SIf, SPar2, SPar3, SAugO, IEnum, LBin, LOf, SFor, SDrop, SOwn, SNx, FVar, FFrz, FC, FBin, FUn, FCall, FChain, FAnd, FOr, FNot, FIf, FTup, FLst, FSl, ONone, OSome, FIxO, FExt, FOf, FCallE, FCallL, FCallK, BVal, BAnd, BOr, BNot, BYes, LDisp, ISeq, IZip, IZipM, seqZ, TName, TTup, TCons, TNil, ANil, ACons, GAll, GVar, GFr, callR, parS, wipeS, backS, List.getElem?_cons_zero, List.getElem?_cons_succ, List.getElem?_nil, List.set_cons_zero, List.set_cons_succ, List.length_cons, List.length_nil, List.map_cons, List.map_nil, List.nil_append, List.cons_append, List.append_nil, List.length_append, Option.map_some, Option.map_none, Option.bind_some, Option.some.injEq, Bool.false_eq_true, if_true, if_false, reduceIte, Bool.not_true, Bool.not_false, Nat.reduceLT, Nat.reduceAdd, Nat.reduceLeDiff, Nat.zero_add, decide_true, decide_false, true_and, false_and, and_true, and_self, gLt_int, gLe_int, gGt_int, gGe_int, gAdd_int, gSub_int, gInt_int, gInt_bl, gLen_tup, gLen_lst, gLen_frl, gTuple_lst, gTuple_tup, gEq_int, gNe_int, isi_int_int, isi_int_bool, isi_tup_tup, fDef, fEnd, outs, List.replicate, Nat.sub_self, Nat.reduceSub, not_true_eq_false, not_false_eq_true]
theorem check_share_ok {a b : Int} (h : Ok a b) : f_check_share [.fz (Sh a b)] = some (.d .non, [.un]) := by
  have lc : c1_check_share [.fz (Sh a b), .un] = some ([a, b].map fun _ => D.bl true, [.fz (Sh a b), .un]) := by
    unfold c1_check_share
    exact LComp_eq (vs := [1]) (ρ1 := [.fz (Sh a b), .un]) (ds := [a, b].map D.int) rfl (by show 2 ≤ 16777216; omega)
      (CLoop_map D.int (fun _ => .bl true) [.fz (Sh a b), .un] [a, b] fun t ht => ⟨_, _, [.fz (Sh a b), .fz (.int t)], rfl, rfl, by
        simp only [is_integer_int, bnd_some, lft_some, SSeq, SAsg, SRet, SRetL, SRetN, SIf, SPar2, SPar3, SAugO, IEnum, LBin, LOf, SFor, SDrop, SOwn, SNx, FVar, FFrz, FC, FBin, FUn, FCall, FChain, FAnd, FOr, FNot, FIf, FTup, FLst, FSl, ONone, OSome, FIxO, FExt, FOf, FCallE, FCallL, FCallK, BVal, BAnd, BOr, BNot, BYes, LDisp, ISeq, IZip, IZipM, seqZ, TName, TTup, TCons, TNil, ANil, ACons, GAll, GVar, GFr, callR, parS, wipeS, backS, List.getElem?_cons_zero, List.getElem?_cons_succ, List.getElem?_nil, List.set_cons_zero, List.set_cons_succ, List.length_cons, List.length_nil, List.map_cons, List.map_nil, List.nil_append, List.cons_append, List.append_nil, List.length_append, Option.map_some, Option.map_none, Option.bind_some, Option.some.injEq, Bool.false_eq_true, if_true, if_false, reduceIte, Bool.not_true, Bool.not_false, Nat.reduceLT, Nat.reduceAdd, Nat.reduceLeDiff, Nat.zero_add, decide_true, decide_false, true_and, false_and, and_true, and_self, gLt_int, gLe_int, gGt_int, gGe_int, gAdd_int, gSub_int, gInt_int, gInt_bl, gLen_tup, gLen_lst, gLen_frl, gTuple_lst, gTuple_tup, gEq_int, gNe_int, isi_int_int, isi_int_bool, isi_tup_tup, fDef, fEnd, outs, List.replicate, Nat.sub_self, Nat.reduceSub, not_true_eq_false, not_false_eq_true], rfl⟩)
  have al : gAll [.lst ([a, b].map fun _ => D.bl true)] = some (.bl true) := gAll_true [a, b] (fun _ => D.bl true) fun _ _ => rfl
  exact fDef_nx rfl rfl (cs_s c1_check_share (Sh a b) a b _ h rfl rfl rfl rfl lc al) rfl
/-! powers -/
def bnd4 (k : Nat) (x : Int) : Prop := x.natAbs < 2 ^ k
theorem gMul_bits {k l : Nat} {i j : Int} (h : i.natAbs < 2 ^ k) (h2 : j.natAbs < 2 ^ l) (hk : k ≤ 100000) (hl : l ≤ 100000) : gMul (.int i) (.int j) = some (.int (i * j)) ∧ (i * j).natAbs < 2 ^ (k + l) := by
  have a : i.natAbs < 2 ^ (k + 1) := Nat.lt_of_lt_of_le h (Nat.pow_le_pow_right (by decide) (by omega))
  have b : j.natAbs < 2 ^ (l + 1) := Nat.lt_of_lt_of_le h2 (Nat.pow_le_pow_right (by decide) (by omega))
  refine ⟨gMul_int (k + 1) (l + 1) a b (by omega) (by omega) (by omega), ?_⟩
  rw [Int.natAbs_mul, Nat.pow_add]
  exact Nat.mul_lt_mul'' h h2
theorem pw_d1 (x m p s p' s' m' : Int) (hm : gMod (.int m) (.int 2) = some (.int (m % 2))) (hp : (if m % 2 = 1 then p * s else p) = p') (hmu : gMul (.int p) (.int s) = some (.int (p * s))) (hd : gDiv (.int m) (.int 2) = some (.int m')) (hs : (if 0 < m' then s * s else s) = s') (hsq : gMul (.int s) (.int s) = some (.int (s * s))) :
    d1_power_of [.fz (.int x), .fz (.int m), .fz (.int p), .fz (.int s)] = some (.nx, [.fz (.int x), .fz (.int m'), .fz (.int p'), .fz (.int s')]) := by
  subst hp hs
  unfold d1_power_of
  by_cases h1 : m % 2 = 1
  · by_cases h2 : 0 < m' <;> simp only [hm, h1, hmu, hd, hsq, h2, bnd_some, lft_some, SSeq, SAsg, SRet, SRetL, SRetN, SIf, SPar2, SPar3, SAugO, IEnum, LBin, LOf, SFor, SDrop, SOwn, SNx, FVar, FFrz, FC, FBin, FUn, FCall, FChain, FAnd, FOr, FNot, FIf, FTup, FLst, FSl, ONone, OSome, FIxO, FExt, FOf, FCallE, FCallL, FCallK, BVal, BAnd, BOr, BNot, BYes, LDisp, ISeq, IZip, IZipM, seqZ, TName, TTup, TCons, TNil, ANil, ACons, GAll, GVar, GFr, callR, parS, wipeS, backS, List.getElem?_cons_zero, List.getElem?_cons_succ, List.getElem?_nil, List.set_cons_zero, List.set_cons_succ, List.length_cons, List.length_nil, List.map_cons, List.map_nil, List.nil_append, List.cons_append, List.append_nil, List.length_append, Option.map_some, Option.map_none, Option.bind_some, Option.some.injEq, Bool.false_eq_true, if_true, if_false, reduceIte, Bool.not_true, Bool.not_false, Nat.reduceLT, Nat.reduceAdd, Nat.reduceLeDiff, Nat.zero_add, decide_true, decide_false, true_and, false_and, and_true, and_self, gLt_int, gLe_int, gGt_int, gGe_int, gAdd_int, gSub_int, gInt_int, gInt_bl, gLen_tup, gLen_lst, gLen_frl, gTuple_lst, gTuple_tup, gEq_int, gNe_int, isi_int_int, isi_int_bool, isi_tup_tup, fDef, fEnd, outs, List.replicate, Nat.sub_self, Nat.reduceSub, not_true_eq_false, not_false_eq_true]
  · by_cases h2 : 0 < m' <;> simp only [hm, h1, hmu, hd, hsq, h2, bnd_some, lft_some, SSeq, SAsg, SRet, SRetL, SRetN, SIf, SPar2, SPar3, SAugO, IEnum, LBin, LOf, SFor, SDrop, SOwn, SNx, FVar, FFrz, FC, FBin, FUn, FCall, FChain, FAnd, FOr, FNot, FIf, FTup, FLst, FSl, ONone, OSome, FIxO, FExt, FOf, FCallE, FCallL, FCallK, BVal, BAnd, BOr, BNot, BYes, LDisp, ISeq, IZip, IZipM, seqZ, TName, TTup, TCons, TNil, ANil, ACons, GAll, GVar, GFr, callR, parS, wipeS, backS, List.getElem?_cons_zero, List.getElem?_cons_succ, List.getElem?_nil, List.set_cons_zero, List.set_cons_succ, List.length_cons, List.length_nil, List.map_cons, List.map_nil, List.nil_append, List.cons_append, List.append_nil, List.length_append, Option.map_some, Option.map_none, Option.bind_some, Option.some.injEq, Bool.false_eq_true, if_true, if_false, reduceIte, Bool.not_true, Bool.not_false, Nat.reduceLT, Nat.reduceAdd, Nat.reduceLeDiff, Nat.zero_add, decide_true, decide_false, true_and, false_and, and_true, and_self, gLt_int, gLe_int, gGt_int, gGe_int, gAdd_int, gSub_int, gInt_int, gInt_bl, gLen_tup, gLen_lst, gLen_frl, gTuple_lst, gTuple_tup, gEq_int, gNe_int, isi_int_int, isi_int_bool, isi_tup_tup, fDef, fEnd, outs, List.replicate, Nat.sub_self, Nat.reduceSub, not_true_eq_false, not_false_eq_true]
/-- m below 2^e: e turns -/
theorem pw_loop (x : Int) : ∀ (e m k l fuel : Nat) (p s : Int), m < 2 ^ e → e < fuel → p.natAbs < 2 ^ k → s.natAbs < 2 ^ l → k + 2 * (l * 2 ^ e) ≤ 50000 + l → ∃ s', SWhile (BVal (FBin gGt (FVar 1) (FC (.int 0)))) d1_power_of fuel [.fz (.int x), .fz (.int (m : Nat)), .fz (.int p), .fz (.int s)] = some (.nx, [.fz (.int x), .fz (.int 0), .fz (.int (p * s ^ m)), s'])
  | e, 0, k, l, fuel + 1, p, s, _, _, _, _, _ => by
    refine ⟨.fz (.int s), ?_⟩
    have g : BVal (FBin gGt (FVar 1) (FC (.int 0))) [.fz (.int x), .fz (.int ((0 : Nat) : Int)), .fz (.int p), .fz (.int s)] = some (false, [.fz (.int x), .fz (.int ((0 : Nat) : Int)), .fz (.int p), .fz (.int s)]) := rfl
    unfold SWhile
    rw [g, bnd_some, if_neg (by decide), Int.pow_zero, Int.mul_one]
    rfl
  | 0, m + 1, _, _, _, _, _, h, _, _, _, _ => by simp at h
  | e + 1, m + 1, k, l, fuel + 1, p, s, hm, hf, hp, hs, hb => by
    have e2 : (2 : Nat) ^ (e + 1) = 2 * 2 ^ e := by rw [Nat.pow_succ, Nat.mul_comm]
    have pe : 0 < (2 : Nat) ^ e := Nat.two_pow_pos e
    have l1 : l * 2 ^ (e + 1) = l * 2 ^ e + l * 2 ^ e := by rw [e2, ← Nat.mul_assoc, Nat.mul_comm l 2, Nat.mul_assoc, Nat.two_mul]
    have l2 : l ≤ l * 2 ^ e := Nat.le_mul_of_pos_right l pe
    have mu := gMul_bits hp hs (by omega) (by omega)
    have sq := gMul_bits hs hs (by omega) (by omega)
    have g : BVal (FBin gGt (FVar 1) (FC (.int 0))) [.fz (.int x), .fz (.int ((m + 1 : Nat) : Int)), .fz (.int p), .fz (.int s)] = some (true, [.fz (.int x), .fz (.int ((m + 1 : Nat) : Int)), .fz (.int p), .fz (.int s)]) := by
      have : (0 : Int) < ((m + 1 : Nat) : Int) := by omega
      simp only [this, bnd_some, lft_some, SSeq, SAsg, SRet, SRetL, SRetN, SIf, SPar2, SPar3, SAugO, IEnum, LBin, LOf, SFor, SDrop, SOwn, SNx, FVar, FFrz, FC, FBin, FUn, FCall, FChain, FAnd, FOr, FNot, FIf, FTup, FLst, FSl, ONone, OSome, FIxO, FExt, FOf, FCallE, FCallL, FCallK, BVal, BAnd, BOr, BNot, BYes, LDisp, ISeq, IZip, IZipM, seqZ, TName, TTup, TCons, TNil, ANil, ACons, GAll, GVar, GFr, callR, parS, wipeS, backS, List.getElem?_cons_zero, List.getElem?_cons_succ, List.getElem?_nil, List.set_cons_zero, List.set_cons_succ, List.length_cons, List.length_nil, List.map_cons, List.map_nil, List.nil_append, List.cons_append, List.append_nil, List.length_append, Option.map_some, Option.map_none, Option.bind_some, Option.some.injEq, Bool.false_eq_true, if_true, if_false, reduceIte, Bool.not_true, Bool.not_false, Nat.reduceLT, Nat.reduceAdd, Nat.reduceLeDiff, Nat.zero_add, decide_true, decide_false, true_and, false_and, and_true, and_self, gLt_int, gLe_int, gGt_int, gGe_int, gAdd_int, gSub_int, gInt_int, gInt_bl, gLen_tup, gLen_lst, gLen_frl, gTuple_lst, gTuple_tup, gEq_int, gNe_int, isi_int_int, isi_int_bool, isi_tup_tup, fDef, fEnd, outs, List.replicate, Nat.sub_self, Nat.reduceSub, not_true_eq_false, not_false_eq_true]
    have md := gMod_int (i := ((m + 1 : Nat) : Int)) (j := 2) (by decide)
    have dv := gDiv_int (i := ((m + 1 : Nat) : Int)) (j := 2) (by decide) (by decide)
    have ed : ((m + 1 : Nat) : Int) / 2 = (((m + 1) / 2 : Nat) : Int) := by omega
    rw [ed] at dv
    have st := pw_d1 x ((m + 1 : Nat) : Int) p s _ _ _ md rfl mu.1 dv rfl sq.1
    by_cases hz : (m + 1) / 2 = 0
    · -- the last turn
      have m0 : m = 0 := by omega
      subst m0
      have e1 : ((0 + 1 : Nat) : Int) % 2 = 1 := by decide
      have z1 : ¬ ((0 : Int) < (((0 + 1) / 2 : Nat) : Int)) := by decide
      rw [if_pos e1, if_neg z1] at st
      cases fuel with
      | zero => omega
      | succ fuel =>
        refine ⟨.fz (.int s), ?_⟩
        unfold SWhile
        rw [g, bnd_some, if_pos rfl, st, bnd_some]
        dsimp only
        have g2 : BVal (FBin gGt (FVar 1) (FC (.int 0))) [.fz (.int x), .fz (.int (((0 + 1) / 2 : Nat) : Int)), .fz (.int (p * s)), .fz (.int s)] = some (false, [.fz (.int x), .fz (.int (((0 + 1) / 2 : Nat) : Int)), .fz (.int (p * s)), .fz (.int s)]) := rfl
        unfold SWhile
        rw [g2, bnd_some, if_neg (by decide)]
        show some (Ou.nx, [Sl.fz (.int x), .fz (.int 0), .fz (.int (p * s)), .fz (.int s)]) = _
        rw [show (0 + 1 : Nat) = 1 from rfl, Int.pow_one]
    · have z1 : (0 : Int) < (((m + 1) / 2 : Nat) : Int) := by omega
      rw [if_pos z1] at st
      have hp' : (if ((m + 1 : Nat) : Int) % 2 = 1 then p * s else p).natAbs < 2 ^ (k + l) := by
        split
        · exact mu.2
        · exact Nat.lt_of_lt_of_le hp (Nat.pow_le_pow_right (by decide) (by omega))
      have hs' : (s * s).natAbs < 2 ^ (l + l) := sq.2
      have hb' : k + l + 2 * ((l + l) * 2 ^ e) ≤ 50000 + (l + l) := by
        rw [Nat.add_mul]
        omega
      obtain ⟨s', ih⟩ := pw_loop x e ((m + 1) / 2) (k + l) (l + l) fuel _ _ (by omega) (by omega) hp' hs' hb'
      refine ⟨s', ?_⟩
      unfold SWhile
      rw [g, bnd_some, if_pos rfl, st, bnd_some]
      dsimp only
      rw [ih]
      have ev : (s * s) ^ ((m + 1) / 2) = s ^ (2 * ((m + 1) / 2)) := by
        rw [Int.mul_pow, ← Int.pow_add, Nat.two_mul]
      have ep : (if ((m + 1 : Nat) : Int) % 2 = 1 then p * s else p) * (s * s) ^ ((m + 1) / 2) = p * s ^ (m + 1) := by
        rw [ev]
        by_cases q : ((m + 1 : Nat) : Int) % 2 = 1
        · rw [if_pos q, Int.mul_assoc, show m + 1 = 2 * ((m + 1) / 2) + 1 from by omega, Int.pow_succ, Int.mul_comm s]
          rw [show (2 * ((m + 1) / 2) + 1) / 2 = (m + 1) / 2 from by omega]
        · rw [if_neg q, show 2 * ((m + 1) / 2) = m + 1 from by omega]
      rw [ep]
theorem power_ok {x : Int} {m : Nat} (hx : x.natAbs < 2 ^ 200) (hm : m < 64) : f_power_of [.fz (.int x), .fz (.int (m : Nat))] = some (.d (.int (x ^ m)), [.un, .un]) := by
  obtain ⟨s', e⟩ := pw_loop x 6 m 1 200 10000000 1 x (by omega) (by decide) (by decide) hx (by decide)
  rw [Int.one_mul] at e
  exact fDef_ret rfl rfl (SSeq_nx (ρ1 := [.fz (.int x), .fz (.int (m : Nat)), .fz (.int 1), .un]) rfl (SSeq_nx (ρ1 := [.fz (.int x), .fz (.int (m : Nat)), .fz (.int 1), .fz (.int x)]) rfl (SSeq_nx e rfl))) rfl
end Dn.k45
end
section
namespace Dn.k45
open PySem PySem.Spec PyProof.Rows L2 Dn
set_option maxHeartbeats 1000000
theorem rs_s (CS II PO : DN) (S : D) (m a b x y : Int) (h0 : CS [.fz S] = some (.d .non, [.un])) (h1 : II [.fz (.int m)] = some (.d (.bl true), [.un])) (m1 : 1 ≤ m) (m2 : m ≤ 40) (i0 : gIx S (.int 0) = some (.int a)) (i1 : gIx S (.int 1) = some (.int b))
    (p1 : PO [.fz (.int a), .fz (.int m)] = some (.d (.int x), [.un, .un])) (p2 : PO [.fz (.int b), .fz (.int m)] = some (.d (.int y), [.un, .un])) :
    SSeq (SDrop (FCallE CS (GAll (ACons (FVar 0) ANil))))
  (SSeq (SIf (BOr (BNot (BVal (FCallE II (GAll (ACons (FVar 1) ANil))))) (BNot (BVal (FChain gLe gLe (FC (.int 1)) (FVar 1) (FC (.int 40)))))) SNo SNx)
  (SRet (FTup (ACons (FCallE PO (GAll (ACons (FBin gIx (FVar 0) (FC (.int 0))) (ACons (FVar 1) ANil)))) (ACons (FCallE PO (GAll (ACons (FBin gIx (FVar 0) (FC (.int 1))) (ACons (FVar 1) ANil)))) ANil))))) [.fz S, .fz (.int m)] = some (.ret (.tup [.int x, .int y]), [.fz S, .fz (.int m)]) := by
  have l2 : (2 : Nat) ≤ 16777216 := by decide
  simp only [h0, h1, m1, m2, i0, i1, p1, p2, l2, bnd_some, lft_some, SSeq, SAsg, SRet, SRetL, SRetN, SIf, SPar2, SPar3, SAugO, IEnum, LBin, LOf, SFor, SDrop, SOwn, SNx, FVar, FFrz, FC, FBin, FUn, FCall, FChain, FAnd, FOr, FNot, FIf, FTup, FLst, FSl, ONone, OSome, FIxO, FExt, FOf, FCallE, FCallL, FCallK, BVal, BAnd, BOr, BNot, BYes, LDisp, ISeq, IZip, IZipM, seqZ, TName, TTup, TCons, TNil, ANil, ACons, GAll, GVar, GFr, callR, parS, wipeS, backS, List.getElem?_cons_zero, List.getElem?_cons_succ, List.getElem?_nil, List.set_cons_zero, List.set_cons_succ, List.length_cons, List.length_nil, List.map_cons, List.map_nil, List.nil_append, List.cons_append, List.append_nil, List.length_append, Option.map_some, Option.map_none, Option.bind_some, Option.some.injEq, Bool.false_eq_true, if_true, if_false, reduceIte, Bool.not_true, Bool.not_false, Nat.reduceLT, Nat.reduceAdd, Nat.reduceLeDiff, Nat.zero_add, decide_true, decide_false, true_and, false_and, and_true, and_self, gLt_int, gLe_int, gGt_int, gGe_int, gAdd_int, gSub_int, gInt_int, gInt_bl, gLen_tup, gLen_lst, gLen_frl, gTuple_lst, gTuple_tup, gEq_int, gNe_int, isi_int_int, isi_int_bool, isi_tup_tup, fDef, fEnd, outs, List.replicate, Nat.sub_self, Nat.reduceSub, not_true_eq_false, not_false_eq_true]
theorem repeated_ok {a b : Int} {m : Nat} (h : Ok a b) (hb : b.natAbs < 2 ^ 200) (h1 : 1 ≤ m) (h2 : m ≤ 40) : f_repeated_share [.fz (Sh a b), .fz (.int (m : Nat))] = some (.d (Sh (a ^ m) (b ^ m)), [.un, .un]) := by
  have g0 := h.h0
  have g1 := h.h1
  have ha : a.natAbs < 2 ^ 200 := by omega
  exact fDef_ret rfl rfl (rs_s f_check_share f_is_integer f_power_of (Sh a b) _ _ _ _ _ (check_share_ok h) (is_integer_int _) (by omega) (by omega) rfl rfl (power_ok ha (by omega)) (power_ok hb (by omega))) rfl
theorem ls_s (CS : DN) (S T : D) (a b c d r u : Int) (h0 : CS [.fz S] = some (.d .non, [.un])) (h1 : CS [.fz T] = some (.d .non, [.un])) (i0 : gIx S (.int 0) = some (.int a)) (i1 : gIx S (.int 1) = some (.int b)) (j0 : gIx T (.int 0) = some (.int c)) (j1 : gIx T (.int 1) = some (.int d))
    (m1 : gMul (.int b) (.int d) = some (.int r)) (m2 : gMul (.int (b - a)) (.int (d - c)) = some (.int u)) :
    SSeq (SDrop (FCallE CS (GAll (ACons (FVar 0) ANil))))
  (SSeq (SDrop (FCallE CS (GAll (ACons (FVar 1) ANil))))
  (SSeq (SAsg (FBin gMul (FBin gIx (FVar 0) (FC (.int 1))) (FBin gIx (FVar 1) (FC (.int 1)))) (TName 2))
  (SRet (FTup (ACons (FBin gSub (FVar 2) (FBin gMul (FBin gSub (FBin gIx (FVar 0) (FC (.int 1))) (FBin gIx (FVar 0) (FC (.int 0)))) (FBin gSub (FBin gIx (FVar 1) (FC (.int 1))) (FBin gIx (FVar 1) (FC (.int 0)))))) (ACons (FVar 2) ANil)))))) [.fz S, .fz T, .un] = some (.ret (.tup [.int (r - u), .int r]), [.fz S, .fz T, .fz (.int r)]) := by
  have l2 : (2 : Nat) ≤ 16777216 := by decide
  simp only [h0, h1, i0, i1, j0, j1, m1, m2, l2, bnd_some, lft_some, SSeq, SAsg, SRet, SRetL, SRetN, SIf, SPar2, SPar3, SAugO, IEnum, LBin, LOf, SFor, SDrop, SOwn, SNx, FVar, FFrz, FC, FBin, FUn, FCall, FChain, FAnd, FOr, FNot, FIf, FTup, FLst, FSl, ONone, OSome, FIxO, FExt, FOf, FCallE, FCallL, FCallK, BVal, BAnd, BOr, BNot, BYes, LDisp, ISeq, IZip, IZipM, seqZ, TName, TTup, TCons, TNil, ANil, ACons, GAll, GVar, GFr, callR, parS, wipeS, backS, List.getElem?_cons_zero, List.getElem?_cons_succ, List.getElem?_nil, List.set_cons_zero, List.set_cons_succ, List.length_cons, List.length_nil, List.map_cons, List.map_nil, List.nil_append, List.cons_append, List.append_nil, List.length_append, Option.map_some, Option.map_none, Option.bind_some, Option.some.injEq, Bool.false_eq_true, if_true, if_false, reduceIte, Bool.not_true, Bool.not_false, Nat.reduceLT, Nat.reduceAdd, Nat.reduceLeDiff, Nat.zero_add, decide_true, decide_false, true_and, false_and, and_true, and_self, gLt_int, gLe_int, gGt_int, gGe_int, gAdd_int, gSub_int, gInt_int, gInt_bl, gLen_tup, gLen_lst, gLen_frl, gTuple_lst, gTuple_tup, gEq_int, gNe_int, isi_int_int, isi_int_bool, isi_tup_tup, fDef, fEnd, outs, List.replicate, Nat.sub_self, Nat.reduceSub, not_true_eq_false, not_false_eq_true]
theorem led_ok {a b c d : Int} (h : Ok a b) (h' : Ok c d) (hb : b.natAbs < 2 ^ 5000) (hd : d.natAbs < 2 ^ 5000) : f_led_share [.fz (Sh a b), .fz (Sh c d)] = some (.d (Sh (b * d - (b - a) * (d - c)) (b * d)), [.un, .un]) := by
  have g0 := h.h0
  have g1 := h.h1
  have g2 := h'.h0
  have g3 := h'.h1
  have m1 := gMul_bits hb hd (by decide) (by decide)
  have e1 : (b - a).natAbs < 2 ^ 5000 := Nat.lt_of_le_of_lt (by omega) hb
  have e2 : (d - c).natAbs < 2 ^ 5000 := Nat.lt_of_le_of_lt (by omega) hd
  have m2 := gMul_bits e1 e2 (by decide) (by decide)
  exact fDef_ret rfl rfl (ls_s f_check_share (Sh a b) (Sh c d) a b c d _ _ (check_share_ok h) (check_share_ok h') rfl rfl rfl rfl m1.1 m2.1) rfl
theorem am_s (S T : D) (a b c d x y : Int) (i0 : gIx S (.int 0) = some (.int a)) (i1 : gIx S (.int 1) = some (.int b)) (j0 : gIx T (.int 0) = some (.int c)) (j1 : gIx T (.int 1) = some (.int d)) (m1 : gMul (.int a) (.int d) = some (.int x)) (m2 : gMul (.int c) (.int b) = some (.int y)) :
    SRet (FBin gLe (FBin gMul (FBin gIx (FVar 0) (FC (.int 0))) (FBin gIx (FVar 1) (FC (.int 1)))) (FBin gMul (FBin gIx (FVar 1) (FC (.int 0))) (FBin gIx (FVar 0) (FC (.int 1))))) [.fz S, .fz T] = some (.ret (.bl (decide (x ≤ y))), [.fz S, .fz T]) := by
  simp only [i0, i1, j0, j1, m1, m2, bnd_some, lft_some, SSeq, SAsg, SRet, SRetL, SRetN, SIf, SPar2, SPar3, SAugO, IEnum, LBin, LOf, SFor, SDrop, SOwn, SNx, FVar, FFrz, FC, FBin, FUn, FCall, FChain, FAnd, FOr, FNot, FIf, FTup, FLst, FSl, ONone, OSome, FIxO, FExt, FOf, FCallE, FCallL, FCallK, BVal, BAnd, BOr, BNot, BYes, LDisp, ISeq, IZip, IZipM, seqZ, TName, TTup, TCons, TNil, ANil, ACons, GAll, GVar, GFr, callR, parS, wipeS, backS, List.getElem?_cons_zero, List.getElem?_cons_succ, List.getElem?_nil, List.set_cons_zero, List.set_cons_succ, List.length_cons, List.length_nil, List.map_cons, List.map_nil, List.nil_append, List.cons_append, List.append_nil, List.length_append, Option.map_some, Option.map_none, Option.bind_some, Option.some.injEq, Bool.false_eq_true, if_true, if_false, reduceIte, Bool.not_true, Bool.not_false, Nat.reduceLT, Nat.reduceAdd, Nat.reduceLeDiff, Nat.zero_add, decide_true, decide_false, true_and, false_and, and_true, and_self, gLt_int, gLe_int, gGt_int, gGe_int, gAdd_int, gSub_int, gInt_int, gInt_bl, gLen_tup, gLen_lst, gLen_frl, gTuple_lst, gTuple_tup, gEq_int, gNe_int, isi_int_int, isi_int_bool, isi_tup_tup, fDef, fEnd, outs, List.replicate, Nat.sub_self, Nat.reduceSub, not_true_eq_false, not_false_eq_true]
theorem gs_s (CS AM : DN) (S T : D) (t : Bool) (h0 : CS [.fz S] = some (.d .non, [.un])) (h1 : CS [.fz T] = some (.d .non, [.un])) (h2 : AM [.fz T, .fz S] = some (.d (.bl t), [.un, .un])) :
    SSeq (SDrop (FCallE CS (GAll (ACons (FVar 0) ANil))))
  (SSeq (SDrop (FCallE CS (GAll (ACons (FVar 1) ANil))))
  (SRet (FIf (BVal (FCallE AM (GAll (ACons (FVar 1) (ACons (FVar 0) ANil))))) (FVar 0) (FVar 1)))) [.fz S, .fz T] = some (.ret (if t = true then S else T), [.fz S, .fz T]) := by
  cases t <;> simp only [h0, h1, h2, bnd_some, lft_some, SSeq, SAsg, SRet, SRetL, SRetN, SIf, SPar2, SPar3, SAugO, IEnum, LBin, LOf, SFor, SDrop, SOwn, SNx, FVar, FFrz, FC, FBin, FUn, FCall, FChain, FAnd, FOr, FNot, FIf, FTup, FLst, FSl, ONone, OSome, FIxO, FExt, FOf, FCallE, FCallL, FCallK, BVal, BAnd, BOr, BNot, BYes, LDisp, ISeq, IZip, IZipM, seqZ, TName, TTup, TCons, TNil, ANil, ACons, GAll, GVar, GFr, callR, parS, wipeS, backS, List.getElem?_cons_zero, List.getElem?_cons_succ, List.getElem?_nil, List.set_cons_zero, List.set_cons_succ, List.length_cons, List.length_nil, List.map_cons, List.map_nil, List.nil_append, List.cons_append, List.append_nil, List.length_append, Option.map_some, Option.map_none, Option.bind_some, Option.some.injEq, Bool.false_eq_true, if_true, if_false, reduceIte, Bool.not_true, Bool.not_false, Nat.reduceLT, Nat.reduceAdd, Nat.reduceLeDiff, Nat.zero_add, decide_true, decide_false, true_and, false_and, and_true, and_self, gLt_int, gLe_int, gGt_int, gGe_int, gAdd_int, gSub_int, gInt_int, gInt_bl, gLen_tup, gLen_lst, gLen_frl, gTuple_lst, gTuple_tup, gEq_int, gNe_int, isi_int_int, isi_int_bool, isi_tup_tup, fDef, fEnd, outs, List.replicate, Nat.sub_self, Nat.reduceSub, not_true_eq_false, not_false_eq_true]
theorem greater_ok {a b c d : Int} (h : Ok a b) (h' : Ok c d) (hb : b.natAbs < 2 ^ 5000) (hd : d.natAbs < 2 ^ 5000) : f_greater_share [.fz (Sh a b), .fz (Sh c d)] = some (.d (if c * b ≤ a * d then Sh a b else Sh c d), [.un, .un]) := by
  have g0 := h.h0
  have g1 := h.h1
  have g2 := h'.h0
  have g3 := h'.h1
  have ha : a.natAbs < 2 ^ 5000 := Nat.lt_of_le_of_lt (by omega) hb
  have hc : c.natAbs < 2 ^ 5000 := Nat.lt_of_le_of_lt (by omega) hd
  have m1 := gMul_bits hc hb (by decide) (by decide)
  have m2 := gMul_bits ha hd (by decide) (by decide)
  have am : f_is_at_most [.fz (Sh c d), .fz (Sh a b)] = some (.d (.bl (decide (c * b ≤ a * d))), [.un, .un]) := fDef_ret rfl rfl (am_s (Sh c d) (Sh a b) c d a b _ _ rfl rfl rfl rfl m1.1 m2.1) rfl
  have r : f_greater_share [.fz (Sh a b), .fz (Sh c d)] = some (.d (if decide (c * b ≤ a * d) = true then Sh a b else Sh c d), [.un, .un]) := fDef_ret rfl rfl (gs_s f_check_share f_is_at_most (Sh a b) (Sh c d) _ (check_share_ok h) (check_share_ok h') am) rfl
  have e : (if decide (c * b ≤ a * d) = true then Sh a b else Sh c d) = (if c * b ≤ a * d then Sh a b else Sh c d) := by
    by_cases q : c * b ≤ a * d
    · rw [if_pos q, if_pos (decide_eq_true q)]
    · rw [if_neg q, if_neg (by rw [decide_eq_false q]; decide)]
  rw [e] at r
  exact r
/-! the law's product -/
theorem pr_d (x f g : Int) (M : D) (s3 : Sl) (h : gMul (.int f) (.int x) = some (.int g)) : d1__law_product [.fz (.int x), .fz M, .fz (.int f), s3] = some (.nx, [.fz (.int x), .fz M, .fz (.int g), s3]) := by
  unfold d1__law_product
  simp only [h, bnd_some, lft_some, SSeq, SAsg, SRet, SRetL, SRetN, SIf, SPar2, SPar3, SAugO, IEnum, LBin, LOf, SFor, SDrop, SOwn, SNx, FVar, FFrz, FC, FBin, FUn, FCall, FChain, FAnd, FOr, FNot, FIf, FTup, FLst, FSl, ONone, OSome, FIxO, FExt, FOf, FCallE, FCallL, FCallK, BVal, BAnd, BOr, BNot, BYes, LDisp, ISeq, IZip, IZipM, seqZ, TName, TTup, TCons, TNil, ANil, ACons, GAll, GVar, GFr, callR, parS, wipeS, backS, List.getElem?_cons_zero, List.getElem?_cons_succ, List.getElem?_nil, List.set_cons_zero, List.set_cons_succ, List.length_cons, List.length_nil, List.map_cons, List.map_nil, List.nil_append, List.cons_append, List.append_nil, List.length_append, Option.map_some, Option.map_none, Option.bind_some, Option.some.injEq, Bool.false_eq_true, if_true, if_false, reduceIte, Bool.not_true, Bool.not_false, Nat.reduceLT, Nat.reduceAdd, Nat.reduceLeDiff, Nat.zero_add, decide_true, decide_false, true_and, false_and, and_true, and_self, gLt_int, gLe_int, gGt_int, gGe_int, gAdd_int, gSub_int, gInt_int, gInt_bl, gLen_tup, gLen_lst, gLen_frl, gTuple_lst, gTuple_tup, gEq_int, gNe_int, isi_int_int, isi_int_bool, isi_tup_tup, fDef, fEnd, outs, List.replicate, Nat.sub_self, Nat.reduceSub, not_true_eq_false, not_false_eq_true]
theorem pr_loop {x : Int} (M : D) (hx : x.natAbs < 2 ^ 200) : ∀ (is : List D) (k : Nat) (f : Int) (s3 : Sl), f.natAbs < 2 ^ k → k + 200 * is.length ≤ 50000 → ∃ s3', SLoop (TName 3) d1__law_product is [.fz (.int x), .fz M, .fz (.int f), s3] = some (.nx, [.fz (.int x), .fz M, .fz (.int (f * x ^ is.length)), s3'])
  | [], k, f, s3, _, _ => ⟨s3, by rw [List.length_nil, Int.pow_zero, Int.mul_one]; rfl⟩
  | i :: is, k, f, s3, hf, hk => by
    rw [List.length_cons] at hk
    have m := gMul_bits hf hx (by omega) (by omega)
    obtain ⟨s3', ih⟩ := pr_loop M hx is (k + 200) (f * x) (.fz i) m.2 (by omega)
    refine ⟨s3', SLoop_cons (ρ1 := [.fz (.int x), .fz M, .fz (.int f), .fz i]) rfl (pr_d x f _ M _ m.1) ?_⟩
    rw [ih, List.length_cons, Int.pow_succ, Int.mul_assoc, Int.mul_comm x]
theorem product_ok {x : Int} {m : Nat} (hx : x.natAbs < 2 ^ 200) (hm : m ≤ 40) : f__law_product [.fz (.int x), .fz (.int (m : Nat))] = some (.d (.int (x ^ m)), [.un, .un]) := by
  obtain ⟨s3, e⟩ := pr_loop (.int (m : Nat)) hx ((List.range m).map fun i => D.int (i : Nat)) 1 1 .un (by decide) (by rw [List.length_map, List.length_range]; omega)
  rw [List.length_map, List.length_range, Int.one_mul] at e
  have it := rng1_ok (n := ((m : Nat) : Int)) (ρ := [.fz (.int x), .fz (.int (m : Nat)), .fz (.int 1), .un]) (FVar 1) rfl (by omega) (by omega)
  rw [Int.toNat_natCast] at it
  have l : l1__law_product [.fz (.int x), .fz (.int (m : Nat)), .fz (.int 1), .un] = some (.nx, [.fz (.int x), .fz (.int (m : Nat)), .fz (.int (x ^ m)), s3]) := SFor_eq it e
  exact fDef_ret rfl rfl (SSeq_nx (ρ1 := [.fz (.int x), .fz (.int (m : Nat)), .fz (.int 1), .un]) rfl (SSeq_nx l rfl)) rfl
end Dn.k45
end
section
namespace Dn.k45
open PySem PySem.Spec PyProof.Rows L2 Dn
set_option maxHeartbeats 1000000
/-! all rows -/
def blk (A B : Nat) (t : Bool) : List Bool := (List.range B).map fun i => t && decide (((i : Nat) : Int) < (A : Nat))
def nextB (A B : Nat) (ts : List Bool) : List Bool := (ts.map (blk A B)).flatten
theorem blk_len (A B : Nat) (t : Bool) : (blk A B t).length = B := by
  unfold blk
  rw [List.length_map, List.length_range]
theorem blk_count (A B : Nat) (h : A ≤ B) (t : Bool) : (blk A B t).count true = if t = true then A else 0 := by
  have key : ∀ (n : Nat), ((List.range n).map fun i => decide (((i : Nat) : Int) < (A : Nat))).count true = min n A := by
    intro n
    induction n with
    | zero => simp
    | succ n ih =>
      rw [List.range_succ, List.map_append, List.count_append, ih, List.map_singleton]
      by_cases q : n < A
      · have q' : ((n : Nat) : Int) < (A : Nat) := by omega
        rw [decide_eq_true q']
        show min n A + 1 = min (n + 1) A
        omega
      · have q' : ¬ (((n : Nat) : Int) < (A : Nat)) := by omega
        rw [decide_eq_false q']
        show min n A + 0 = min (n + 1) A
        omega
  unfold blk
  cases t with
  | true =>
    simp only [Bool.true_and, if_true]
    rw [key B]
    omega
  | false =>
    simp only [Bool.false_and, Bool.false_eq_true, if_false]
    rw [List.count_eq_zero]
    intro z
    obtain ⟨_, _, e⟩ := List.mem_map.mp z
    cases e
theorem nextB_len (A B : Nat) : ∀ ts : List Bool, (nextB A B ts).length = ts.length * B
  | [] => by simp [nextB]
  | t :: ts => by
    show (blk A B t ++ nextB A B ts).length = _
    rw [List.length_append, blk_len, nextB_len A B ts, List.length_cons, Nat.add_mul, Nat.one_mul, Nat.add_comm]
theorem nextB_count (A B : Nat) (h : A ≤ B) : ∀ ts : List Bool, (nextB A B ts).count true = ts.count true * A
  | [] => by simp [nextB]
  | t :: ts => by
    show (blk A B t ++ nextB A B ts).count true = _
    rw [List.count_append, blk_count A B h, nextB_count A B h ts, List.count_cons]
    cases t
    · simp
    · simp [Nat.add_mul, Nat.add_comm]
def iterB (A B : Nat) : Nat → List Bool
  | 0 => [true]
  | n + 1 => nextB A B (iterB A B n)
theorem iterB_len (A B : Nat) : ∀ n, (iterB A B n).length = B ^ n
  | 0 => rfl
  | n + 1 => by
    show (nextB A B (iterB A B n)).length = _
    rw [nextB_len, iterB_len A B n, Nat.pow_succ]
theorem iterB_count (A B : Nat) (h : A ≤ B) : ∀ n, (iterB A B n).count true = A ^ n
  | 0 => rfl
  | n + 1 => by
    show (nextB A B (iterB A B n)).count true = _
    rw [nextB_count A B h, iterB_count A B h n, Nat.pow_succ]
theorem c1_ok {A B : Nat} (hB : B ≤ 1000) (M X2 L3 : D) (o : Option Nat) (ds : List D) (t : Bool) :
    c1__law_rows_all [.fz (Sh (A : Nat) (B : Nat)), .fz M, .fz X2, .fz L3, .ow o ds, .fz (.bl t), .un] = some ((blk A B t).map D.bl, [.fz (Sh (A : Nat) (B : Nat)), .fz M, .fz X2, .fz L3, .ow o ds, .fz (.bl t), .un]) := by
  have it := rng1_ok (n := ((B : Nat) : Int)) (ρ := [.fz (Sh (A : Nat) (B : Nat)), .fz M, .fz X2, .fz L3, .ow o ds, .fz (.bl t), .un]) (FBin gIx (FVar 0) (FC (.int 1))) rfl (by omega) (by omega)
  rw [Int.toNat_natCast] at it
  unfold blk
  rw [List.map_map]
  unfold c1__law_rows_all
  refine LComp_eq (vs := [6]) (ρ1 := [.fz (Sh (A : Nat) (B : Nat)), .fz M, .fz X2, .fz L3, .ow o ds, .fz (.bl t), .un]) it (by rw [List.length_map, List.length_range]; omega)
    (CLoop_map (fun i : Nat => D.int (i : Nat)) (fun i : Nat => D.bl (t && decide (((i : Nat) : Int) < (A : Nat)))) [.fz (Sh (A : Nat) (B : Nat)), .fz M, .fz X2, .fz L3, .ow o ds, .fz (.bl t), .un] (List.range B) fun i hi => ⟨_, _, [.fz (Sh (A : Nat) (B : Nat)), .fz M, .fz X2, .fz L3, .ow o ds, .fz (.bl t), .fz (.int (i : Nat))], rfl, rfl, ?_, rfl⟩)
  have i0 : gIx (Sh (A : Nat) (B : Nat)) (.int 0) = some (.int (A : Nat)) := rfl
  generalize Sh (A : Nat) (B : Nat) = S at i0 ⊢
  cases t <;> simp only [i0, Bool.true_and, Bool.false_and, bnd_some, lft_some, SSeq, SAsg, SRet, SRetL, SRetN, SIf, SPar2, SPar3, SAugO, IEnum, LBin, LOf, SFor, SDrop, SOwn, SNx, FVar, FFrz, FC, FBin, FUn, FCall, FChain, FAnd, FOr, FNot, FIf, FTup, FLst, FSl, ONone, OSome, FIxO, FExt, FOf, FCallE, FCallL, FCallK, BVal, BAnd, BOr, BNot, BYes, LDisp, ISeq, IZip, IZipM, seqZ, TName, TTup, TCons, TNil, ANil, ACons, GAll, GVar, GFr, callR, parS, wipeS, backS, List.getElem?_cons_zero, List.getElem?_cons_succ, List.getElem?_nil, List.set_cons_zero, List.set_cons_succ, List.length_cons, List.length_nil, List.map_cons, List.map_nil, List.nil_append, List.cons_append, List.append_nil, List.length_append, Option.map_some, Option.map_none, Option.bind_some, Option.some.injEq, Bool.false_eq_true, if_true, if_false, reduceIte, Bool.not_true, Bool.not_false, Nat.reduceLT, Nat.reduceAdd, Nat.reduceLeDiff, Nat.zero_add, decide_true, decide_false, true_and, false_and, and_true, and_self, gLt_int, gLe_int, gGt_int, gGe_int, gAdd_int, gSub_int, gInt_int, gInt_bl, gLen_tup, gLen_lst, gLen_frl, gTuple_lst, gTuple_tup, gEq_int, gNe_int, isi_int_int, isi_int_bool, isi_tup_tup, fDef, fEnd, outs, List.replicate, Nat.sub_self, Nat.reduceSub, not_true_eq_false, not_false_eq_true]
theorem ra_d (C : FL) (S M X2 L3 : D) (o : Option Nat) (ds es : List D) (t : D) (hC : C [.fz S, .fz M, .fz X2, .fz L3, .ow o ds, .fz t, .un] = some (es, [.fz S, .fz M, .fz X2, .fz L3, .ow o ds, .fz t, .un])) (hl : ds.length + es.length ≤ 16777216) :
    SDrop (FExt 4 C) [.fz S, .fz M, .fz X2, .fz L3, .ow o ds, .fz t, .un] = some (.nx, [.fz S, .fz M, .fz X2, .fz L3, .ow o (ds ++ es), .fz t, .un]) := by
  simp only [FExt, hC, hl, bnd_some, lft_some, SSeq, SAsg, SRet, SRetL, SRetN, SIf, SPar2, SPar3, SAugO, IEnum, LBin, LOf, SFor, SDrop, SOwn, SNx, FVar, FFrz, FC, FBin, FUn, FCall, FChain, FAnd, FOr, FNot, FIf, FTup, FLst, FSl, ONone, OSome, FIxO, FExt, FOf, FCallE, FCallL, FCallK, BVal, BAnd, BOr, BNot, BYes, LDisp, ISeq, IZip, IZipM, seqZ, TName, TTup, TCons, TNil, ANil, ACons, GAll, GVar, GFr, callR, parS, wipeS, backS, List.getElem?_cons_zero, List.getElem?_cons_succ, List.getElem?_nil, List.set_cons_zero, List.set_cons_succ, List.length_cons, List.length_nil, List.map_cons, List.map_nil, List.nil_append, List.cons_append, List.append_nil, List.length_append, Option.map_some, Option.map_none, Option.bind_some, Option.some.injEq, Bool.false_eq_true, if_true, if_false, reduceIte, Bool.not_true, Bool.not_false, Nat.reduceLT, Nat.reduceAdd, Nat.reduceLeDiff, Nat.zero_add, decide_true, decide_false, true_and, false_and, and_true, and_self, gLt_int, gLe_int, gGt_int, gGe_int, gAdd_int, gSub_int, gInt_int, gInt_bl, gLen_tup, gLen_lst, gLen_frl, gTuple_lst, gTuple_tup, gEq_int, gNe_int, isi_int_int, isi_int_bool, isi_tup_tup, fDef, fEnd, outs, List.replicate, Nat.sub_self, Nat.reduceSub, not_true_eq_false, not_false_eq_true]
theorem ra_loop {A B : Nat} (hB : B ≤ 1000) (M X2 L3 : D) (o : Option Nat) : ∀ (ts : List Bool) (ds : List D) (s5 : Sl), ds.length + ts.length * B ≤ 16777216 → ∃ s5', SLoop (TName 5) d1__law_rows_all (ts.map D.bl) [.fz (Sh (A : Nat) (B : Nat)), .fz M, .fz X2, .fz L3, .ow o ds, s5, .un] = some (.nx, [.fz (Sh (A : Nat) (B : Nat)), .fz M, .fz X2, .fz L3, .ow o (ds ++ (nextB A B ts).map D.bl), s5', .un])
  | [], ds, s5, _ => ⟨s5, by
    show some _ = _
    rw [show (nextB A B []).map D.bl = [] from rfl, List.append_nil]⟩
  | t :: ts, ds, s5, h => by
    rw [List.length_cons, Nat.add_mul, Nat.one_mul] at h
    have c := c1_ok (A := A) hB M X2 L3 o ds t
    have d := ra_d c1__law_rows_all _ M X2 L3 o ds _ (.bl t) c (by rw [List.length_map, blk_len]; omega)
    obtain ⟨s5', ih⟩ := ra_loop (A := A) hB M X2 L3 o ts (ds ++ (blk A B t).map D.bl) (.fz (.bl t)) (by rw [List.length_append, List.length_map, blk_len]; omega)
    refine ⟨s5', SLoop_cons (ρ1 := [.fz (Sh (A : Nat) (B : Nat)), .fz M, .fz X2, .fz L3, .ow o ds, .fz (.bl t), .un]) rfl d ?_⟩
    rw [ih, List.append_assoc, ← List.map_append]
    rfl
theorem r2_s (l : FS) (S M X2 L3 : D) (s4 s5 s5' : Sl) (ds : List D) (h : l [.fz S, .fz M, .fz X2, .fz L3, .ow none [], s5, .un] = some (.nx, [.fz S, .fz M, .fz X2, .fz L3, .ow none ds, s5', .un])) :
    SSeq (SOwn 4 (LDisp ANil)) (SSeq l (SAsg (FFrz 4) (TName 2))) [.fz S, .fz M, .fz X2, .fz L3, s4, s5, .un] = some (.nx, [.fz S, .fz M, .fz (.lst ds), .fz L3, .fz (.lst ds), s5', .un]) := by
  simp only [h, bnd_some, lft_some, SSeq, SAsg, SRet, SRetL, SRetN, SIf, SPar2, SPar3, SAugO, IEnum, LBin, LOf, SFor, SDrop, SOwn, SNx, FVar, FFrz, FC, FBin, FUn, FCall, FChain, FAnd, FOr, FNot, FIf, FTup, FLst, FSl, ONone, OSome, FIxO, FExt, FOf, FCallE, FCallL, FCallK, BVal, BAnd, BOr, BNot, BYes, LDisp, ISeq, IZip, IZipM, seqZ, TName, TTup, TCons, TNil, ANil, ACons, GAll, GVar, GFr, callR, parS, wipeS, backS, List.getElem?_cons_zero, List.getElem?_cons_succ, List.getElem?_nil, List.set_cons_zero, List.set_cons_succ, List.length_cons, List.length_nil, List.map_cons, List.map_nil, List.nil_append, List.cons_append, List.append_nil, List.length_append, Option.map_some, Option.map_none, Option.bind_some, Option.some.injEq, Bool.false_eq_true, if_true, if_false, reduceIte, Bool.not_true, Bool.not_false, Nat.reduceLT, Nat.reduceAdd, Nat.reduceLeDiff, Nat.zero_add, decide_true, decide_false, true_and, false_and, and_true, and_self, gLt_int, gLe_int, gGt_int, gGe_int, gAdd_int, gSub_int, gInt_int, gInt_bl, gLen_tup, gLen_lst, gLen_frl, gTuple_lst, gTuple_tup, gEq_int, gNe_int, isi_int_int, isi_int_bool, isi_tup_tup, fDef, fEnd, outs, List.replicate, Nat.sub_self, Nat.reduceSub, not_true_eq_false, not_false_eq_true]
theorem pw_le {B n : Nat} (hB : B ≤ 6) (hn : n ≤ 4) : B ^ n ≤ 1296 := by
  have h1 : B ^ n ≤ 6 ^ n := Nat.pow_le_pow_left hB n
  have h2 : 6 ^ n ≤ 6 ^ 4 := Nat.pow_le_pow_right (by decide) hn
  have h3 : (6 : Nat) ^ 4 = 1296 := by decide
  omega
theorem r2_loop {A B : Nat} (hB : B ≤ 6) (M : D) : ∀ (is : List D) (n : Nat) (s3 s4 s5 : Sl), n + is.length ≤ 4 → ∃ s3' s4' s5', SLoop (TName 3) d2__law_rows_all is [.fz (Sh (A : Nat) (B : Nat)), .fz M, .fz (.lst ((iterB A B n).map D.bl)), s3, s4, s5, .un] = some (.nx, [.fz (Sh (A : Nat) (B : Nat)), .fz M, .fz (.lst ((iterB A B (n + is.length)).map D.bl)), s3', s4', s5', .un])
  | [], n, s3, s4, s5, _ => ⟨s3, s4, s5, rfl⟩
  | i :: is, n, s3, s4, s5, h => by
    rw [List.length_cons] at h
    have w := pw_le (n := n) hB (by omega)
    have w2 : B ^ n * B ≤ 1296 * 6 := Nat.mul_le_mul w hB
    obtain ⟨s5a, e⟩ := ra_loop (A := A) (B := B) (by omega) M (.lst ((iterB A B n).map D.bl)) i none (iterB A B n) [] s5 (by rw [iterB_len, List.length_nil]; omega)
    rw [List.nil_append] at e
    have l : l1__law_rows_all [.fz (Sh (A : Nat) (B : Nat)), .fz M, .fz (.lst ((iterB A B n).map D.bl)), .fz i, .ow none [], s5, .un] = some (.nx, [.fz (Sh (A : Nat) (B : Nat)), .fz M, .fz (.lst ((iterB A B n).map D.bl)), .fz i, .ow none ((nextB A B (iterB A B n)).map D.bl), s5a, .un]) := SFor_eq rfl e
    have d := r2_s l1__law_rows_all _ M _ i s4 s5 s5a _ l
    obtain ⟨s3', s4', s5', ih⟩ := r2_loop (A := A) hB M is (n + 1) (.fz i) _ s5a (by omega)
    refine ⟨s3', s4', s5', SLoop_cons (ρ1 := [.fz (Sh (A : Nat) (B : Nat)), .fz M, .fz (.lst ((iterB A B n).map D.bl)), .fz i, s4, s5, .un]) rfl d ?_⟩
    rw [show n + (i :: is).length = n + 1 + is.length from by rw [List.length_cons]; omega]
    exact ih
theorem cnt_bools (b : Bool) (bs : List Bool) : gCntB (.lst (bs.map D.bl)) [.bl b] = some (.int (bs.count b : Nat)) := by
  show (boolsD (bs.map D.bl)).map _ = _
  rw [boolsD_of]
  rfl
theorem len_bools (bs : List Bool) : gLen [.lst (bs.map D.bl)] = some (.int (bs.length : Nat)) := by
  have e : ((bs.map D.bl).length : Int) = (bs.length : Nat) := by rw [List.length_map]
  exact congrArg (fun z => some (D.int z)) e
theorem ra_r (S M F : D) (x y : Int) (s3 s4 s5 : Sl) (h1 : gCntB F [.bl true] = some (.int x)) (h2 : gLen [F] = some (.int y)) :
    SRet (FTup (ACons (FCntB (FVar 2) (ACons (FC (.bl true)) ANil)) (ACons (FCall gLen (ACons (FVar 2) ANil)) ANil))) [.fz S, .fz M, .fz F, s3, s4, s5, .un] = some (.ret (.tup [.int x, .int y]), [.fz S, .fz M, .fz F, s3, s4, s5, .un]) := by
  have l2 : (2 : Nat) ≤ 16777216 := by decide
  simp only [FCntB, h1, h2, l2, bnd_some, lft_some, SSeq, SAsg, SRet, SRetL, SRetN, SIf, SPar2, SPar3, SAugO, IEnum, LBin, LOf, SFor, SDrop, SOwn, SNx, FVar, FFrz, FC, FBin, FUn, FCall, FChain, FAnd, FOr, FNot, FIf, FTup, FLst, FSl, ONone, OSome, FIxO, FExt, FOf, FCallE, FCallL, FCallK, BVal, BAnd, BOr, BNot, BYes, LDisp, ISeq, IZip, IZipM, seqZ, TName, TTup, TCons, TNil, ANil, ACons, GAll, GVar, GFr, callR, parS, wipeS, backS, List.getElem?_cons_zero, List.getElem?_cons_succ, List.getElem?_nil, List.set_cons_zero, List.set_cons_succ, List.length_cons, List.length_nil, List.map_cons, List.map_nil, List.nil_append, List.cons_append, List.append_nil, List.length_append, Option.map_some, Option.map_none, Option.bind_some, Option.some.injEq, Bool.false_eq_true, if_true, if_false, reduceIte, Bool.not_true, Bool.not_false, Nat.reduceLT, Nat.reduceAdd, Nat.reduceLeDiff, Nat.zero_add, decide_true, decide_false, true_and, false_and, and_true, and_self, gLt_int, gLe_int, gGt_int, gGe_int, gAdd_int, gSub_int, gInt_int, gInt_bl, gLen_tup, gLen_lst, gLen_frl, gTuple_lst, gTuple_tup, gEq_int, gNe_int, isi_int_int, isi_int_bool, isi_tup_tup, fDef, fEnd, outs, List.replicate, Nat.sub_self, Nat.reduceSub, not_true_eq_false, not_false_eq_true]
theorem rows_all_ok {A B m : Nat} (h : A ≤ B) (hB : B ≤ 6) (hm : m ≤ 4) : f__law_rows_all [.fz (Sh (A : Nat) (B : Nat)), .fz (.int (m : Nat))] = some (.d (Sh ((A : Int) ^ m) ((B : Int) ^ m)), [.un, .un]) := by
  obtain ⟨s3, s4, s5, e⟩ := r2_loop (A := A) hB (.int (m : Nat)) ((List.range m).map fun i => D.int (i : Nat)) 0 .un .un .un (by rw [List.length_map, List.length_range]; omega)
  rw [List.length_map, List.length_range, Nat.zero_add] at e
  have it := rng1_ok (n := ((m : Nat) : Int)) (ρ := [.fz (Sh (A : Nat) (B : Nat)), .fz (.int (m : Nat)), .fz (.lst [.bl true]), .un, .un, .un, .un]) (FVar 1) rfl (by omega) (by omega)
  rw [Int.toNat_natCast] at it
  have l : l2__law_rows_all [.fz (Sh (A : Nat) (B : Nat)), .fz (.int (m : Nat)), .fz (.lst [.bl true]), .un, .un, .un, .un] = some (.nx, _) := SFor_eq it e
  have r := ra_r (Sh (A : Nat) (B : Nat)) (.int (m : Nat)) _ _ _ s3 s4 s5 (cnt_bools true (iterB A B m)) (len_bools _)
  rw [iterB_count A B h, iterB_len] at r
  have ea : ((A ^ m : Nat) : Int) = (A : Int) ^ m := Int.natCast_pow ..
  have eb : ((B ^ m : Nat) : Int) = (B : Int) ^ m := Int.natCast_pow ..
  rw [ea, eb] at r
  exact fDef_ret rfl rfl (SSeq_nx (ρ1 := [.fz (Sh (A : Nat) (B : Nat)), .fz (.int (m : Nat)), .fz (.lst [.bl true]), .un, .un, .un, .un]) rfl (SSeq_nx l r)) rfl
end Dn.k45
end
section
namespace Dn.k45
open PySem PySem.Spec PyProof.Rows L2 Dn
set_option maxHeartbeats 1000000
/-! rows that either lets -/
def lin (A C : Nat) (E : Nat) (i : Nat) : List Bool := (List.range E).map fun j => decide (((i : Nat) : Int) < (A : Nat)) || decide (((j : Nat) : Int) < (C : Nat))
theorem lin_len (A C E i : Nat) : (lin A C E i).length = E := by
  unfold lin
  rw [List.length_map, List.length_range]
theorem lin_count (A C E i : Nat) (h : C ≤ E) : (lin A C E i).count true = if i < A then E else C := by
  unfold lin
  by_cases q : i < A
  · have q' : ((i : Nat) : Int) < (A : Nat) := by omega
    rw [if_pos q]
    simp only [decide_eq_true q', Bool.true_or]
    rw [List.count_eq_length.mpr (fun b hb => by obtain ⟨_, _, e⟩ := List.mem_map.mp hb; exact e), List.length_map, List.length_range]
  · have q' : ¬ (((i : Nat) : Int) < (A : Nat)) := by omega
    rw [if_neg q]
    simp only [decide_eq_false q', Bool.false_or]
    have k := blk_count C E h true
    unfold blk at k
    simpa using k
theorem lins_len (A C E : Nat) : ∀ is : List Nat, ((is.map (lin A C E)).flatten).length = is.length * E
  | [] => by simp
  | i :: is => by
    rw [List.map_cons, List.flatten_cons, List.length_append, lin_len, lins_len A C E is, List.length_cons, Nat.add_mul, Nat.one_mul, Nat.add_comm]
theorem lins_count (A C E : Nat) (h : C ≤ E) : ∀ n : Nat, (((List.range n).map (lin A C E)).flatten).count true = min n A * E + (n - A) * C
  | 0 => by simp
  | n + 1 => by
    rw [List.range_succ, List.map_append, List.flatten_append, List.count_append, lins_count A C E h n]
    have e : ([n].map (lin A C E)).flatten = lin A C E n := by simp
    rw [e, lin_count A C E n h]
    by_cases q : n < A
    · rw [if_pos q, show n - A = 0 from by omega, show n + 1 - A = 0 from by omega, show min (n + 1) A = min n A + 1 from by omega, Nat.add_mul, Nat.one_mul]
      omega
    · rw [if_neg q, show min (n + 1) A = min n A from by omega, show n + 1 - A = (n - A) + 1 from by omega, Nat.add_mul, Nat.one_mul]
      omega
theorem lc_ok {A B C E : Nat} (hE : E ≤ 1000) (o : Option Nat) (ds : List D) (i : Nat) :
    c1__law_rows_led [.fz (Sh (A : Nat) (B : Nat)), .fz (Sh (C : Nat) (E : Nat)), .ow o ds, .fz (.int (i : Nat)), .un] = some ((lin A C E i).map D.bl, [.fz (Sh (A : Nat) (B : Nat)), .fz (Sh (C : Nat) (E : Nat)), .ow o ds, .fz (.int (i : Nat)), .un]) := by
  have it := rng1_ok (n := ((E : Nat) : Int)) (ρ := [.fz (Sh (A : Nat) (B : Nat)), .fz (Sh (C : Nat) (E : Nat)), .ow o ds, .fz (.int (i : Nat)), .un]) (FBin gIx (FVar 1) (FC (.int 1))) rfl (by omega) (by omega)
  rw [Int.toNat_natCast] at it
  unfold lin
  rw [List.map_map]
  unfold c1__law_rows_led
  refine LComp_eq (vs := [4]) (ρ1 := [.fz (Sh (A : Nat) (B : Nat)), .fz (Sh (C : Nat) (E : Nat)), .ow o ds, .fz (.int (i : Nat)), .un]) it (by rw [List.length_map, List.length_range]; omega)
    (CLoop_map (fun j : Nat => D.int (j : Nat)) (fun j : Nat => D.bl (decide (((i : Nat) : Int) < (A : Nat)) || decide (((j : Nat) : Int) < (C : Nat)))) [.fz (Sh (A : Nat) (B : Nat)), .fz (Sh (C : Nat) (E : Nat)), .ow o ds, .fz (.int (i : Nat)), .un] (List.range E) fun j hj => ⟨_, _, [.fz (Sh (A : Nat) (B : Nat)), .fz (Sh (C : Nat) (E : Nat)), .ow o ds, .fz (.int (i : Nat)), .fz (.int (j : Nat))], rfl, rfl, ?_, rfl⟩)
  have i0 : gIx (Sh (A : Nat) (B : Nat)) (.int 0) = some (.int (A : Nat)) := rfl
  have i1 : gIx (Sh (C : Nat) (E : Nat)) (.int 0) = some (.int (C : Nat)) := rfl
  generalize Sh (A : Nat) (B : Nat) = S at i0 ⊢
  generalize Sh (C : Nat) (E : Nat) = T' at i1 ⊢
  generalize ((i : Nat) : Int) = x
  generalize ((j : Nat) : Int) = y
  generalize ((A : Nat) : Int) = u at i0 ⊢
  generalize ((C : Nat) : Int) = v at i1 ⊢
  by_cases q : x < u <;> simp only [i0, i1, q, Bool.true_or, Bool.false_or, bnd_some, lft_some, SSeq, SAsg, SRet, SRetL, SRetN, SIf, SPar2, SPar3, SAugO, IEnum, LBin, LOf, SFor, SDrop, SOwn, SNx, FVar, FFrz, FC, FBin, FUn, FCall, FChain, FAnd, FOr, FNot, FIf, FTup, FLst, FSl, ONone, OSome, FIxO, FExt, FOf, FCallE, FCallL, FCallK, BVal, BAnd, BOr, BNot, BYes, LDisp, ISeq, IZip, IZipM, seqZ, TName, TTup, TCons, TNil, ANil, ACons, GAll, GVar, GFr, callR, parS, wipeS, backS, List.getElem?_cons_zero, List.getElem?_cons_succ, List.getElem?_nil, List.set_cons_zero, List.set_cons_succ, List.length_cons, List.length_nil, List.map_cons, List.map_nil, List.nil_append, List.cons_append, List.append_nil, List.length_append, Option.map_some, Option.map_none, Option.bind_some, Option.some.injEq, Bool.false_eq_true, if_true, if_false, reduceIte, Bool.not_true, Bool.not_false, Nat.reduceLT, Nat.reduceAdd, Nat.reduceLeDiff, Nat.zero_add, decide_true, decide_false, true_and, false_and, and_true, and_self, gLt_int, gLe_int, gGt_int, gGe_int, gAdd_int, gSub_int, gInt_int, gInt_bl, gLen_tup, gLen_lst, gLen_frl, gTuple_lst, gTuple_tup, gEq_int, gNe_int, isi_int_int, isi_int_bool, isi_tup_tup, fDef, fEnd, outs, List.replicate, Nat.sub_self, Nat.reduceSub, not_true_eq_false, not_false_eq_true]
theorem rl_d (C : FL) (S T' X3 : D) (o : Option Nat) (ds es : List D) (hC : C [.fz S, .fz T', .ow o ds, .fz X3, .un] = some (es, [.fz S, .fz T', .ow o ds, .fz X3, .un])) (hl : ds.length + es.length ≤ 16777216) :
    SDrop (FExt 2 C) [.fz S, .fz T', .ow o ds, .fz X3, .un] = some (.nx, [.fz S, .fz T', .ow o (ds ++ es), .fz X3, .un]) := by
  simp only [FExt, hC, hl, bnd_some, lft_some, SSeq, SAsg, SRet, SRetL, SRetN, SIf, SPar2, SPar3, SAugO, IEnum, LBin, LOf, SFor, SDrop, SOwn, SNx, FVar, FFrz, FC, FBin, FUn, FCall, FChain, FAnd, FOr, FNot, FIf, FTup, FLst, FSl, ONone, OSome, FIxO, FExt, FOf, FCallE, FCallL, FCallK, BVal, BAnd, BOr, BNot, BYes, LDisp, ISeq, IZip, IZipM, seqZ, TName, TTup, TCons, TNil, ANil, ACons, GAll, GVar, GFr, callR, parS, wipeS, backS, List.getElem?_cons_zero, List.getElem?_cons_succ, List.getElem?_nil, List.set_cons_zero, List.set_cons_succ, List.length_cons, List.length_nil, List.map_cons, List.map_nil, List.nil_append, List.cons_append, List.append_nil, List.length_append, Option.map_some, Option.map_none, Option.bind_some, Option.some.injEq, Bool.false_eq_true, if_true, if_false, reduceIte, Bool.not_true, Bool.not_false, Nat.reduceLT, Nat.reduceAdd, Nat.reduceLeDiff, Nat.zero_add, decide_true, decide_false, true_and, false_and, and_true, and_self, gLt_int, gLe_int, gGt_int, gGe_int, gAdd_int, gSub_int, gInt_int, gInt_bl, gLen_tup, gLen_lst, gLen_frl, gTuple_lst, gTuple_tup, gEq_int, gNe_int, isi_int_int, isi_int_bool, isi_tup_tup, fDef, fEnd, outs, List.replicate, Nat.sub_self, Nat.reduceSub, not_true_eq_false, not_false_eq_true]
theorem rl_loop {A B C E : Nat} (hE : E ≤ 1000) (o : Option Nat) : ∀ (is : List Nat) (ds : List D) (s3 : Sl), ds.length + is.length * E ≤ 16777216 → ∃ s3', SLoop (TName 3) d1__law_rows_led (is.map fun i => D.int (i : Nat)) [.fz (Sh (A : Nat) (B : Nat)), .fz (Sh (C : Nat) (E : Nat)), .ow o ds, s3, .un] = some (.nx, [.fz (Sh (A : Nat) (B : Nat)), .fz (Sh (C : Nat) (E : Nat)), .ow o (ds ++ ((is.map (lin A C E)).flatten).map D.bl), s3', .un])
  | [], ds, s3, _ => ⟨s3, by
    show some _ = _
    rw [show (([].map (lin A C E)).flatten).map D.bl = [] from rfl, List.append_nil]⟩
  | i :: is, ds, s3, h => by
    rw [List.length_cons, Nat.add_mul, Nat.one_mul] at h
    have c := lc_ok (A := A) (B := B) (C := C) hE o ds i
    have d := rl_d c1__law_rows_led _ _ (.int (i : Nat)) o ds _ c (by rw [List.length_map, lin_len]; omega)
    obtain ⟨s3', ih⟩ := rl_loop (A := A) (B := B) (C := C) hE o is (ds ++ (lin A C E i).map D.bl) (.fz (.int (i : Nat))) (by rw [List.length_append, List.length_map, lin_len]; omega)
    refine ⟨s3', SLoop_cons (ρ1 := [.fz (Sh (A : Nat) (B : Nat)), .fz (Sh (C : Nat) (E : Nat)), .ow o ds, .fz (.int (i : Nat)), .un]) rfl d ?_⟩
    rw [ih, List.append_assoc, ← List.map_append]
    rfl
theorem mcnt_bools (bs : List Bool) : mCntB (bs.map D.bl) [.bl true] = some (.int (bs.count true : Nat), bs.map D.bl) := by
  unfold mCntB
  dsimp only
  rw [boolsD_of]
theorem rl_r (S T' : D) (o : Option Nat) (ds : List D) (x : Int) (l : Nat) (s3 : Sl) (h1 : mCntB ds [.bl true] = some (.int x, ds)) (h2 : ds.length = l) :
    SRet (FTup (ACons (FMeth 2 mCntB (ACons (FC (.bl true)) ANil)) (ACons (FLenO 2) ANil))) [.fz S, .fz T', .ow o ds, s3, .un] = some (.ret (.tup [.int x, .int (l : Nat)]), [.fz S, .fz T', .ow o ds, s3, .un]) := by
  subst h2
  have l2 : (2 : Nat) ≤ 16777216 := by decide
  simp only [FMeth, FLenO, h1, l2, bnd_some, lft_some, SSeq, SAsg, SRet, SRetL, SRetN, SIf, SPar2, SPar3, SAugO, IEnum, LBin, LOf, SFor, SDrop, SOwn, SNx, FVar, FFrz, FC, FBin, FUn, FCall, FChain, FAnd, FOr, FNot, FIf, FTup, FLst, FSl, ONone, OSome, FIxO, FExt, FOf, FCallE, FCallL, FCallK, BVal, BAnd, BOr, BNot, BYes, LDisp, ISeq, IZip, IZipM, seqZ, TName, TTup, TCons, TNil, ANil, ACons, GAll, GVar, GFr, callR, parS, wipeS, backS, List.getElem?_cons_zero, List.getElem?_cons_succ, List.getElem?_nil, List.set_cons_zero, List.set_cons_succ, List.length_cons, List.length_nil, List.map_cons, List.map_nil, List.nil_append, List.cons_append, List.append_nil, List.length_append, Option.map_some, Option.map_none, Option.bind_some, Option.some.injEq, Bool.false_eq_true, if_true, if_false, reduceIte, Bool.not_true, Bool.not_false, Nat.reduceLT, Nat.reduceAdd, Nat.reduceLeDiff, Nat.zero_add, decide_true, decide_false, true_and, false_and, and_true, and_self, gLt_int, gLe_int, gGt_int, gGe_int, gAdd_int, gSub_int, gInt_int, gInt_bl, gLen_tup, gLen_lst, gLen_frl, gTuple_lst, gTuple_tup, gEq_int, gNe_int, isi_int_int, isi_int_bool, isi_tup_tup, fDef, fEnd, outs, List.replicate, Nat.sub_self, Nat.reduceSub, not_true_eq_false, not_false_eq_true]
theorem rows_led_ok {A B C E : Nat} (h : A ≤ B) (h' : C ≤ E) (hB : B ≤ 1000) (hE : E ≤ 1000) : f__law_rows_led [.fz (Sh (A : Nat) (B : Nat)), .fz (Sh (C : Nat) (E : Nat))] = some (.d (Sh ((B : Int) * (E : Int) - ((B : Int) - (A : Int)) * ((E : Int) - (C : Int))) ((B : Int) * (E : Int))), [.un, .un]) := by
  have sz : B * E ≤ 1000 * 1000 := Nat.mul_le_mul hB hE
  obtain ⟨s3, e⟩ := rl_loop (A := A) (B := B) (C := C) hE none (List.range B) [] .un (by rw [List.length_range, List.length_nil]; omega)
  rw [List.nil_append] at e
  have it := rng1_ok (n := ((B : Nat) : Int)) (ρ := [.fz (Sh (A : Nat) (B : Nat)), .fz (Sh (C : Nat) (E : Nat)), .ow none [], .un, .un]) (FBin gIx (FVar 0) (FC (.int 1))) rfl (by omega) (by omega)
  rw [Int.toNat_natCast] at it
  have l : l1__law_rows_led [.fz (Sh (A : Nat) (B : Nat)), .fz (Sh (C : Nat) (E : Nat)), .ow none [], .un, .un] = some (.nx, _) := SFor_eq it e
  have r := rl_r (Sh (A : Nat) (B : Nat)) (Sh (C : Nat) (E : Nat)) none ((((List.range B).map (lin A C E)).flatten).map D.bl) _ (B * E) s3 (mcnt_bools (((List.range B).map (lin A C E)).flatten)) (by rw [List.length_map, lins_len, List.length_range])
  rw [lins_count A C E h' B] at r
  have e1 : ((min B A * E + (B - A) * C : Nat) : Int) = (B : Int) * (E : Int) - ((B : Int) - (A : Int)) * ((E : Int) - (C : Int)) := by
    rw [show min B A = A from by omega]
    obtain ⟨k, rfl⟩ := Nat.exists_eq_add_of_le h
    rw [show A + k - A = k from by omega]
    push_cast
    rw [show (A : Int) + (k : Int) - (A : Int) = (k : Int) from by omega, Int.mul_sub, Int.add_mul]
    omega
  have e2 : ((B * E : Nat) : Int) = (B : Int) * (E : Int) := Int.natCast_mul ..
  rw [e1, e2] at r
  exact fDef_ret rfl rfl (SSeq_nx (ρ1 := [.fz (Sh (A : Nat) (B : Nat)), .fz (Sh (C : Nat) (E : Nat)), .ow none [], .un, .un]) rfl (SSeq_nx l r)) rfl
end Dn.k45
end
section
namespace Dn.k45
open PySem PySem.Spec PyProof.Rows L2 Dn
set_option maxHeartbeats 1000000
theorem ss_s (F : DN) (d0 d1 d2 : List D) (u r b q a : Int) (h1 : F [.ow (some 0) d0, .fz (.int u)] = some (.d (.int r), [.ow (some 0) d1, .un])) (hb : 1 + r = b) (hq : b + 1 = q) (h2 : F [.ow (some 0) d1, .fz (.int q)] = some (.d (.int a), [.ow (some 0) d2, .un])) :
    SSeq (SAsg (FBin gAdd (FC (.int 1)) (FCallE F (GVar 0 (ACons (FVar 1) ANil)))) (TName 2))
  (SRet (FTup (ACons (FCallE F (GVar 0 (ACons (FBin gAdd (FVar 2) (FC (.int 1))) ANil))) (ACons (FCall gInt (ACons (FVar 2) ANil)) ANil)))) [.ow (some 0) d0, .fz (.int u), .un] = some (.ret (.tup [.int a, .int b]), [.ow (some 0) d2, .fz (.int u), .fz (.int b)]) := by
  subst hb hq
  have l2 : (2 : Nat) ≤ 16777216 := by decide
  simp only [h1, h2, l2, bnd_some, lft_some, SSeq, SAsg, SRet, SRetL, SRetN, SIf, SPar2, SPar3, SAugO, IEnum, LBin, LOf, SFor, SDrop, SOwn, SNx, FVar, FFrz, FC, FBin, FUn, FCall, FChain, FAnd, FOr, FNot, FIf, FTup, FLst, FSl, ONone, OSome, FIxO, FExt, FOf, FCallE, FCallL, FCallK, BVal, BAnd, BOr, BNot, BYes, LDisp, ISeq, IZip, IZipM, seqZ, TName, TTup, TCons, TNil, ANil, ACons, GAll, GVar, GFr, callR, parS, wipeS, backS, List.getElem?_cons_zero, List.getElem?_cons_succ, List.getElem?_nil, List.set_cons_zero, List.set_cons_succ, List.length_cons, List.length_nil, List.map_cons, List.map_nil, List.nil_append, List.cons_append, List.append_nil, List.length_append, Option.map_some, Option.map_none, Option.bind_some, Option.some.injEq, Bool.false_eq_true, if_true, if_false, reduceIte, Bool.not_true, Bool.not_false, Nat.reduceLT, Nat.reduceAdd, Nat.reduceLeDiff, Nat.zero_add, decide_true, decide_false, true_and, false_and, and_true, and_self, gLt_int, gLe_int, gGt_int, gGe_int, gAdd_int, gSub_int, gInt_int, gInt_bl, gLen_tup, gLen_lst, gLen_frl, gTuple_lst, gTuple_tup, gEq_int, gNe_int, isi_int_int, isi_int_bool, isi_tup_tup, fDef, fEnd, outs, List.replicate, Nat.sub_self, Nat.reduceSub, not_true_eq_false, not_false_eq_true]
theorem share_ok {k : Nat} {ds : List D} {u : Int} (h : Pot k ds) (hk : k < 900000) (h1 : 1 ≤ u) (h2 : u ≤ 1000) : ∃ (A B : Nat) (es : List D), f__law_share [.ow (some 0) ds, .fz (.int u)] = some (.d (Sh (A : Nat) (B : Nat)), [.ow (some 0) es, .un]) ∧ A ≤ B ∧ 1 ≤ B ∧ (B : Int) ≤ u ∧ Pot (k + 2) es := by
  obtain ⟨r, d1, t1, t2, t3, t4⟩ := take_ok (u := u) h (by omega) h1 (by omega)
  obtain ⟨a, d2, s1, s2, s3, s4⟩ := take_ok (u := 1 + r + 1) t4 (by omega) (by omega) (by omega)
  obtain ⟨A, rfl⟩ := Int.eq_ofNat_of_zero_le s2
  obtain ⟨B, hB⟩ := Int.eq_ofNat_of_zero_le (show 0 ≤ 1 + r by omega)
  have e := ss_s f__law_take ds d1 d2 u r ((B : Nat) : Int) _ ((A : Nat) : Int) t1 hB rfl (by rw [← hB]; exact s1)
  exact ⟨A, B, d2, fDef_ret rfl rfl e rfl, by omega, by omega, by omega, s4⟩
theorem ofD_s (F : DN) (ds es xs : List D) (n i : Int) (x : D) (hn : gLen [.lst xs] = some (.int n)) (h : F [.ow (some 0) ds, .fz (.int n)] = some (.d (.int i), [.ow (some 0) es, .un])) (hx : gIx (.lst xs) (.int i) = some x) :
    SRet (FBin gIx (FVar 1) (FCallE F (GVar 0 (ACons (FCall gLen (ACons (FVar 1) ANil)) ANil)))) [.ow (some 0) ds, .fz (.lst xs)] = some (.ret x, [.ow (some 0) es, .fz (.lst xs)]) := by
  simp only [hn, h, hx, bnd_some, lft_some, SSeq, SAsg, SRet, SRetL, SRetN, SIf, SPar2, SPar3, SAugO, IEnum, LBin, LOf, SFor, SDrop, SOwn, SNx, FVar, FFrz, FC, FBin, FUn, FCall, FChain, FAnd, FOr, FNot, FIf, FTup, FLst, FSl, ONone, OSome, FIxO, FExt, FOf, FCallE, FCallL, FCallK, BVal, BAnd, BOr, BNot, BYes, LDisp, ISeq, IZip, IZipM, seqZ, TName, TTup, TCons, TNil, ANil, ACons, GAll, GVar, GFr, callR, parS, wipeS, backS, List.getElem?_cons_zero, List.getElem?_cons_succ, List.getElem?_nil, List.set_cons_zero, List.set_cons_succ, List.length_cons, List.length_nil, List.map_cons, List.map_nil, List.nil_append, List.cons_append, List.append_nil, List.length_append, Option.map_some, Option.map_none, Option.bind_some, Option.some.injEq, Bool.false_eq_true, if_true, if_false, reduceIte, Bool.not_true, Bool.not_false, Nat.reduceLT, Nat.reduceAdd, Nat.reduceLeDiff, Nat.zero_add, decide_true, decide_false, true_and, false_and, and_true, and_self, gLt_int, gLe_int, gGt_int, gGe_int, gAdd_int, gSub_int, gInt_int, gInt_bl, gLen_tup, gLen_lst, gLen_frl, gTuple_lst, gTuple_tup, gEq_int, gNe_int, isi_int_int, isi_int_bool, isi_tup_tup, fDef, fEnd, outs, List.replicate, Nat.sub_self, Nat.reduceSub, not_true_eq_false, not_false_eq_true]
def pool : List (Int × Int) := [(100000000000000000000 - 1, 100000000000000000000), (3, 1000000000000000000000000000000), (0, 7), (5, 5), (343 - 125, 343)]
theorem ofD_ok {k : Nat} {ds : List D} (h : Pot k ds) (hk : k < 900000) : ∃ (a b : Int) (es : List D), f__law_of [.ow (some 0) ds, .fz (.lst (pool.map fun q => Sh q.1 q.2))] = some (.d (Sh a b), [.ow (some 0) es, .un]) ∧ Ok a b ∧ b ≤ 1000000000000000000000000000000 ∧ Pot (k + 1) es := by
  obtain ⟨i, es, t1, t2, t3, t4⟩ := take_ok (u := 5) h (by omega) (by decide) (by decide)
  have key : ∃ a b, gIx (.lst (pool.map fun q => Sh q.1 q.2)) (.int i) = some (Sh a b) ∧ Ok a b ∧ b ≤ 1000000000000000000000000000000 := by
    have : i = 0 ∨ i = 1 ∨ i = 2 ∨ i = 3 ∨ i = 4 := by omega
    rcases this with rfl | rfl | rfl | rfl | rfl
    · exact ⟨_, _, rfl, ⟨by decide, by decide, by decide⟩, by decide⟩
    · exact ⟨_, _, rfl, ⟨by decide, by decide, by decide⟩, by decide⟩
    · exact ⟨_, _, rfl, ⟨by decide, by decide, by decide⟩, by decide⟩
    · exact ⟨_, _, rfl, ⟨by decide, by decide, by decide⟩, by decide⟩
    · exact ⟨_, _, rfl, ⟨by decide, by decide, by decide⟩, by decide⟩
  obtain ⟨a, b, e, o, hb⟩ := key
  exact ⟨a, b, es, fDef_ret rfl rfl (ofD_s f__law_take ds es _ 5 i _ rfl t1 e) rfl, o, hb, t4⟩
/-! the statements of the great ones -/
theorem g1_s (F : DN) (d0 d1 : List D) (P Q R P1 : Int) (S : D) (a2 a3 a4 a5 a6 : Sl) (hp : gPow (.int 10) (.int 20) = some (.int P)) (hq : gPow (.int 10) (.int 30) = some (.int Q)) (h1 : P - 1 = P1) (hr : 343 - 125 = R)
    (h : F [.ow (some 0) d0, .fz (.lst [.tup [.int P1, .int P], .tup [.int 3, .int Q], .tup [.int 0, .int 7], .tup [.int 5, .int 5], .tup [.int R, .int 343]])] = some (.d S, [.ow (some 0) d1, .un])) :
    SAsg (FCallE F (GVar 0 (ACons (FLst (ACons (FTup (ACons (FBin gSub (FBin gPow (FC (.int 10)) (FC (.int 20))) (FC (.int 1))) (ACons (FBin gPow (FC (.int 10)) (FC (.int 20))) ANil))) (ACons (FTup (ACons (FC (.int 3)) (ACons (FBin gPow (FC (.int 10)) (FC (.int 30))) ANil))) (ACons (FTup (ACons (FC (.int 0)) (ACons (FC (.int 7)) ANil))) (ACons (FTup (ACons (FC (.int 5)) (ACons (FC (.int 5)) ANil))) (ACons (FTup (ACons (FBin gSub (FC (.int 343)) (FC (.int 125))) (ACons (FC (.int 343)) ANil))) ANil)))))) ANil))) (TName 1) [.ow (some 0) d0, .un, a2, a3, a4, a5, a6] =
      some (.nx, [.ow (some 0) d1, .fz S, a2, a3, a4, a5, a6]) := by
  subst h1 hr
  have l2 : (2 : Nat) ≤ 16777216 := by decide
  have l5 : (5 : Nat) ≤ 16777216 := by decide
  simp only [hp, hq, h, l2, l5, bnd_some, lft_some, SSeq, SAsg, SRet, SRetL, SRetN, SIf, SPar2, SPar3, SAugO, IEnum, LBin, LOf, SFor, SDrop, SOwn, SNx, FVar, FFrz, FC, FBin, FUn, FCall, FChain, FAnd, FOr, FNot, FIf, FTup, FLst, FSl, ONone, OSome, FIxO, FExt, FOf, FCallE, FCallL, FCallK, BVal, BAnd, BOr, BNot, BYes, LDisp, ISeq, IZip, IZipM, seqZ, TName, TTup, TCons, TNil, ANil, ACons, GAll, GVar, GFr, callR, parS, wipeS, backS, List.getElem?_cons_zero, List.getElem?_cons_succ, List.getElem?_nil, List.set_cons_zero, List.set_cons_succ, List.length_cons, List.length_nil, List.map_cons, List.map_nil, List.nil_append, List.cons_append, List.append_nil, List.length_append, Option.map_some, Option.map_none, Option.bind_some, Option.some.injEq, Bool.false_eq_true, if_true, if_false, reduceIte, Bool.not_true, Bool.not_false, Nat.reduceLT, Nat.reduceAdd, Nat.reduceLeDiff, Nat.zero_add, decide_true, decide_false, true_and, false_and, and_true, and_self, gLt_int, gLe_int, gGt_int, gGe_int, gAdd_int, gSub_int, gInt_int, gInt_bl, gLen_tup, gLen_lst, gLen_frl, gTuple_lst, gTuple_tup, gEq_int, gNe_int, isi_int_int, isi_int_bool, isi_tup_tup, fDef, fEnd, outs, List.replicate, Nat.sub_self, Nat.reduceSub, not_true_eq_false, not_false_eq_true]
theorem g2_s (F G : DN) (d0 d1 d2 : List D) (S T' : D) (r m : Int) (a4 a5 a6 : Sl) (h1 : F [.ow (some 0) d0, .fz (.int 1000)] = some (.d T', [.ow (some 0) d1, .un])) (h2 : G [.ow (some 0) d1, .fz (.int 40)] = some (.d (.int r), [.ow (some 0) d2, .un])) (hm : 1 + r = m) :
    SPar2 2 3 (ACons (FCallE F (GVar 0 (ACons (FC (.int 1000)) ANil))) (ACons (FBin gAdd (FC (.int 1)) (FCallE G (GVar 0 (ACons (FC (.int 40)) ANil)))) ANil)) [.ow (some 0) d0, .fz S, .un, .un, a4, a5, a6] = some (.nx, [.ow (some 0) d2, .fz S, .fz T', .fz (.int m), a4, a5, a6]) := by
  subst hm
  simp only [h1, h2, bnd_some, lft_some, SSeq, SAsg, SRet, SRetL, SRetN, SIf, SPar2, SPar3, SAugO, IEnum, LBin, LOf, SFor, SDrop, SOwn, SNx, FVar, FFrz, FC, FBin, FUn, FCall, FChain, FAnd, FOr, FNot, FIf, FTup, FLst, FSl, ONone, OSome, FIxO, FExt, FOf, FCallE, FCallL, FCallK, BVal, BAnd, BOr, BNot, BYes, LDisp, ISeq, IZip, IZipM, seqZ, TName, TTup, TCons, TNil, ANil, ACons, GAll, GVar, GFr, callR, parS, wipeS, backS, List.getElem?_cons_zero, List.getElem?_cons_succ, List.getElem?_nil, List.set_cons_zero, List.set_cons_succ, List.length_cons, List.length_nil, List.map_cons, List.map_nil, List.nil_append, List.cons_append, List.append_nil, List.length_append, Option.map_some, Option.map_none, Option.bind_some, Option.some.injEq, Bool.false_eq_true, if_true, if_false, reduceIte, Bool.not_true, Bool.not_false, Nat.reduceLT, Nat.reduceAdd, Nat.reduceLeDiff, Nat.zero_add, decide_true, decide_false, true_and, false_and, and_true, and_self, gLt_int, gLe_int, gGt_int, gGe_int, gAdd_int, gSub_int, gInt_int, gInt_bl, gLen_tup, gLen_lst, gLen_frl, gTuple_lst, gTuple_tup, gEq_int, gNe_int, isi_int_int, isi_int_bool, isi_tup_tup, fDef, fEnd, outs, List.replicate, Nat.sub_self, Nat.reduceSub, not_true_eq_false, not_false_eq_true]
theorem g3_s (F : DN) (S T' M X : D) (a b x y : Int) (a0 a5 a6 : Sl) (i0 : gIx S (.int 0) = some (.int a)) (i1 : gIx S (.int 1) = some (.int b)) (h1 : F [.fz (.int a), .fz M] = some (.d (.int x), [.un, .un])) (h2 : F [.fz (.int b), .fz M] = some (.d (.int y), [.un, .un])) (a4 : Sl) :
    SAsg (FTup (ACons (FCallE F (GAll (ACons (FBin gIx (FVar 1) (FC (.int 0))) (ACons (FVar 3) ANil)))) (ACons (FCallE F (GAll (ACons (FBin gIx (FVar 1) (FC (.int 1))) (ACons (FVar 3) ANil)))) ANil))) (TName 4) [a0, .fz S, .fz T', .fz M, a4, a5, a6] = some (.nx, [a0, .fz S, .fz T', .fz M, .fz (.tup [.int x, .int y]), a5, a6]) := by
  have l2 : (2 : Nat) ≤ 16777216 := by decide
  simp only [i0, i1, h1, h2, l2, bnd_some, lft_some, SSeq, SAsg, SRet, SRetL, SRetN, SIf, SPar2, SPar3, SAugO, IEnum, LBin, LOf, SFor, SDrop, SOwn, SNx, FVar, FFrz, FC, FBin, FUn, FCall, FChain, FAnd, FOr, FNot, FIf, FTup, FLst, FSl, ONone, OSome, FIxO, FExt, FOf, FCallE, FCallL, FCallK, BVal, BAnd, BOr, BNot, BYes, LDisp, ISeq, IZip, IZipM, seqZ, TName, TTup, TCons, TNil, ANil, ACons, GAll, GVar, GFr, callR, parS, wipeS, backS, List.getElem?_cons_zero, List.getElem?_cons_succ, List.getElem?_nil, List.set_cons_zero, List.set_cons_succ, List.length_cons, List.length_nil, List.map_cons, List.map_nil, List.nil_append, List.cons_append, List.append_nil, List.length_append, Option.map_some, Option.map_none, Option.bind_some, Option.some.injEq, Bool.false_eq_true, if_true, if_false, reduceIte, Bool.not_true, Bool.not_false, Nat.reduceLT, Nat.reduceAdd, Nat.reduceLeDiff, Nat.zero_add, decide_true, decide_false, true_and, false_and, and_true, and_self, gLt_int, gLe_int, gGt_int, gGe_int, gAdd_int, gSub_int, gInt_int, gInt_bl, gLen_tup, gLen_lst, gLen_frl, gTuple_lst, gTuple_tup, gEq_int, gNe_int, isi_int_int, isi_int_bool, isi_tup_tup, fDef, fEnd, outs, List.replicate, Nat.sub_self, Nat.reduceSub, not_true_eq_false, not_false_eq_true]
theorem g4_s (F : DN) (S T' M X : D) (w : Str) (a0 a5 a6 : Sl) (h : F [.fz S, .fz M] = some (.d X, [.un, .un])) (r : gReprP [X] = some (.str w)) (n : gNe (.str w) (.str w) = some (.bl false)) :
    SIf (BVal (FBin gNe (FCall gReprP (ACons (FCallK F [1, 0] (ACons (FVar 3) (ACons (FVar 1) ANil))) ANil)) (FCall gReprP (ACons (FVar 4) ANil)))) (SRet (FC (.bl false))) SNx [a0, .fz S, .fz T', .fz M, .fz X, a5, a6] = some (.nx, [a0, .fz S, .fz T', .fz M, .fz X, a5, a6]) := by
  have e : permV [1, 0] [M, S] = [S, M] := rfl
  simp only [h, e, r, n, bnd_some, lft_some, SSeq, SAsg, SRet, SRetL, SRetN, SIf, SPar2, SPar3, SAugO, IEnum, LBin, LOf, SFor, SDrop, SOwn, SNx, FVar, FFrz, FC, FBin, FUn, FCall, FChain, FAnd, FOr, FNot, FIf, FTup, FLst, FSl, ONone, OSome, FIxO, FExt, FOf, FCallE, FCallL, FCallK, BVal, BAnd, BOr, BNot, BYes, LDisp, ISeq, IZip, IZipM, seqZ, TName, TTup, TCons, TNil, ANil, ACons, GAll, GVar, GFr, callR, parS, wipeS, backS, List.getElem?_cons_zero, List.getElem?_cons_succ, List.getElem?_nil, List.set_cons_zero, List.set_cons_succ, List.length_cons, List.length_nil, List.map_cons, List.map_nil, List.nil_append, List.cons_append, List.append_nil, List.length_append, Option.map_some, Option.map_none, Option.bind_some, Option.some.injEq, Bool.false_eq_true, if_true, if_false, reduceIte, Bool.not_true, Bool.not_false, Nat.reduceLT, Nat.reduceAdd, Nat.reduceLeDiff, Nat.zero_add, decide_true, decide_false, true_and, false_and, and_true, and_self, gLt_int, gLe_int, gGt_int, gGe_int, gAdd_int, gSub_int, gInt_int, gInt_bl, gLen_tup, gLen_lst, gLen_frl, gTuple_lst, gTuple_tup, gEq_int, gNe_int, isi_int_int, isi_int_bool, isi_tup_tup, fDef, fEnd, outs, List.replicate, Nat.sub_self, Nat.reduceSub, not_true_eq_false, not_false_eq_true]
theorem g5_s (S T' M X : D) (b d r : Int) (a0 a5 a6 : Sl) (i1 : gIx S (.int 1) = some (.int b)) (j1 : gIx T' (.int 1) = some (.int d)) (m : gMul (.int b) (.int d) = some (.int r)) :
    SAsg (FBin gMul (FBin gIx (FVar 1) (FC (.int 1))) (FBin gIx (FVar 2) (FC (.int 1)))) (TName 5) [a0, .fz S, .fz T', .fz M, .fz X, a5, a6] = some (.nx, [a0, .fz S, .fz T', .fz M, .fz X, .fz (.int r), a6]) := by
  simp only [i1, j1, m, bnd_some, lft_some, SSeq, SAsg, SRet, SRetL, SRetN, SIf, SPar2, SPar3, SAugO, IEnum, LBin, LOf, SFor, SDrop, SOwn, SNx, FVar, FFrz, FC, FBin, FUn, FCall, FChain, FAnd, FOr, FNot, FIf, FTup, FLst, FSl, ONone, OSome, FIxO, FExt, FOf, FCallE, FCallL, FCallK, BVal, BAnd, BOr, BNot, BYes, LDisp, ISeq, IZip, IZipM, seqZ, TName, TTup, TCons, TNil, ANil, ACons, GAll, GVar, GFr, callR, parS, wipeS, backS, List.getElem?_cons_zero, List.getElem?_cons_succ, List.getElem?_nil, List.set_cons_zero, List.set_cons_succ, List.length_cons, List.length_nil, List.map_cons, List.map_nil, List.nil_append, List.cons_append, List.append_nil, List.length_append, Option.map_some, Option.map_none, Option.bind_some, Option.some.injEq, Bool.false_eq_true, if_true, if_false, reduceIte, Bool.not_true, Bool.not_false, Nat.reduceLT, Nat.reduceAdd, Nat.reduceLeDiff, Nat.zero_add, decide_true, decide_false, true_and, false_and, and_true, and_self, gLt_int, gLe_int, gGt_int, gGe_int, gAdd_int, gSub_int, gInt_int, gInt_bl, gLen_tup, gLen_lst, gLen_frl, gTuple_lst, gTuple_tup, gEq_int, gNe_int, isi_int_int, isi_int_bool, isi_tup_tup, fDef, fEnd, outs, List.replicate, Nat.sub_self, Nat.reduceSub, not_true_eq_false, not_false_eq_true]
theorem g6_s (F : DN) (S T' M X : D) (a b c d r u v : Int) (w : Str) (a0 a6 : Sl) (i0 : gIx S (.int 0) = some (.int a)) (i1 : gIx S (.int 1) = some (.int b)) (j0 : gIx T' (.int 0) = some (.int c)) (j1 : gIx T' (.int 1) = some (.int d)) (m : gMul (.int (b - a)) (.int (d - c)) = some (.int u)) (hv : r - u = v)
    (h : F [.fz S, .fz T'] = some (.d (.tup [.int v, .int r]), [.un, .un])) (re : gReprP [.tup [.int v, .int r]] = some (.str w)) (n : gNe (.str w) (.str w) = some (.bl false)) :
    SIf (BVal (FBin gNe (FCall gReprP (ACons (FCallK F [1, 0] (ACons (FVar 2) (ACons (FVar 1) ANil))) ANil)) (FCall gReprP (ACons (FTup (ACons (FBin gSub (FVar 5) (FBin gMul (FBin gSub (FBin gIx (FVar 1) (FC (.int 1))) (FBin gIx (FVar 1) (FC (.int 0)))) (FBin gSub (FBin gIx (FVar 2) (FC (.int 1))) (FBin gIx (FVar 2) (FC (.int 0)))))) (ACons (FVar 5) ANil))) ANil)))) (SRet (FC (.bl false))) SNx [a0, .fz S, .fz T', .fz M, .fz X, .fz (.int r), a6] =
      some (.nx, [a0, .fz S, .fz T', .fz M, .fz X, .fz (.int r), a6]) := by
  subst hv
  have l2 : (2 : Nat) ≤ 16777216 := by decide
  have e : permV [1, 0] [T', S] = [S, T'] := rfl
  simp only [i0, i1, j0, j1, m, h, e, re, n, l2, bnd_some, lft_some, SSeq, SAsg, SRet, SRetL, SRetN, SIf, SPar2, SPar3, SAugO, IEnum, LBin, LOf, SFor, SDrop, SOwn, SNx, FVar, FFrz, FC, FBin, FUn, FCall, FChain, FAnd, FOr, FNot, FIf, FTup, FLst, FSl, ONone, OSome, FIxO, FExt, FOf, FCallE, FCallL, FCallK, BVal, BAnd, BOr, BNot, BYes, LDisp, ISeq, IZip, IZipM, seqZ, TName, TTup, TCons, TNil, ANil, ACons, GAll, GVar, GFr, callR, parS, wipeS, backS, List.getElem?_cons_zero, List.getElem?_cons_succ, List.getElem?_nil, List.set_cons_zero, List.set_cons_succ, List.length_cons, List.length_nil, List.map_cons, List.map_nil, List.nil_append, List.cons_append, List.append_nil, List.length_append, Option.map_some, Option.map_none, Option.bind_some, Option.some.injEq, Bool.false_eq_true, if_true, if_false, reduceIte, Bool.not_true, Bool.not_false, Nat.reduceLT, Nat.reduceAdd, Nat.reduceLeDiff, Nat.zero_add, decide_true, decide_false, true_and, false_and, and_true, and_self, gLt_int, gLe_int, gGt_int, gGe_int, gAdd_int, gSub_int, gInt_int, gInt_bl, gLen_tup, gLen_lst, gLen_frl, gTuple_lst, gTuple_tup, gEq_int, gNe_int, isi_int_int, isi_int_bool, isi_tup_tup, fDef, fEnd, outs, List.replicate, Nat.sub_self, Nat.reduceSub, not_true_eq_false, not_false_eq_true]
theorem g7_s (S T' M X : D) (c d x y : Int) (a0 a5 a6 : Sl) (j0 : gIx T' (.int 0) = some (.int c)) (j1 : gIx T' (.int 1) = some (.int d)) (m1 : gMul (.int c) (.int c) = some (.int x)) (m2 : gMul (.int d) (.int d) = some (.int y)) :
    SAsg (FTup (ACons (FBin gMul (FBin gIx (FVar 2) (FC (.int 0))) (FBin gIx (FVar 2) (FC (.int 0)))) (ACons (FBin gMul (FBin gIx (FVar 2) (FC (.int 1))) (FBin gIx (FVar 2) (FC (.int 1)))) ANil))) (TName 6) [a0, .fz S, .fz T', .fz M, .fz X, a5, a6] = some (.nx, [a0, .fz S, .fz T', .fz M, .fz X, a5, .fz (.tup [.int x, .int y])]) := by
  have l2 : (2 : Nat) ≤ 16777216 := by decide
  simp only [j0, j1, m1, m2, l2, bnd_some, lft_some, SSeq, SAsg, SRet, SRetL, SRetN, SIf, SPar2, SPar3, SAugO, IEnum, LBin, LOf, SFor, SDrop, SOwn, SNx, FVar, FFrz, FC, FBin, FUn, FCall, FChain, FAnd, FOr, FNot, FIf, FTup, FLst, FSl, ONone, OSome, FIxO, FExt, FOf, FCallE, FCallL, FCallK, BVal, BAnd, BOr, BNot, BYes, LDisp, ISeq, IZip, IZipM, seqZ, TName, TTup, TCons, TNil, ANil, ACons, GAll, GVar, GFr, callR, parS, wipeS, backS, List.getElem?_cons_zero, List.getElem?_cons_succ, List.getElem?_nil, List.set_cons_zero, List.set_cons_succ, List.length_cons, List.length_nil, List.map_cons, List.map_nil, List.nil_append, List.cons_append, List.append_nil, List.length_append, Option.map_some, Option.map_none, Option.bind_some, Option.some.injEq, Bool.false_eq_true, if_true, if_false, reduceIte, Bool.not_true, Bool.not_false, Nat.reduceLT, Nat.reduceAdd, Nat.reduceLeDiff, Nat.zero_add, decide_true, decide_false, true_and, false_and, and_true, and_self, gLt_int, gLe_int, gGt_int, gGe_int, gAdd_int, gSub_int, gInt_int, gInt_bl, gLen_tup, gLen_lst, gLen_frl, gTuple_lst, gTuple_tup, gEq_int, gNe_int, isi_int_int, isi_int_bool, isi_tup_tup, fDef, fEnd, outs, List.replicate, Nat.sub_self, Nat.reduceSub, not_true_eq_false, not_false_eq_true]
theorem g8_s (S T' M X W : D) (b d r : Int) (a0 a5 : Sl) (i1 : gIx S (.int 1) = some (.int b)) (j1 : gIx W (.int 1) = some (.int d)) (m : gMul (.int b) (.int d) = some (.int r)) :
    SAsg (FBin gMul (FBin gIx (FVar 1) (FC (.int 1))) (FBin gIx (FVar 6) (FC (.int 1)))) (TName 5) [a0, .fz S, .fz T', .fz M, .fz X, a5, .fz W] = some (.nx, [a0, .fz S, .fz T', .fz M, .fz X, .fz (.int r), .fz W]) := by
  simp only [i1, j1, m, bnd_some, lft_some, SSeq, SAsg, SRet, SRetL, SRetN, SIf, SPar2, SPar3, SAugO, IEnum, LBin, LOf, SFor, SDrop, SOwn, SNx, FVar, FFrz, FC, FBin, FUn, FCall, FChain, FAnd, FOr, FNot, FIf, FTup, FLst, FSl, ONone, OSome, FIxO, FExt, FOf, FCallE, FCallL, FCallK, BVal, BAnd, BOr, BNot, BYes, LDisp, ISeq, IZip, IZipM, seqZ, TName, TTup, TCons, TNil, ANil, ACons, GAll, GVar, GFr, callR, parS, wipeS, backS, List.getElem?_cons_zero, List.getElem?_cons_succ, List.getElem?_nil, List.set_cons_zero, List.set_cons_succ, List.length_cons, List.length_nil, List.map_cons, List.map_nil, List.nil_append, List.cons_append, List.append_nil, List.length_append, Option.map_some, Option.map_none, Option.bind_some, Option.some.injEq, Bool.false_eq_true, if_true, if_false, reduceIte, Bool.not_true, Bool.not_false, Nat.reduceLT, Nat.reduceAdd, Nat.reduceLeDiff, Nat.zero_add, decide_true, decide_false, true_and, false_and, and_true, and_self, gLt_int, gLe_int, gGt_int, gGe_int, gAdd_int, gSub_int, gInt_int, gInt_bl, gLen_tup, gLen_lst, gLen_frl, gTuple_lst, gTuple_tup, gEq_int, gNe_int, isi_int_int, isi_int_bool, isi_tup_tup, fDef, fEnd, outs, List.replicate, Nat.sub_self, Nat.reduceSub, not_true_eq_false, not_false_eq_true]
theorem g9_s (F G : DN) (S T' M X W : D) (a b c d r u v : Int) (w : Str) (a0 : Sl) (i0 : gIx S (.int 0) = some (.int a)) (i1 : gIx S (.int 1) = some (.int b)) (j0 : gIx W (.int 0) = some (.int c)) (j1 : gIx W (.int 1) = some (.int d)) (m : gMul (.int (b - a)) (.int (d - c)) = some (.int u)) (hv : r - u = v)
    (h0 : G [.fz T', .fz (.int 2)] = some (.d W, [.un, .un])) (h : F [.fz S, .fz W] = some (.d (.tup [.int v, .int r]), [.un, .un])) (re : gReprP [.tup [.int v, .int r]] = some (.str w)) (n : gNe (.str w) (.str w) = some (.bl false)) :
    SIf (BVal (FBin gNe (FCall gReprP (ACons (FCallE F (GAll (ACons (FVar 1) (ACons (FCallE G (GAll (ACons (FVar 2) (ACons (FC (.int 2)) ANil)))) ANil)))) ANil)) (FCall gReprP (ACons (FTup (ACons (FBin gSub (FVar 5) (FBin gMul (FBin gSub (FBin gIx (FVar 1) (FC (.int 1))) (FBin gIx (FVar 1) (FC (.int 0)))) (FBin gSub (FBin gIx (FVar 6) (FC (.int 1))) (FBin gIx (FVar 6) (FC (.int 0)))))) (ACons (FVar 5) ANil))) ANil)))) (SRet (FC (.bl false))) SNx [a0, .fz S, .fz T', .fz M, .fz X, .fz (.int r), .fz W] =
      some (.nx, [a0, .fz S, .fz T', .fz M, .fz X, .fz (.int r), .fz W]) := by
  subst hv
  have l2 : (2 : Nat) ≤ 16777216 := by decide
  simp only [i0, i1, j0, j1, m, h0, h, re, n, l2, bnd_some, lft_some, SSeq, SAsg, SRet, SRetL, SRetN, SIf, SPar2, SPar3, SAugO, IEnum, LBin, LOf, SFor, SDrop, SOwn, SNx, FVar, FFrz, FC, FBin, FUn, FCall, FChain, FAnd, FOr, FNot, FIf, FTup, FLst, FSl, ONone, OSome, FIxO, FExt, FOf, FCallE, FCallL, FCallK, BVal, BAnd, BOr, BNot, BYes, LDisp, ISeq, IZip, IZipM, seqZ, TName, TTup, TCons, TNil, ANil, ACons, GAll, GVar, GFr, callR, parS, wipeS, backS, List.getElem?_cons_zero, List.getElem?_cons_succ, List.getElem?_nil, List.set_cons_zero, List.set_cons_succ, List.length_cons, List.length_nil, List.map_cons, List.map_nil, List.nil_append, List.cons_append, List.append_nil, List.length_append, Option.map_some, Option.map_none, Option.bind_some, Option.some.injEq, Bool.false_eq_true, if_true, if_false, reduceIte, Bool.not_true, Bool.not_false, Nat.reduceLT, Nat.reduceAdd, Nat.reduceLeDiff, Nat.zero_add, decide_true, decide_false, true_and, false_and, and_true, and_self, gLt_int, gLe_int, gGt_int, gGe_int, gAdd_int, gSub_int, gInt_int, gInt_bl, gLen_tup, gLen_lst, gLen_frl, gTuple_lst, gTuple_tup, gEq_int, gNe_int, isi_int_int, isi_int_bool, isi_tup_tup, fDef, fEnd, outs, List.replicate, Nat.sub_self, Nat.reduceSub, not_true_eq_false, not_false_eq_true]
theorem ga_s (S T' M X : D) (a b c d x y : Int) (a0 a5 a6 : Sl) (i0 : gIx S (.int 0) = some (.int a)) (i1 : gIx S (.int 1) = some (.int b)) (j0 : gIx T' (.int 0) = some (.int c)) (j1 : gIx T' (.int 1) = some (.int d)) (m1 : gMul (.int c) (.int b) = some (.int x)) (m2 : gMul (.int a) (.int d) = some (.int y)) :
    SAsg (FIf (BVal (FBin gGt (FBin gMul (FBin gIx (FVar 2) (FC (.int 0))) (FBin gIx (FVar 1) (FC (.int 1)))) (FBin gMul (FBin gIx (FVar 1) (FC (.int 0))) (FBin gIx (FVar 2) (FC (.int 1)))))) (FVar 2) (FVar 1)) (TName 4) [a0, .fz S, .fz T', .fz M, .fz X, a5, a6] = some (.nx, [a0, .fz S, .fz T', .fz M, .fz (if x ≤ y then S else T'), a5, a6]) := by
  by_cases q : y < x
  · have q2 : ¬ (x ≤ y) := by omega
    simp only [i0, i1, j0, j1, m1, m2, q, q2, bnd_some, lft_some, SSeq, SAsg, SRet, SRetL, SRetN, SIf, SPar2, SPar3, SAugO, IEnum, LBin, LOf, SFor, SDrop, SOwn, SNx, FVar, FFrz, FC, FBin, FUn, FCall, FChain, FAnd, FOr, FNot, FIf, FTup, FLst, FSl, ONone, OSome, FIxO, FExt, FOf, FCallE, FCallL, FCallK, BVal, BAnd, BOr, BNot, BYes, LDisp, ISeq, IZip, IZipM, seqZ, TName, TTup, TCons, TNil, ANil, ACons, GAll, GVar, GFr, callR, parS, wipeS, backS, List.getElem?_cons_zero, List.getElem?_cons_succ, List.getElem?_nil, List.set_cons_zero, List.set_cons_succ, List.length_cons, List.length_nil, List.map_cons, List.map_nil, List.nil_append, List.cons_append, List.append_nil, List.length_append, Option.map_some, Option.map_none, Option.bind_some, Option.some.injEq, Bool.false_eq_true, if_true, if_false, reduceIte, Bool.not_true, Bool.not_false, Nat.reduceLT, Nat.reduceAdd, Nat.reduceLeDiff, Nat.zero_add, decide_true, decide_false, true_and, false_and, and_true, and_self, gLt_int, gLe_int, gGt_int, gGe_int, gAdd_int, gSub_int, gInt_int, gInt_bl, gLen_tup, gLen_lst, gLen_frl, gTuple_lst, gTuple_tup, gEq_int, gNe_int, isi_int_int, isi_int_bool, isi_tup_tup, fDef, fEnd, outs, List.replicate, Nat.sub_self, Nat.reduceSub, not_true_eq_false, not_false_eq_true]
  · have q2 : x ≤ y := by omega
    simp only [i0, i1, j0, j1, m1, m2, q, q2, bnd_some, lft_some, SSeq, SAsg, SRet, SRetL, SRetN, SIf, SPar2, SPar3, SAugO, IEnum, LBin, LOf, SFor, SDrop, SOwn, SNx, FVar, FFrz, FC, FBin, FUn, FCall, FChain, FAnd, FOr, FNot, FIf, FTup, FLst, FSl, ONone, OSome, FIxO, FExt, FOf, FCallE, FCallL, FCallK, BVal, BAnd, BOr, BNot, BYes, LDisp, ISeq, IZip, IZipM, seqZ, TName, TTup, TCons, TNil, ANil, ACons, GAll, GVar, GFr, callR, parS, wipeS, backS, List.getElem?_cons_zero, List.getElem?_cons_succ, List.getElem?_nil, List.set_cons_zero, List.set_cons_succ, List.length_cons, List.length_nil, List.map_cons, List.map_nil, List.nil_append, List.cons_append, List.append_nil, List.length_append, Option.map_some, Option.map_none, Option.bind_some, Option.some.injEq, Bool.false_eq_true, if_true, if_false, reduceIte, Bool.not_true, Bool.not_false, Nat.reduceLT, Nat.reduceAdd, Nat.reduceLeDiff, Nat.zero_add, decide_true, decide_false, true_and, false_and, and_true, and_self, gLt_int, gLe_int, gGt_int, gGe_int, gAdd_int, gSub_int, gInt_int, gInt_bl, gLen_tup, gLen_lst, gLen_frl, gTuple_lst, gTuple_tup, gEq_int, gNe_int, isi_int_int, isi_int_bool, isi_tup_tup, fDef, fEnd, outs, List.replicate, Nat.sub_self, Nat.reduceSub, not_true_eq_false, not_false_eq_true]
theorem gb_s (F : DN) (S T' M X : D) (w : Str) (a0 a5 a6 : Sl) (h : F [.fz S, .fz T'] = some (.d X, [.un, .un])) (r : gReprP [X] = some (.str w)) (n : gEq (.str w) (.str w) = some (.bl true)) :
    SRet (FBin gEq (FCall gReprP (ACons (FCallE F (GAll (ACons (FVar 1) (ACons (FVar 2) ANil)))) ANil)) (FCall gReprP (ACons (FVar 4) ANil))) [a0, .fz S, .fz T', .fz M, .fz X, a5, a6] = some (.ret (.bl true), [a0, .fz S, .fz T', .fz M, .fz X, a5, a6]) := by
  simp only [h, r, n, bnd_some, lft_some, SSeq, SAsg, SRet, SRetL, SRetN, SIf, SPar2, SPar3, SAugO, IEnum, LBin, LOf, SFor, SDrop, SOwn, SNx, FVar, FFrz, FC, FBin, FUn, FCall, FChain, FAnd, FOr, FNot, FIf, FTup, FLst, FSl, ONone, OSome, FIxO, FExt, FOf, FCallE, FCallL, FCallK, BVal, BAnd, BOr, BNot, BYes, LDisp, ISeq, IZip, IZipM, seqZ, TName, TTup, TCons, TNil, ANil, ACons, GAll, GVar, GFr, callR, parS, wipeS, backS, List.getElem?_cons_zero, List.getElem?_cons_succ, List.getElem?_nil, List.set_cons_zero, List.set_cons_succ, List.length_cons, List.length_nil, List.map_cons, List.map_nil, List.nil_append, List.cons_append, List.append_nil, List.length_append, Option.map_some, Option.map_none, Option.bind_some, Option.some.injEq, Bool.false_eq_true, if_true, if_false, reduceIte, Bool.not_true, Bool.not_false, Nat.reduceLT, Nat.reduceAdd, Nat.reduceLeDiff, Nat.zero_add, decide_true, decide_false, true_and, false_and, and_true, and_self, gLt_int, gLe_int, gGt_int, gGe_int, gAdd_int, gSub_int, gInt_int, gInt_bl, gLen_tup, gLen_lst, gLen_frl, gTuple_lst, gTuple_tup, gEq_int, gNe_int, isi_int_int, isi_int_bool, isi_tup_tup, fDef, fEnd, outs, List.replicate, Nat.sub_self, Nat.reduceSub, not_true_eq_false, not_false_eq_true]
end Dn.k45
end
section
namespace Dn.k45
open PySem PySem.Spec PyProof.Rows L2 Dn
set_option maxHeartbeats 1000000
theorem rep2 {x y : Int} (k : Nat) (hx : x.natAbs < 2 ^ k) (hy : y.natAbs < 2 ^ k) (h0 : 0 < k) (hk : k ≤ 12000) : ∃ w, gReprP [.tup [.int x, .int y]] = some (.str w) ∧ gNe (.str w) (.str w) = some (.bl false) ∧ gEq (.str w) (.str w) = some (.bl true) := by
  have h1 := log2_lt_of hx h0
  have h2 := log2_lt_of hy h0
  refine ⟨_, reprP_pair (by omega) (by omega), ?_, ?_⟩
  · rw [gNe_str, decide_eq_true rfl]
    rfl
  · rw [gEq_str, decide_eq_true rfl]
theorem sub_bits {x y : Int} {k : Nat} (hx : x.natAbs < 2 ^ k) (hy : y.natAbs < 2 ^ k) : (x - y).natAbs < 2 ^ (k + 1) := by
  rw [Nat.pow_succ]
  generalize 2 ^ k = P at hx hy ⊢
  omega
theorem more_bits {x : Int} {k l : Nat} (hx : x.natAbs < 2 ^ k) (h : k ≤ l) : x.natAbs < 2 ^ l := Nat.lt_of_lt_of_le hx (Nat.pow_le_pow_right (by decide) h)
theorem lt200 {b : Int} (h0 : 0 ≤ b) (h : b ≤ 1000000000000000000000000000000) : b.natAbs < 2 ^ 200 :=
  Nat.lt_of_le_of_lt (m := 1000000000000000000000000000000) (by omega) (by decide)
theorem pow_bits {x : Int} {m : Nat} (hx : x.natAbs < 2 ^ 200) (hm : m ≤ 40) : (x ^ m).natAbs < 2 ^ 8001 := by
  rw [Int.natAbs_pow]
  have h1 : x.natAbs ^ m ≤ (2 ^ 200) ^ m := Nat.pow_le_pow_left (Nat.le_of_lt hx) m
  rw [← Nat.pow_mul] at h1
  exact Nat.lt_of_le_of_lt h1 (Nat.pow_lt_pow_right (by decide) (by omega))
theorem sq_eq (c : Int) : c ^ 2 = c * c := by rw [Int.pow_succ, Int.pow_succ, Int.pow_zero, Int.one_mul]
theorem ok_nat {A B : Nat} (h : A ≤ B) (h2 : 1 ≤ B) : Ok (A : Nat) (B : Nat) := ⟨by omega, by omega, by omega⟩
theorem ok_sq {A B : Nat} (h : A ≤ B) (h2 : 1 ≤ B) : Ok ((A : Int) * (A : Int)) ((B : Int) * (B : Int)) := by
  refine ⟨Int.mul_nonneg (by omega) (by omega), Int.mul_le_mul (by omega) (by omega) (by omega) (by omega), ?_⟩
  have q : (1 : Int) ≤ (B : Int) := by omega
  have t : (1 : Int) * 1 ≤ (B : Int) * (B : Int) := Int.mul_le_mul q q (by omega) (by omega)
  omega
theorem ok_bits {a b : Int} {k : Nat} (h : Ok a b) (hb : b.natAbs < 2 ^ k) : a.natAbs < 2 ^ k ∧ (b - a).natAbs < 2 ^ k := by
  have h0 := h.h0
  have h1 := h.h1
  exact ⟨Nat.lt_of_le_of_lt (by omega) hb, Nat.lt_of_le_of_lt (by omega) hb⟩
theorem great_ok {k : Nat} {ds : List D} (h : Pot k ds) (hk : k < 500000) : ∃ es, f__law_are_great_right [.ow (some 0) ds] = some (.d (.bl true), [.ow (some 0) es]) ∧ Pot (k + 10) es := by
  obtain ⟨a, b, d1, o1, o2, o3, o4⟩ := ofD_ok h (by omega)
  obtain ⟨C, E, d2, p1, p2, p3, p4, p5⟩ := share_ok (u := 1000) o4 (by omega) (by decide) (by decide)
  obtain ⟨r, d3, t1, t2, t3, t4⟩ := take_ok (u := 40) p5 (by omega) (by decide) (by decide)
  obtain ⟨M, hM⟩ := Int.eq_ofNat_of_zero_le (show 0 ≤ 1 + r by omega)
  have m1 : 1 ≤ M := by omega
  have m2 : M ≤ 40 := by omega
  have b0 := o2.h0
  have b1 := o2.h1
  have nb : b.natAbs < 2 ^ 200 := lt200 (by omega) o3
  obtain ⟨na, nba⟩ := ok_bits o2 nb
  have oT := ok_nat p2 p3
  have nE : ((E : Nat) : Int).natAbs < 2 ^ 200 := lt200 (by omega) (by omega)
  obtain ⟨nC, nEC⟩ := ok_bits oT nE
  have oW := ok_sq p2 p3
  have wE := gMul_bits nE nE (by decide) (by decide)
  have wC := gMul_bits nC nC (by decide) (by decide)
  obtain ⟨_, nW⟩ := ok_bits oW wE.2
  have q20 : gPow (.int 10) (.int 20) = some (.int 100000000000000000000) := gPow_int 10 (by decide) (by decide) (by decide) (by decide)
  have q30 : gPow (.int 10) (.int 30) = some (.int 1000000000000000000000000000000) := gPow_int 10 (by decide) (by decide) (by decide) (by decide)
  have s1 := g1_s f__law_of ds d1 _ _ _ _ (Sh a b) .un .un .un .un .un q20 q30 rfl rfl o1
  have s2 := g2_s f__law_share f__law_take d1 d2 d3 (Sh a b) (Sh (C : Nat) (E : Nat)) r ((M : Nat) : Int) .un .un .un p1 t1 hM
  have s3 := g3_s f__law_product (Sh a b) (Sh (C : Nat) (E : Nat)) (.int (M : Nat)) .non a b _ _ (.ow (some 0) d3) .un .un rfl rfl (product_ok na m2) (product_ok nb m2) .un
  obtain ⟨w1, u1, u2, _⟩ := rep2 8001 (pow_bits na m2) (pow_bits nb m2) (by decide) (by decide)
  have s4 := g4_s f_repeated_share (Sh a b) (Sh (C : Nat) (E : Nat)) (.int (M : Nat)) _ w1 (.ow (some 0) d3) .un .un (repeated_ok o2 nb m1 m2) u1 u2
  have r1 := gMul_bits nb nE (by decide) (by decide)
  have s5 := g5_s (Sh a b) (Sh (C : Nat) (E : Nat)) (.int (M : Nat)) (Sh (a ^ M) (b ^ M)) b (E : Nat) _ (.ow (some 0) d3) .un .un rfl rfl r1.1
  have v1 := gMul_bits nba nEC (by decide) (by decide)
  obtain ⟨w2, u3, u4, _⟩ := rep2 401 (sub_bits r1.2 v1.2) (more_bits r1.2 (by decide)) (by decide) (by decide)
  have s6 := g6_s f_led_share (Sh a b) (Sh (C : Nat) (E : Nat)) (.int (M : Nat)) (Sh (a ^ M) (b ^ M)) a b (C : Nat) (E : Nat) _ _ _ w2 (.ow (some 0) d3) .un rfl rfl rfl rfl v1.1 rfl (led_ok o2 oT (more_bits nb (by decide)) (more_bits nE (by decide))) u3 u4
  have s7 := g7_s (Sh a b) (Sh (C : Nat) (E : Nat)) (.int (M : Nat)) (Sh (a ^ M) (b ^ M)) (C : Nat) (E : Nat) _ _ (.ow (some 0) d3) (.fz (.int (b * (E : Nat)))) .un rfl rfl wC.1 wE.1
  have r2 := gMul_bits nb wE.2 (by decide) (by decide)
  have s8 := g8_s (Sh a b) (Sh (C : Nat) (E : Nat)) (.int (M : Nat)) (Sh (a ^ M) (b ^ M)) (Sh ((C : Int) * (C : Int)) ((E : Int) * (E : Int))) b _ _ (.ow (some 0) d3) (.fz (.int (b * (E : Nat)))) rfl rfl r2.1
  have v2 := gMul_bits nba nW (by decide) (by decide)
  obtain ⟨w3, u5, u6, _⟩ := rep2 601 (sub_bits r2.2 (more_bits v2.2 (by decide))) (more_bits r2.2 (by decide)) (by decide) (by decide)
  have rp := repeated_ok (m := 2) oT nE (by decide) (by decide)
  rw [sq_eq, sq_eq] at rp
  have s9 := g9_s f_led_share f_repeated_share (Sh a b) (Sh (C : Nat) (E : Nat)) (.int (M : Nat)) (Sh (a ^ M) (b ^ M)) (Sh ((C : Int) * (C : Int)) ((E : Int) * (E : Int))) a b _ _ _ _ _ w3 (.ow (some 0) d3) rfl rfl rfl rfl v2.1 rfl rp (led_ok o2 oW (more_bits nb (by decide)) (more_bits wE.2 (by decide))) u5 u6
  have x1 := gMul_bits nC nb (by decide) (by decide)
  have x2 := gMul_bits na nE (by decide) (by decide)
  have sa := ga_s (Sh a b) (Sh (C : Nat) (E : Nat)) (.int (M : Nat)) (Sh (a ^ M) (b ^ M)) a b (C : Nat) (E : Nat) _ _ (.ow (some 0) d3) (.fz (.int (b * ((E : Int) * (E : Int))))) (.fz (Sh ((C : Int) * (C : Int)) ((E : Int) * (E : Int)))) rfl rfl rfl rfl x1.1 x2.1
  have gr := greater_ok o2 oT (more_bits nb (by decide)) (more_bits nE (by decide))
  have rr : ∃ w, gReprP [if ((C : Nat) : Int) * b ≤ a * ((E : Nat) : Int) then Sh a b else Sh (C : Nat) (E : Nat)] = some (.str w) ∧ gEq (.str w) (.str w) = some (.bl true) := by
    split
    · obtain ⟨w, c1, _, c3⟩ := rep2 200 na nb (by decide) (by decide)
      exact ⟨w, c1, c3⟩
    · obtain ⟨w, c1, _, c3⟩ := rep2 200 nC nE (by decide) (by decide)
      exact ⟨w, c1, c3⟩
  obtain ⟨w4, u7, u8⟩ := rr
  have sb := gb_s f_greater_share (Sh a b) (Sh (C : Nat) (E : Nat)) (.int (M : Nat)) _ w4 (.ow (some 0) d3) (.fz (.int (b * ((E : Int) * (E : Int))))) (.fz (Sh ((C : Int) * (C : Int)) ((E : Int) * (E : Int)))) gr u7 u8
  exact ⟨d3, fDef_ret rfl rfl (SSeq_nx s1 (SSeq_nx s2 (SSeq_nx s3 (SSeq_nx s4 (SSeq_nx s5 (SSeq_nx s6 (SSeq_nx s7 (SSeq_nx s8 (SSeq_nx s9 (SSeq_nx sa sb)))))))))) rfl, t4.up (by omega)⟩
end Dn.k45
end
section
namespace Dn.k45
open PySem PySem.Spec PyProof.Rows L2 Dn
set_option maxHeartbeats 1000000
theorem r1_s (F G : DN) (d0 d1 d2 d3 : List D) (S T' : D) (r m : Int) (a4 a5 : Sl) (h1 : F [.ow (some 0) d0, .fz (.int 6)] = some (.d S, [.ow (some 0) d1, .un])) (h2 : F [.ow (some 0) d1, .fz (.int 12)] = some (.d T', [.ow (some 0) d2, .un])) (h3 : G [.ow (some 0) d2, .fz (.int 4)] = some (.d (.int r), [.ow (some 0) d3, .un])) (hm : 1 + r = m) :
    SPar3 1 2 3 (ACons (FCallE F (GVar 0 (ACons (FC (.int 6)) ANil))) (ACons (FCallE F (GVar 0 (ACons (FC (.int 12)) ANil))) (ACons (FBin gAdd (FC (.int 1)) (FCallE G (GVar 0 (ACons (FC (.int 4)) ANil)))) ANil))) [.ow (some 0) d0, .un, .un, .un, a4, a5] = some (.nx, [.ow (some 0) d3, .fz S, .fz T', .fz (.int m), a4, a5]) := by
  subst hm
  simp only [h1, h2, h3, bnd_some, lft_some, SSeq, SAsg, SRet, SRetL, SRetN, SIf, SPar2, SPar3, SAugO, IEnum, LBin, LOf, SFor, SDrop, SOwn, SNx, FVar, FFrz, FC, FBin, FUn, FCall, FChain, FAnd, FOr, FNot, FIf, FTup, FLst, FSl, ONone, OSome, FIxO, FExt, FOf, FCallE, FCallL, FCallK, BVal, BAnd, BOr, BNot, BYes, LDisp, ISeq, IZip, IZipM, seqZ, TName, TTup, TCons, TNil, ANil, ACons, GAll, GVar, GFr, callR, parS, wipeS, backS, List.getElem?_cons_zero, List.getElem?_cons_succ, List.getElem?_nil, List.set_cons_zero, List.set_cons_succ, List.length_cons, List.length_nil, List.map_cons, List.map_nil, List.nil_append, List.cons_append, List.append_nil, List.length_append, Option.map_some, Option.map_none, Option.bind_some, Option.some.injEq, Bool.false_eq_true, if_true, if_false, reduceIte, Bool.not_true, Bool.not_false, Nat.reduceLT, Nat.reduceAdd, Nat.reduceLeDiff, Nat.zero_add, decide_true, decide_false, true_and, false_and, and_true, and_self, gLt_int, gLe_int, gGt_int, gGe_int, gAdd_int, gSub_int, gInt_int, gInt_bl, gLen_tup, gLen_lst, gLen_frl, gTuple_lst, gTuple_tup, gEq_int, gNe_int, isi_int_int, isi_int_bool, isi_tup_tup, fDef, fEnd, outs, List.replicate, Nat.sub_self, Nat.reduceSub, not_true_eq_false, not_false_eq_true]
theorem r2_z (F G : DN) (S T' M X : D) (w : Str) (a0 a4 a5 : Sl) (h1 : F [.fz S, .fz M] = some (.d X, [.un, .un])) (h2 : G [.fz S, .fz M] = some (.d X, [.un, .un])) (r : gReprP [X] = some (.str w)) (n : gNe (.str w) (.str w) = some (.bl false)) :
    SIf (BVal (FBin gNe (FCall gReprP (ACons (FCallE F (GAll (ACons (FVar 1) (ACons (FVar 3) ANil)))) ANil)) (FCall gReprP (ACons (FCallE G (GAll (ACons (FVar 1) (ACons (FVar 3) ANil)))) ANil)))) (SRet (FC (.bl false))) SNx [a0, .fz S, .fz T', .fz M, a4, a5] = some (.nx, [a0, .fz S, .fz T', .fz M, a4, a5]) := by
  simp only [h1, h2, r, n, bnd_some, lft_some, SSeq, SAsg, SRet, SRetL, SRetN, SIf, SPar2, SPar3, SAugO, IEnum, LBin, LOf, SFor, SDrop, SOwn, SNx, FVar, FFrz, FC, FBin, FUn, FCall, FChain, FAnd, FOr, FNot, FIf, FTup, FLst, FSl, ONone, OSome, FIxO, FExt, FOf, FCallE, FCallL, FCallK, BVal, BAnd, BOr, BNot, BYes, LDisp, ISeq, IZip, IZipM, seqZ, TName, TTup, TCons, TNil, ANil, ACons, GAll, GVar, GFr, callR, parS, wipeS, backS, List.getElem?_cons_zero, List.getElem?_cons_succ, List.getElem?_nil, List.set_cons_zero, List.set_cons_succ, List.length_cons, List.length_nil, List.map_cons, List.map_nil, List.nil_append, List.cons_append, List.append_nil, List.length_append, Option.map_some, Option.map_none, Option.bind_some, Option.some.injEq, Bool.false_eq_true, if_true, if_false, reduceIte, Bool.not_true, Bool.not_false, Nat.reduceLT, Nat.reduceAdd, Nat.reduceLeDiff, Nat.zero_add, decide_true, decide_false, true_and, false_and, and_true, and_self, gLt_int, gLe_int, gGt_int, gGe_int, gAdd_int, gSub_int, gInt_int, gInt_bl, gLen_tup, gLen_lst, gLen_frl, gTuple_lst, gTuple_tup, gEq_int, gNe_int, isi_int_int, isi_int_bool, isi_tup_tup, fDef, fEnd, outs, List.replicate, Nat.sub_self, Nat.reduceSub, not_true_eq_false, not_false_eq_true]
theorem r3_s (F G : DN) (S T' M X : D) (w : Str) (a0 a4 a5 : Sl) (h1 : F [.fz S, .fz T'] = some (.d X, [.un, .un])) (h2 : G [.fz S, .fz T'] = some (.d X, [.un, .un])) (r : gReprP [X] = some (.str w)) (n : gNe (.str w) (.str w) = some (.bl false)) :
    SIf (BVal (FBin gNe (FCall gReprP (ACons (FCallE F (GAll (ACons (FVar 1) (ACons (FVar 2) ANil)))) ANil)) (FCall gReprP (ACons (FCallE G (GAll (ACons (FVar 1) (ACons (FVar 2) ANil)))) ANil)))) (SRet (FC (.bl false))) SNx [a0, .fz S, .fz T', .fz M, a4, a5] = some (.nx, [a0, .fz S, .fz T', .fz M, a4, a5]) := by
  simp only [h1, h2, r, n, bnd_some, lft_some, SSeq, SAsg, SRet, SRetL, SRetN, SIf, SPar2, SPar3, SAugO, IEnum, LBin, LOf, SFor, SDrop, SOwn, SNx, FVar, FFrz, FC, FBin, FUn, FCall, FChain, FAnd, FOr, FNot, FIf, FTup, FLst, FSl, ONone, OSome, FIxO, FExt, FOf, FCallE, FCallL, FCallK, BVal, BAnd, BOr, BNot, BYes, LDisp, ISeq, IZip, IZipM, seqZ, TName, TTup, TCons, TNil, ANil, ACons, GAll, GVar, GFr, callR, parS, wipeS, backS, List.getElem?_cons_zero, List.getElem?_cons_succ, List.getElem?_nil, List.set_cons_zero, List.set_cons_succ, List.length_cons, List.length_nil, List.map_cons, List.map_nil, List.nil_append, List.cons_append, List.append_nil, List.length_append, Option.map_some, Option.map_none, Option.bind_some, Option.some.injEq, Bool.false_eq_true, if_true, if_false, reduceIte, Bool.not_true, Bool.not_false, Nat.reduceLT, Nat.reduceAdd, Nat.reduceLeDiff, Nat.zero_add, decide_true, decide_false, true_and, false_and, and_true, and_self, gLt_int, gLe_int, gGt_int, gGe_int, gAdd_int, gSub_int, gInt_int, gInt_bl, gLen_tup, gLen_lst, gLen_frl, gTuple_lst, gTuple_tup, gEq_int, gNe_int, isi_int_int, isi_int_bool, isi_tup_tup, fDef, fEnd, outs, List.replicate, Nat.sub_self, Nat.reduceSub, not_true_eq_false, not_false_eq_true]
theorem r4_s (F G : DN) (S T' M X : D) (w : Str) (a0 a4 a5 : Sl) (h1 : F [.fz T', .fz S] = some (.d X, [.un, .un])) (h2 : G [.fz T', .fz S] = some (.d X, [.un, .un])) (r : gReprP [X] = some (.str w)) (n : gNe (.str w) (.str w) = some (.bl false)) :
    SIf (BVal (FBin gNe (FCall gReprP (ACons (FCallE F (GAll (ACons (FVar 2) (ACons (FVar 1) ANil)))) ANil)) (FCall gReprP (ACons (FCallE G (GAll (ACons (FVar 2) (ACons (FVar 1) ANil)))) ANil)))) (SRet (FC (.bl false))) SNx [a0, .fz S, .fz T', .fz M, a4, a5] = some (.nx, [a0, .fz S, .fz T', .fz M, a4, a5]) := by
  simp only [h1, h2, r, n, bnd_some, lft_some, SSeq, SAsg, SRet, SRetL, SRetN, SIf, SPar2, SPar3, SAugO, IEnum, LBin, LOf, SFor, SDrop, SOwn, SNx, FVar, FFrz, FC, FBin, FUn, FCall, FChain, FAnd, FOr, FNot, FIf, FTup, FLst, FSl, ONone, OSome, FIxO, FExt, FOf, FCallE, FCallL, FCallK, BVal, BAnd, BOr, BNot, BYes, LDisp, ISeq, IZip, IZipM, seqZ, TName, TTup, TCons, TNil, ANil, ACons, GAll, GVar, GFr, callR, parS, wipeS, backS, List.getElem?_cons_zero, List.getElem?_cons_succ, List.getElem?_nil, List.set_cons_zero, List.set_cons_succ, List.length_cons, List.length_nil, List.map_cons, List.map_nil, List.nil_append, List.cons_append, List.append_nil, List.length_append, Option.map_some, Option.map_none, Option.bind_some, Option.some.injEq, Bool.false_eq_true, if_true, if_false, reduceIte, Bool.not_true, Bool.not_false, Nat.reduceLT, Nat.reduceAdd, Nat.reduceLeDiff, Nat.zero_add, decide_true, decide_false, true_and, false_and, and_true, and_self, gLt_int, gLe_int, gGt_int, gGe_int, gAdd_int, gSub_int, gInt_int, gInt_bl, gLen_tup, gLen_lst, gLen_frl, gTuple_lst, gTuple_tup, gEq_int, gNe_int, isi_int_int, isi_int_bool, isi_tup_tup, fDef, fEnd, outs, List.replicate, Nat.sub_self, Nat.reduceSub, not_true_eq_false, not_false_eq_true]
theorem r5_s (S T' M : D) (a b : Int) (x y : Int) (a0 a4 a5 : Sl) (i0 : gIx S (.int 0) = some (.int a)) (i1 : gIx S (.int 1) = some (.int b)) (m1 : gMul (.int 2) (.int a) = some (.int x)) (m2 : gMul (.int 2) (.int b) = some (.int y)) :
    SAsg (FTup (ACons (FBin gMul (FC (.int 2)) (FBin gIx (FVar 1) (FC (.int 0)))) (ACons (FBin gMul (FC (.int 2)) (FBin gIx (FVar 1) (FC (.int 1)))) ANil))) (TName 4) [a0, .fz S, .fz T', .fz M, a4, a5] = some (.nx, [a0, .fz S, .fz T', .fz M, .fz (.tup [.int x, .int y]), a5]) := by
  have l2 : (2 : Nat) ≤ 16777216 := by decide
  simp only [i0, i1, m1, m2, l2, bnd_some, lft_some, SSeq, SAsg, SRet, SRetL, SRetN, SIf, SPar2, SPar3, SAugO, IEnum, LBin, LOf, SFor, SDrop, SOwn, SNx, FVar, FFrz, FC, FBin, FUn, FCall, FChain, FAnd, FOr, FNot, FIf, FTup, FLst, FSl, ONone, OSome, FIxO, FExt, FOf, FCallE, FCallL, FCallK, BVal, BAnd, BOr, BNot, BYes, LDisp, ISeq, IZip, IZipM, seqZ, TName, TTup, TCons, TNil, ANil, ACons, GAll, GVar, GFr, callR, parS, wipeS, backS, List.getElem?_cons_zero, List.getElem?_cons_succ, List.getElem?_nil, List.set_cons_zero, List.set_cons_succ, List.length_cons, List.length_nil, List.map_cons, List.map_nil, List.nil_append, List.cons_append, List.append_nil, List.length_append, Option.map_some, Option.map_none, Option.bind_some, Option.some.injEq, Bool.false_eq_true, if_true, if_false, reduceIte, Bool.not_true, Bool.not_false, Nat.reduceLT, Nat.reduceAdd, Nat.reduceLeDiff, Nat.zero_add, decide_true, decide_false, true_and, false_and, and_true, and_self, gLt_int, gLe_int, gGt_int, gGe_int, gAdd_int, gSub_int, gInt_int, gInt_bl, gLen_tup, gLen_lst, gLen_frl, gTuple_lst, gTuple_tup, gEq_int, gNe_int, isi_int_int, isi_int_bool, isi_tup_tup, fDef, fEnd, outs, List.replicate, Nat.sub_self, Nat.reduceSub, not_true_eq_false, not_false_eq_true]
theorem r6_s (F : DN) (S T' M W : D) (w : Str) (a0 a5 : Sl) (h1 : F [.fz S, .fz W] = some (.d S, [.un, .un])) (h2 : F [.fz W, .fz S] = some (.d W, [.un, .un])) (r : gReprP [.lst [S, W]] = some (.str w)) (n : gNe (.str w) (.str w) = some (.bl false)) :
    SIf (BVal (FBin gNe (FCall gReprP (ACons (FLst (ACons (FCallE F (GAll (ACons (FVar 1) (ACons (FVar 4) ANil)))) (ACons (FCallE F (GAll (ACons (FVar 4) (ACons (FVar 1) ANil)))) ANil))) ANil)) (FCall gReprP (ACons (FLst (ACons (FVar 1) (ACons (FVar 4) ANil))) ANil)))) (SRet (FC (.bl false))) SNx [a0, .fz S, .fz T', .fz M, .fz W, a5] = some (.nx, [a0, .fz S, .fz T', .fz M, .fz W, a5]) := by
  have l2 : (2 : Nat) ≤ 16777216 := by decide
  simp only [h1, h2, r, n, l2, bnd_some, lft_some, SSeq, SAsg, SRet, SRetL, SRetN, SIf, SPar2, SPar3, SAugO, IEnum, LBin, LOf, SFor, SDrop, SOwn, SNx, FVar, FFrz, FC, FBin, FUn, FCall, FChain, FAnd, FOr, FNot, FIf, FTup, FLst, FSl, ONone, OSome, FIxO, FExt, FOf, FCallE, FCallL, FCallK, BVal, BAnd, BOr, BNot, BYes, LDisp, ISeq, IZip, IZipM, seqZ, TName, TTup, TCons, TNil, ANil, ACons, GAll, GVar, GFr, callR, parS, wipeS, backS, List.getElem?_cons_zero, List.getElem?_cons_succ, List.getElem?_nil, List.set_cons_zero, List.set_cons_succ, List.length_cons, List.length_nil, List.map_cons, List.map_nil, List.nil_append, List.cons_append, List.append_nil, List.length_append, Option.map_some, Option.map_none, Option.bind_some, Option.some.injEq, Bool.false_eq_true, if_true, if_false, reduceIte, Bool.not_true, Bool.not_false, Nat.reduceLT, Nat.reduceAdd, Nat.reduceLeDiff, Nat.zero_add, decide_true, decide_false, true_and, false_and, and_true, and_self, gLt_int, gLe_int, gGt_int, gGe_int, gAdd_int, gSub_int, gInt_int, gInt_bl, gLen_tup, gLen_lst, gLen_frl, gTuple_lst, gTuple_tup, gEq_int, gNe_int, isi_int_int, isi_int_bool, isi_tup_tup, fDef, fEnd, outs, List.replicate, Nat.sub_self, Nat.reduceSub, not_true_eq_false, not_false_eq_true]
theorem r7_s (S T' M W : D) (a b c d x y : Int) (a0 a5 : Sl) (i0 : gIx S (.int 0) = some (.int a)) (i1 : gIx S (.int 1) = some (.int b)) (j0 : gIx T' (.int 0) = some (.int c)) (j1 : gIx T' (.int 1) = some (.int d)) (m1 : gMul (.int c) (.int b) = some (.int x)) (m2 : gMul (.int a) (.int d) = some (.int y)) :
    SAsg (FIf (BVal (FBin gGt (FBin gMul (FBin gIx (FVar 2) (FC (.int 0))) (FBin gIx (FVar 1) (FC (.int 1)))) (FBin gMul (FBin gIx (FVar 1) (FC (.int 0))) (FBin gIx (FVar 2) (FC (.int 1)))))) (FVar 2) (FVar 1)) (TName 5) [a0, .fz S, .fz T', .fz M, .fz W, a5] = some (.nx, [a0, .fz S, .fz T', .fz M, .fz W, .fz (if x ≤ y then S else T')]) := by
  by_cases q : y < x
  · have q2 : ¬ (x ≤ y) := by omega
    simp only [i0, i1, j0, j1, m1, m2, q, q2, bnd_some, lft_some, SSeq, SAsg, SRet, SRetL, SRetN, SIf, SPar2, SPar3, SAugO, IEnum, LBin, LOf, SFor, SDrop, SOwn, SNx, FVar, FFrz, FC, FBin, FUn, FCall, FChain, FAnd, FOr, FNot, FIf, FTup, FLst, FSl, ONone, OSome, FIxO, FExt, FOf, FCallE, FCallL, FCallK, BVal, BAnd, BOr, BNot, BYes, LDisp, ISeq, IZip, IZipM, seqZ, TName, TTup, TCons, TNil, ANil, ACons, GAll, GVar, GFr, callR, parS, wipeS, backS, List.getElem?_cons_zero, List.getElem?_cons_succ, List.getElem?_nil, List.set_cons_zero, List.set_cons_succ, List.length_cons, List.length_nil, List.map_cons, List.map_nil, List.nil_append, List.cons_append, List.append_nil, List.length_append, Option.map_some, Option.map_none, Option.bind_some, Option.some.injEq, Bool.false_eq_true, if_true, if_false, reduceIte, Bool.not_true, Bool.not_false, Nat.reduceLT, Nat.reduceAdd, Nat.reduceLeDiff, Nat.zero_add, decide_true, decide_false, true_and, false_and, and_true, and_self, gLt_int, gLe_int, gGt_int, gGe_int, gAdd_int, gSub_int, gInt_int, gInt_bl, gLen_tup, gLen_lst, gLen_frl, gTuple_lst, gTuple_tup, gEq_int, gNe_int, isi_int_int, isi_int_bool, isi_tup_tup, fDef, fEnd, outs, List.replicate, Nat.sub_self, Nat.reduceSub, not_true_eq_false, not_false_eq_true]
  · have q2 : x ≤ y := by omega
    simp only [i0, i1, j0, j1, m1, m2, q, q2, bnd_some, lft_some, SSeq, SAsg, SRet, SRetL, SRetN, SIf, SPar2, SPar3, SAugO, IEnum, LBin, LOf, SFor, SDrop, SOwn, SNx, FVar, FFrz, FC, FBin, FUn, FCall, FChain, FAnd, FOr, FNot, FIf, FTup, FLst, FSl, ONone, OSome, FIxO, FExt, FOf, FCallE, FCallL, FCallK, BVal, BAnd, BOr, BNot, BYes, LDisp, ISeq, IZip, IZipM, seqZ, TName, TTup, TCons, TNil, ANil, ACons, GAll, GVar, GFr, callR, parS, wipeS, backS, List.getElem?_cons_zero, List.getElem?_cons_succ, List.getElem?_nil, List.set_cons_zero, List.set_cons_succ, List.length_cons, List.length_nil, List.map_cons, List.map_nil, List.nil_append, List.cons_append, List.append_nil, List.length_append, Option.map_some, Option.map_none, Option.bind_some, Option.some.injEq, Bool.false_eq_true, if_true, if_false, reduceIte, Bool.not_true, Bool.not_false, Nat.reduceLT, Nat.reduceAdd, Nat.reduceLeDiff, Nat.zero_add, decide_true, decide_false, true_and, false_and, and_true, and_self, gLt_int, gLe_int, gGt_int, gGe_int, gAdd_int, gSub_int, gInt_int, gInt_bl, gLen_tup, gLen_lst, gLen_frl, gTuple_lst, gTuple_tup, gEq_int, gNe_int, isi_int_int, isi_int_bool, isi_tup_tup, fDef, fEnd, outs, List.replicate, Nat.sub_self, Nat.reduceSub, not_true_eq_false, not_false_eq_true]
theorem r8_s (F G : DN) (d0 d1 : List D) (S T' M W X : D) (w : Str) (h : F [.fz S, .fz T'] = some (.d X, [.un, .un])) (r : gReprP [X] = some (.str w)) (n : gEq (.str w) (.str w) = some (.bl true)) (g : G [.ow (some 0) d0] = some (.d (.bl true), [.ow (some 0) d1])) :
    SRet (FAnd (FBin gEq (FCall gReprP (ACons (FCallK F [1, 0] (ACons (FVar 2) (ACons (FVar 1) ANil))) ANil)) (FCall gReprP (ACons (FVar 5) ANil))) (FCallE G (GVar 0 ANil))) [.ow (some 0) d0, .fz S, .fz T', .fz M, .fz W, .fz X] = some (.ret (.bl true), [.ow (some 0) d1, .fz S, .fz T', .fz M, .fz W, .fz X]) := by
  have e : permV [1, 0] [T', S] = [S, T'] := rfl
  simp only [h, e, r, n, g, bnd_some, lft_some, SSeq, SAsg, SRet, SRetL, SRetN, SIf, SPar2, SPar3, SAugO, IEnum, LBin, LOf, SFor, SDrop, SOwn, SNx, FVar, FFrz, FC, FBin, FUn, FCall, FChain, FAnd, FOr, FNot, FIf, FTup, FLst, FSl, ONone, OSome, FIxO, FExt, FOf, FCallE, FCallL, FCallK, BVal, BAnd, BOr, BNot, BYes, LDisp, ISeq, IZip, IZipM, seqZ, TName, TTup, TCons, TNil, ANil, ACons, GAll, GVar, GFr, callR, parS, wipeS, backS, List.getElem?_cons_zero, List.getElem?_cons_succ, List.getElem?_nil, List.set_cons_zero, List.set_cons_succ, List.length_cons, List.length_nil, List.map_cons, List.map_nil, List.nil_append, List.cons_append, List.append_nil, List.length_append, Option.map_some, Option.map_none, Option.bind_some, Option.some.injEq, Bool.false_eq_true, if_true, if_false, reduceIte, Bool.not_true, Bool.not_false, Nat.reduceLT, Nat.reduceAdd, Nat.reduceLeDiff, Nat.zero_add, decide_true, decide_false, true_and, false_and, and_true, and_self, gLt_int, gLe_int, gGt_int, gGe_int, gAdd_int, gSub_int, gInt_int, gInt_bl, gLen_tup, gLen_lst, gLen_frl, gTuple_lst, gTuple_tup, gEq_int, gNe_int, isi_int_int, isi_int_bool, isi_tup_tup, fDef, fEnd, outs, List.replicate, Nat.sub_self, Nat.reduceSub, not_true_eq_false, not_false_eq_true]
theorem sm_sh {a b : Int} (ha : 0 ≤ a ∧ a ≤ 1000) (hb : 0 ≤ b ∧ b ≤ 1000) : Sm 1 84 (Sh a b) := by
  have s : SmA 0 (42 * [a, b].length) ([a, b].map D.int) := SmA.ints fun n hn => by
    simp only [List.mem_cons, List.not_mem_nil, or_false] at hn
    rcases hn with rfl | rfl <;> omega
  exact s.tup
theorem repL {d : D} {k w : Nat} (h : Sm k w d) (hk : k ≤ 64) (hw : w ≤ 2 ^ 20) : ∃ x, gReprP [d] = some (.str x) ∧ gNe (.str x) (.str x) = some (.bl false) := by
  refine ⟨_, if_pos (h.showOk hk hw), ?_⟩
  rw [gNe_str, decide_eq_true rfl]
  rfl
theorem right_ok {ds : List D} (h : Pot 0 ds) : ∃ es, f__law_right [.ow (some 0) ds] = some (.d (.bl true), [.ow (some 0) es]) := by
  obtain ⟨A, B, d1, o1, o2, o3, o4, o5⟩ := share_ok (u := 6) h (by decide) (by decide) (by decide)
  obtain ⟨C, E, d2, p1, p2, p3, p4, p5⟩ := share_ok (u := 12) o5 (by decide) (by decide) (by decide)
  obtain ⟨r, d3, t1, t2, t3, t4⟩ := take_ok (u := 4) p5 (by decide) (by decide) (by decide)
  obtain ⟨M, hM⟩ := Int.eq_ofNat_of_zero_le (show 0 ≤ 1 + r by omega)
  have m1 : 1 ≤ M := by omega
  have m2 : M ≤ 4 := by omega
  obtain ⟨es, g1, g2⟩ := great_ok t4 (by decide)
  have oS := ok_nat o2 o3
  have oT := ok_nat p2 p3
  have nB : ((B : Nat) : Int).natAbs < 2 ^ 200 := lt200 (by omega) (by omega)
  have nE : ((E : Nat) : Int).natAbs < 2 ^ 200 := lt200 (by omega) (by omega)
  obtain ⟨nA, nBA⟩ := ok_bits oS nB
  obtain ⟨nC, nEC⟩ := ok_bits oT nE
  have s1 := r1_s f__law_share f__law_take ds d1 d2 d3 _ _ r ((M : Nat) : Int) .un .un o1 p1 t1 hM
  obtain ⟨w1, u1, u2, _⟩ := rep2 8001 (pow_bits nA (by omega : M ≤ 40)) (pow_bits nB (by omega : M ≤ 40)) (by decide) (by decide)
  have s2 := r2_z f_repeated_share f__law_rows_all (Sh (A : Nat) (B : Nat)) (Sh (C : Nat) (E : Nat)) (.int (M : Nat)) _ w1 (.ow (some 0) d3) .un .un (repeated_ok oS nB m1 (by omega)) (rows_all_ok o2 (by omega) m2) u1 u2
  have r1 := gMul_bits nB nE (by decide) (by decide)
  have v1 := gMul_bits nBA nEC (by decide) (by decide)
  obtain ⟨w2, u3, u4, _⟩ := rep2 401 (sub_bits r1.2 v1.2) (more_bits r1.2 (by decide)) (by decide) (by decide)
  have s3 := r3_s f_led_share f__law_rows_led (Sh (A : Nat) (B : Nat)) (Sh (C : Nat) (E : Nat)) (.int (M : Nat)) _ w2 (.ow (some 0) d3) .un .un (led_ok oS oT (more_bits nB (by decide)) (more_bits nE (by decide))) (rows_led_ok o2 p2 (by omega) (by omega)) u3 u4
  have r2 := gMul_bits nE nB (by decide) (by decide)
  have v2 := gMul_bits nEC nBA (by decide) (by decide)
  obtain ⟨w3, u5, u6, _⟩ := rep2 401 (sub_bits r2.2 v2.2) (more_bits r2.2 (by decide)) (by decide) (by decide)
  have s4 := r4_s f_led_share f__law_rows_led (Sh (A : Nat) (B : Nat)) (Sh (C : Nat) (E : Nat)) (.int (M : Nat)) _ w3 (.ow (some 0) d3) .un .un (led_ok oT oS (more_bits nE (by decide)) (more_bits nB (by decide))) (rows_led_ok p2 o2 (by omega) (by omega)) u5 u6
  have s5 := r5_s (Sh (A : Nat) (B : Nat)) (Sh (C : Nat) (E : Nat)) (.int (M : Nat)) _ _ _ _ (.ow (some 0) d3) .un .un rfl rfl (gMul_small (i := 2) (j := ((A : Nat) : Int)) (by decide) (by omega)) (gMul_small (i := 2) (j := ((B : Nat) : Int)) (by decide) (by omega))
  have oW : Ok (2 * ((A : Nat) : Int)) (2 * ((B : Nat) : Int)) := ⟨by omega, by omega, by omega⟩
  have nW : (2 * ((B : Nat) : Int)).natAbs < 2 ^ 200 := lt200 (by omega) (by omega)
  have c1 : 2 * ((A : Nat) : Int) * ((B : Nat) : Int) ≤ ((A : Nat) : Int) * (2 * ((B : Nat) : Int)) := by
    rw [Int.mul_left_comm, Int.mul_assoc]
    omega
  have c2 : ((A : Nat) : Int) * (2 * ((B : Nat) : Int)) ≤ 2 * ((A : Nat) : Int) * ((B : Nat) : Int) := by
    rw [Int.mul_left_comm, Int.mul_assoc]
    omega
  have e1 := greater_ok oS oW (more_bits nB (by decide)) (more_bits nW (by decide))
  have e2 := greater_ok oW oS (more_bits nW (by decide)) (more_bits nB (by decide))
  rw [if_pos c1] at e1
  rw [if_pos c2] at e2
  have sm : SmA 1 (84 + 1 + (84 + 1 + 0)) [Sh ((A : Nat) : Int) ((B : Nat) : Int), Sh (2 * ((A : Nat) : Int)) (2 * ((B : Nat) : Int))] := SmA.cons (sm_sh (by omega) (by omega)) (SmA.cons (sm_sh (by omega) (by omega)) SmA.nil)
  obtain ⟨w4, u7, u8⟩ := repL sm.lst (by decide) (by decide)
  have s6 := r6_s f_greater_share (Sh (A : Nat) (B : Nat)) (Sh (C : Nat) (E : Nat)) (.int (M : Nat)) _ w4 (.ow (some 0) d3) .un e1 e2 u7 u8
  have x1 := gMul_bits nC nB (by decide) (by decide)
  have x2 := gMul_bits nA nE (by decide) (by decide)
  have s7 := r7_s (Sh (A : Nat) (B : Nat)) (Sh (C : Nat) (E : Nat)) (.int (M : Nat)) (Sh (2 * ((A : Nat) : Int)) (2 * ((B : Nat) : Int))) (A : Nat) (B : Nat) (C : Nat) (E : Nat) _ _ (.ow (some 0) d3) .un rfl rfl rfl rfl x1.1 x2.1
  have gr := greater_ok oS oT (more_bits nB (by decide)) (more_bits nE (by decide))
  have rr : ∃ w, gReprP [if ((C : Nat) : Int) * ((B : Nat) : Int) ≤ ((A : Nat) : Int) * ((E : Nat) : Int) then Sh (A : Nat) (B : Nat) else Sh (C : Nat) (E : Nat)] = some (.str w) ∧ gEq (.str w) (.str w) = some (.bl true) := by
    split
    · obtain ⟨w, c1, _, c3⟩ := rep2 200 nA nB (by decide) (by decide)
      exact ⟨w, c1, c3⟩
    · obtain ⟨w, c1, _, c3⟩ := rep2 200 nC nE (by decide) (by decide)
      exact ⟨w, c1, c3⟩
  obtain ⟨w5, u9, ua⟩ := rr
  have s8 := r8_s f_greater_share f__law_are_great_right d3 es (Sh (A : Nat) (B : Nat)) (Sh (C : Nat) (E : Nat)) (.int (M : Nat)) (Sh (2 * ((A : Nat) : Int)) (2 * ((B : Nat) : Int))) _ w5 gr u9 ua g1
  exact ⟨es, fDef_ret rfl rfl (SSeq_nx s1 (SSeq_nx s2 (SSeq_nx s3 (SSeq_nx s4 (SSeq_nx s5 (SSeq_nx s6 (SSeq_nx s7 s8))))))) rfl⟩
theorem law_true (ns : List Int) (h : ns.length ≤ 63) : ∃ ρ', f_law [.fz (.frl (ns.map D.int))] = some (.d (.bl true), ρ') := by
  obtain ⟨n, hn, hc⟩ := cells_ok (ns.map D.int)
  have it : ISeq (FCallE f__law_cells (GAll (ACons (FVar 0) (ACons (FC (.int 3)) ANil)))) [.fz (.frl (ns.map D.int)), .un] = some ((List.range n).map fun i => D.int (i : Nat), [.fz (.frl (ns.map D.int)), .un]) := by
    generalize f__law_cells = F at hc ⊢
    simp only [hc, bnd_some, lft_some, SSeq, SAsg, SRet, SRetL, SRetN, SIf, SPar2, SPar3, SAugO, IEnum, LBin, LOf, SFor, SDrop, SOwn, SNx, FVar, FFrz, FC, FBin, FUn, FCall, FChain, FAnd, FOr, FNot, FIf, FTup, FLst, FSl, ONone, OSome, FIxO, FExt, FOf, FCallE, FCallL, FCallK, BVal, BAnd, BOr, BNot, BYes, LDisp, ISeq, IZip, IZipM, seqZ, TName, TTup, TCons, TNil, ANil, ACons, GAll, GVar, GFr, callR, parS, wipeS, backS, List.getElem?_cons_zero, List.getElem?_cons_succ, List.getElem?_nil, List.set_cons_zero, List.set_cons_succ, List.length_cons, List.length_nil, List.map_cons, List.map_nil, List.nil_append, List.cons_append, List.append_nil, List.length_append, Option.map_some, Option.map_none, Option.bind_some, Option.some.injEq, Bool.false_eq_true, if_true, if_false, reduceIte, Bool.not_true, Bool.not_false, Nat.reduceLT, Nat.reduceAdd, Nat.reduceLeDiff, Nat.zero_add, decide_true, decide_false, true_and, false_and, and_true, and_self, gLt_int, gLe_int, gGt_int, gGe_int, gAdd_int, gSub_int, gInt_int, gInt_bl, gLen_tup, gLen_lst, gLen_frl, gTuple_lst, gTuple_tup, gEq_int, gNe_int, isi_int_int, isi_int_bool, isi_tup_tup, fDef, fEnd, outs, List.replicate, Nat.sub_self, Nat.reduceSub, not_true_eq_false, not_false_eq_true]
  have lc : c1_law [.fz (.frl (ns.map D.int)), .un] = some ((List.range n).map fun _ => D.bl true, [.fz (.frl (ns.map D.int)), .un]) := by
    refine LComp_eq (vs := [1]) (ρ1 := [.fz (.frl (ns.map D.int)), .un]) it (by rw [List.length_map, List.length_range]; omega)
      (CLoop_map _ _ [.fz (.frl (ns.map D.int)), .un] _ fun i hi => ⟨_, _, [.fz (.frl (ns.map D.int)), .fz (.int (i : Nat))], rfl, rfl, ?_, rfl⟩)
    obtain ⟨ds, p1, p2⟩ := pot_ok ns (i : Nat) (by omega) (by have := List.mem_range.mp hi; omega)
    obtain ⟨es, r1⟩ := right_ok p2
    generalize f__law_pot = F at p1 ⊢
    generalize f__law_right = G at r1 ⊢
    simp only [p1, r1, bnd_some, lft_some, SSeq, SAsg, SRet, SRetL, SRetN, SIf, SPar2, SPar3, SAugO, IEnum, LBin, LOf, SFor, SDrop, SOwn, SNx, FVar, FFrz, FC, FBin, FUn, FCall, FChain, FAnd, FOr, FNot, FIf, FTup, FLst, FSl, ONone, OSome, FIxO, FExt, FOf, FCallE, FCallL, FCallK, BVal, BAnd, BOr, BNot, BYes, LDisp, ISeq, IZip, IZipM, seqZ, TName, TTup, TCons, TNil, ANil, ACons, GAll, GVar, GFr, callR, parS, wipeS, backS, List.getElem?_cons_zero, List.getElem?_cons_succ, List.getElem?_nil, List.set_cons_zero, List.set_cons_succ, List.length_cons, List.length_nil, List.map_cons, List.map_nil, List.nil_append, List.cons_append, List.append_nil, List.length_append, Option.map_some, Option.map_none, Option.bind_some, Option.some.injEq, Bool.false_eq_true, if_true, if_false, reduceIte, Bool.not_true, Bool.not_false, Nat.reduceLT, Nat.reduceAdd, Nat.reduceLeDiff, Nat.zero_add, decide_true, decide_false, true_and, false_and, and_true, and_self, gLt_int, gLe_int, gGt_int, gGe_int, gAdd_int, gSub_int, gInt_int, gInt_bl, gLen_tup, gLen_lst, gLen_frl, gTuple_lst, gTuple_tup, gEq_int, gNe_int, isi_int_int, isi_int_bool, isi_tup_tup, fDef, fEnd, outs, List.replicate, Nat.sub_self, Nat.reduceSub, not_true_eq_false, not_false_eq_true]
  have al := gAll_true (List.range n) (fun _ => D.bl true) fun _ _ => rfl
  have b : b_law [.fz (.frl (ns.map D.int)), .un] = some (.ret (.bl true), [.fz (.frl (ns.map D.int)), .un]) := by
    unfold b_law
    generalize c1_law = F at lc ⊢
    simp only [lc, al, bnd_some, lft_some, SSeq, SAsg, SRet, SRetL, SRetN, SIf, SPar2, SPar3, SAugO, IEnum, LBin, LOf, SFor, SDrop, SOwn, SNx, FVar, FFrz, FC, FBin, FUn, FCall, FChain, FAnd, FOr, FNot, FIf, FTup, FLst, FSl, ONone, OSome, FIxO, FExt, FOf, FCallE, FCallL, FCallK, BVal, BAnd, BOr, BNot, BYes, LDisp, ISeq, IZip, IZipM, seqZ, TName, TTup, TCons, TNil, ANil, ACons, GAll, GVar, GFr, callR, parS, wipeS, backS, List.getElem?_cons_zero, List.getElem?_cons_succ, List.getElem?_nil, List.set_cons_zero, List.set_cons_succ, List.length_cons, List.length_nil, List.map_cons, List.map_nil, List.nil_append, List.cons_append, List.append_nil, List.length_append, Option.map_some, Option.map_none, Option.bind_some, Option.some.injEq, Bool.false_eq_true, if_true, if_false, reduceIte, Bool.not_true, Bool.not_false, Nat.reduceLT, Nat.reduceAdd, Nat.reduceLeDiff, Nat.zero_add, decide_true, decide_false, true_and, false_and, and_true, and_self, gLt_int, gLe_int, gGt_int, gGe_int, gAdd_int, gSub_int, gInt_int, gInt_bl, gLen_tup, gLen_lst, gLen_frl, gTuple_lst, gTuple_tup, gEq_int, gNe_int, isi_int_int, isi_int_bool, isi_tup_tup, fDef, fEnd, outs, List.replicate, Nat.sub_self, Nat.reduceSub, not_true_eq_false, not_false_eq_true]
  exact ⟨_, fDef_ret rfl rfl b rfl⟩
end Dn.k45
end
noncomputable section
set_option maxHeartbeats 4000000
namespace Dn.k45
open PySem PySem.Spec PyProof.Rows L2 Dn
theorem all_mk {l : PySem.W.OpenLaw} {w : World} {K : PySem.W.Frag} {h : Heap} {mg : Str → Option Value} {fa : Addr} (X : K.In h) (G : h.Ns mainGlobals mg) (hfa : mg "law" = some (.ref fa))
    {f1 : Addr} {od1 an1 : Option Addr} {sl1 : Array (Option Value)} {oc1 kV1 dc1 pm1 cd1 ct1 : Value}
    {f2 : Addr} {od2 an2 : Option Addr} {sl2 : Array (Option Value)} {oc2 kV2 dc2 pm2 cd2 ct2 : Value}
    {f3 : Addr} {od3 an3 : Option Addr} {sl3 : Array (Option Value)} {oc3 kV3 dc3 pm3 cd3 ct3 : Value}
    {f4 : Addr} {od4 an4 : Option Addr} {sl4 : Array (Option Value)} {oc4 kV4 dc4 pm4 cd4 ct4 : Value}
    {f5 : Addr} {od5 an5 : Option Addr} {sl5 : Array (Option Value)} {oc5 kV5 dc5 pm5 cd5 ct5 : Value}
    {f6 : Addr} {od6 an6 : Option Addr} {sl6 : Array (Option Value)} {oc6 kV6 dc6 pm6 cd6 ct6 : Value}
    {f7 : Addr} {od7 an7 : Option Addr} {sl7 : Array (Option Value)} {oc7 kV7 dc7 pm7 cd7 ct7 : Value}
    {f8 : Addr} {od8 an8 : Option Addr} {sl8 : Array (Option Value)} {oc8 kV8 dc8 pm8 cd8 ct8 : Value}
    {f9 : Addr} {od9 an9 : Option Addr} {sl9 : Array (Option Value)} {oc9 kV9 dc9 pm9 cd9 ct9 : Value}
    {f10 : Addr} {od10 an10 : Option Addr} {sl10 : Array (Option Value)} {oc10 kV10 dc10 pm10 cd10 ct10 : Value}
    {f11 : Addr} {od11 an11 : Option Addr} {sl11 : Array (Option Value)} {oc11 kV11 dc11 pm11 cd11 ct11 : Value}
    {f12 : Addr} {od12 an12 : Option Addr} {sl12 : Array (Option Value)} {oc12 kV12 dc12 pm12 cd12 ct12 : Value}
    {f13 : Addr} {od13 an13 : Option Addr} {sl13 : Array (Option Value)} {oc13 kV13 dc13 pm13 cd13 ct13 : Value}
    {f14 : Addr} {od14 an14 : Option Addr} {sl14 : Array (Option Value)} {oc14 kV14 dc14 pm14 cd14 ct14 : Value}
    {f15 : Addr} {od15 an15 : Option Addr} {sl15 : Array (Option Value)} {oc15 kV15 dc15 pm15 cd15 ct15 : Value}
    {f16 : Addr} {od16 an16 : Option Addr} {sl16 : Array (Option Value)} {oc16 kV16 dc16 pm16 cd16 ct16 : Value}
    {f17 : Addr} {od17 an17 : Option Addr} {sl17 : Array (Option Value)} {oc17 kV17 dc17 pm17 cd17 ct17 : Value}
    {f18 : Addr} {od18 an18 : Option Addr} {sl18 : Array (Option Value)} {oc18 kV18 dc18 pm18 cd18 ct18 : Value}
    {t_MOST_TALKS : Tok}
    (a1 : PySem.W.nsIn K mainGlobals "is_integer" = some (some (.ref f1))) (l1 : K.lookup f1 = some ⟨oc1, od1, .func (PySem.W.fnOf "is_integer" "is_integer" (defArgs s_is_integer) (defBody s_is_integer) (defScope s_is_integer) .none kV1 dc1 pm1 an1 cd1 ct1), sl1⟩) (c1 : PySem.W.codeIn K cd1 "is_integer" = true) (k1 : PySem.W.keepIn K (.ref f1) = true)
    (a2 : PySem.W.nsIn K mainGlobals "power_of" = some (some (.ref f2))) (l2 : K.lookup f2 = some ⟨oc2, od2, .func (PySem.W.fnOf "power_of" "power_of" (defArgs s_power_of) (defBody s_power_of) (defScope s_power_of) .none kV2 dc2 pm2 an2 cd2 ct2), sl2⟩) (c2 : PySem.W.codeIn K cd2 "power_of" = true) (k2 : PySem.W.keepIn K (.ref f2) = true)
    (a3 : PySem.W.nsIn K mainGlobals "is_at_most" = some (some (.ref f3))) (l3 : K.lookup f3 = some ⟨oc3, od3, .func (PySem.W.fnOf "is_at_most" "is_at_most" (defArgs s_is_at_most) (defBody s_is_at_most) (defScope s_is_at_most) .none kV3 dc3 pm3 an3 cd3 ct3), sl3⟩) (c3 : PySem.W.codeIn K cd3 "is_at_most" = true) (k3 : PySem.W.keepIn K (.ref f3) = true)
    (a4 : PySem.W.nsIn K mainGlobals "_law_pot" = some (some (.ref f4))) (l4 : K.lookup f4 = some ⟨oc4, od4, .func (PySem.W.fnOf "_law_pot" "_law_pot" (defArgs s__law_pot) (defBody s__law_pot) (defScope s__law_pot) .none kV4 dc4 pm4 an4 cd4 ct4), sl4⟩) (c4 : PySem.W.codeIn K cd4 "_law_pot" = true) (k4 : PySem.W.keepIn K (.ref f4) = true)
    (a5 : PySem.W.nsIn K mainGlobals "_law_take" = some (some (.ref f5))) (l5 : K.lookup f5 = some ⟨oc5, od5, .func (PySem.W.fnOf "_law_take" "_law_take" (defArgs s__law_take) (defBody s__law_take) (defScope s__law_take) .none kV5 dc5 pm5 an5 cd5 ct5), sl5⟩) (c5 : PySem.W.codeIn K cd5 "_law_take" = true) (k5 : PySem.W.keepIn K (.ref f5) = true)
    (a6 : PySem.W.nsIn K mainGlobals "_law_cells" = some (some (.ref f6))) (l6 : K.lookup f6 = some ⟨oc6, od6, .func (PySem.W.fnOf "_law_cells" "_law_cells" (defArgs s__law_cells) (defBody s__law_cells) (defScope s__law_cells) .none kV6 dc6 pm6 an6 cd6 ct6), sl6⟩) (c6 : PySem.W.codeIn K cd6 "_law_cells" = true) (k6 : PySem.W.keepIn K (.ref f6) = true)
    (a7 : PySem.W.nsIn K mainGlobals "_law_rows_all" = some (some (.ref f7))) (l7 : K.lookup f7 = some ⟨oc7, od7, .func (PySem.W.fnOf "_law_rows_all" "_law_rows_all" (defArgs s__law_rows_all) (defBody s__law_rows_all) (defScope s__law_rows_all) .none kV7 dc7 pm7 an7 cd7 ct7), sl7⟩) (c7 : PySem.W.codeIn K cd7 "_law_rows_all" = true) (k7 : PySem.W.keepIn K (.ref f7) = true)
    (a8 : PySem.W.nsIn K mainGlobals "_law_rows_led" = some (some (.ref f8))) (l8 : K.lookup f8 = some ⟨oc8, od8, .func (PySem.W.fnOf "_law_rows_led" "_law_rows_led" (defArgs s__law_rows_led) (defBody s__law_rows_led) (defScope s__law_rows_led) .none kV8 dc8 pm8 an8 cd8 ct8), sl8⟩) (c8 : PySem.W.codeIn K cd8 "_law_rows_led" = true) (k8 : PySem.W.keepIn K (.ref f8) = true)
    (a9 : PySem.W.nsIn K mainGlobals "_law_product" = some (some (.ref f9))) (l9 : K.lookup f9 = some ⟨oc9, od9, .func (PySem.W.fnOf "_law_product" "_law_product" (defArgs s__law_product) (defBody s__law_product) (defScope s__law_product) .none kV9 dc9 pm9 an9 cd9 ct9), sl9⟩) (c9 : PySem.W.codeIn K cd9 "_law_product" = true) (k9 : PySem.W.keepIn K (.ref f9) = true)
    (a10 : PySem.W.nsIn K mainGlobals "check_share" = some (some (.ref f10))) (l10 : K.lookup f10 = some ⟨oc10, od10, .func (PySem.W.fnOf "check_share" "check_share" (defArgs s_check_share) (defBody s_check_share) (defScope s_check_share) .none kV10 dc10 pm10 an10 cd10 ct10), sl10⟩) (c10 : PySem.W.codeIn K cd10 "check_share" = true) (k10 : PySem.W.keepIn K (.ref f10) = true)
    (a11 : PySem.W.nsIn K mainGlobals "_law_of" = some (some (.ref f11))) (l11 : K.lookup f11 = some ⟨oc11, od11, .func (PySem.W.fnOf "_law_of" "_law_of" (defArgs s__law_of) (defBody s__law_of) (defScope s__law_of) .none kV11 dc11 pm11 an11 cd11 ct11), sl11⟩) (c11 : PySem.W.codeIn K cd11 "_law_of" = true) (k11 : PySem.W.keepIn K (.ref f11) = true)
    (a12 : PySem.W.nsIn K mainGlobals "_law_share" = some (some (.ref f12))) (l12 : K.lookup f12 = some ⟨oc12, od12, .func (PySem.W.fnOf "_law_share" "_law_share" (defArgs s__law_share) (defBody s__law_share) (defScope s__law_share) .none kV12 dc12 pm12 an12 cd12 ct12), sl12⟩) (c12 : PySem.W.codeIn K cd12 "_law_share" = true) (k12 : PySem.W.keepIn K (.ref f12) = true)
    (a13 : PySem.W.nsIn K mainGlobals "repeated_share" = some (some (.ref f13))) (l13 : K.lookup f13 = some ⟨oc13, od13, .func (PySem.W.fnOf "repeated_share" "repeated_share" (defArgs s_repeated_share) (defBody s_repeated_share) (defScope s_repeated_share) .none kV13 dc13 pm13 an13 cd13 ct13), sl13⟩) (c13 : PySem.W.codeIn K cd13 "repeated_share" = true) (k13 : PySem.W.keepIn K (.ref f13) = true)
    (a14 : PySem.W.nsIn K mainGlobals "led_share" = some (some (.ref f14))) (l14 : K.lookup f14 = some ⟨oc14, od14, .func (PySem.W.fnOf "led_share" "led_share" (defArgs s_led_share) (defBody s_led_share) (defScope s_led_share) .none kV14 dc14 pm14 an14 cd14 ct14), sl14⟩) (c14 : PySem.W.codeIn K cd14 "led_share" = true) (k14 : PySem.W.keepIn K (.ref f14) = true)
    (a15 : PySem.W.nsIn K mainGlobals "greater_share" = some (some (.ref f15))) (l15 : K.lookup f15 = some ⟨oc15, od15, .func (PySem.W.fnOf "greater_share" "greater_share" (defArgs s_greater_share) (defBody s_greater_share) (defScope s_greater_share) .none kV15 dc15 pm15 an15 cd15 ct15), sl15⟩) (c15 : PySem.W.codeIn K cd15 "greater_share" = true) (k15 : PySem.W.keepIn K (.ref f15) = true)
    (a16 : PySem.W.nsIn K mainGlobals "_law_are_great_right" = some (some (.ref f16))) (l16 : K.lookup f16 = some ⟨oc16, od16, .func (PySem.W.fnOf "_law_are_great_right" "_law_are_great_right" (defArgs s__law_are_great_right) (defBody s__law_are_great_right) (defScope s__law_are_great_right) .none kV16 dc16 pm16 an16 cd16 ct16), sl16⟩) (c16 : PySem.W.codeIn K cd16 "_law_are_great_right" = true) (k16 : PySem.W.keepIn K (.ref f16) = true)
    (a17 : PySem.W.nsIn K mainGlobals "_law_right" = some (some (.ref f17))) (l17 : K.lookup f17 = some ⟨oc17, od17, .func (PySem.W.fnOf "_law_right" "_law_right" (defArgs s__law_right) (defBody s__law_right) (defScope s__law_right) .none kV17 dc17 pm17 an17 cd17 ct17), sl17⟩) (c17 : PySem.W.codeIn K cd17 "_law_right" = true) (k17 : PySem.W.keepIn K (.ref f17) = true)
    (a18 : PySem.W.nsIn K mainGlobals "law" = some (some (.ref f18))) (l18 : K.lookup f18 = some ⟨oc18, od18, .func (PySem.W.fnOf "law" "law" (defArgs s_law) (defBody s_law) (defScope s_law) .none kV18 dc18 pm18 an18 cd18 ct18), sl18⟩) (c18 : PySem.W.codeIn K cd18 "law" = true) (k18 : PySem.W.keepIn K (.ref f18) = true)
    (zd : PySem.W.nsIn K cStatics "sys.int_max_str_digits" = some none)
    (z_abs : PySem.W.nsIn K mainGlobals "abs" = some none)
    (z_all : PySem.W.nsIn K mainGlobals "all" = some none)
    (z_bool : PySem.W.nsIn K mainGlobals "bool" = some none)
    (z_int : PySem.W.nsIn K mainGlobals "int" = some none)
    (z_isinstance : PySem.W.nsIn K mainGlobals "isinstance" = some none)
    (z_len : PySem.W.nsIn K mainGlobals "len" = some none)
    (z_list : PySem.W.nsIn K mainGlobals "list" = some none)
    (z_max : PySem.W.nsIn K mainGlobals "max" = some none)
    (z_min : PySem.W.nsIn K mainGlobals "min" = some none)
    (z_range : PySem.W.nsIn K mainGlobals "range" = some none)
    (z_repr : PySem.W.nsIn K mainGlobals "repr" = some none)
    (z_sum : PySem.W.nsIn K mainGlobals "sum" = some none)
    (z_tuple : PySem.W.nsIn K mainGlobals "tuple" = some none)
    (g_MOST_TALKS : PySem.W.nsIn K mainGlobals "MOST_TALKS" = some (some (.int 40 t_MOST_TALKS)))
    : ∃ fd : FuncData, (∀ (s : Shared) (v : Value), BindsTo s fd ⟨[v], []⟩ [("script", v)]) ∧ ∀ base : Heap, K.In base → base.Ns mainGlobals mg → FnG l.prog w K mg base CX0 6 fa fd ["script"] (spD K 1 f_law) := by
  have e0 := hfa.symm.trans (PySem.W.mg_of X G a18)
  cases e0
  have F_is_integer := fun_mk (st := s_is_integer) l1 c1 k1
  have F_power_of := fun_mk (st := s_power_of) l2 c2 k2
  have F_is_at_most := fun_mk (st := s_is_at_most) l3 c3 k3
  have F__law_pot := fun_mk (st := s__law_pot) l4 c4 k4
  have F__law_take := fun_mk (st := s__law_take) l5 c5 k5
  have F__law_cells := fun_mk (st := s__law_cells) l6 c6 k6
  have F__law_rows_all := fun_mk (st := s__law_rows_all) l7 c7 k7
  have F__law_rows_led := fun_mk (st := s__law_rows_led) l8 c8 k8
  have F__law_product := fun_mk (st := s__law_product) l9 c9 k9
  have F_check_share := fun_mk (st := s_check_share) l10 c10 k10
  have F__law_of := fun_mk (st := s__law_of) l11 c11 k11
  have F__law_share := fun_mk (st := s__law_share) l12 c12 k12
  have F_repeated_share := fun_mk (st := s_repeated_share) l13 c13 k13
  have F_led_share := fun_mk (st := s_led_share) l14 c14 k14
  have F_greater_share := fun_mk (st := s_greater_share) l15 c15 k15
  have F__law_are_great_right := fun_mk (st := s__law_are_great_right) l16 c16 k16
  have F__law_right := fun_mk (st := s__law_right) l17 c17 k17
  have F_law := fun_mk (st := s_law) l18 c18 k18
  have goal : ∀ base : Heap, K.In base → base.Ns mainGlobals mg → FnG l.prog w K mg base CX0 6 fa (PySem.W.fnOf "law" "law" (defArgs s_law) (defBody s_law) (defScope s_law) .none kV18 dc18 pm18 an18 cd18 ct18) ["script"] (spD K 1 f_law) := fun base _ _ => by
    have G_is_integer := ok_is_integer (P := l.prog) (w := w) (mg := mg) (base := base) (PySem.W.mg_none_of X G z_bool) (PySem.W.mg_none_of X G z_int) (PySem.W.mg_none_of X G z_isinstance) F_is_integer
    have C_is_integer : Cal l.prog w K mg base "is_integer" s_is_integer ["value"] 1 f_is_integer := ⟨⟨f1, _, F_is_integer, PySem.W.mg_of X G a1, F_is_integer.binds (fun _ _ _ _ _ _ us hl => match us, hl with | [_], _ => rfl), G_is_integer⟩, fDef_len⟩
    have G_power_of := ok_power_of (P := l.prog) (w := w) (mg := mg) (base := base)  F_power_of
    have C_power_of : Cal l.prog w K mg base "power_of" s_power_of ["number", "many"] 1 f_power_of := ⟨⟨f2, _, F_power_of, PySem.W.mg_of X G a2, F_power_of.binds (fun _ _ _ _ _ _ us hl => match us, hl with | [_, _], _ => rfl), G_power_of⟩, fDef_len⟩
    have G_is_at_most := ok_is_at_most (P := l.prog) (w := w) (mg := mg) (base := base)  F_is_at_most
    have C_is_at_most : Cal l.prog w K mg base "is_at_most" s_is_at_most ["one", "other"] 1 f_is_at_most := ⟨⟨f3, _, F_is_at_most, PySem.W.mg_of X G a3, F_is_at_most.binds (fun _ _ _ _ _ _ us hl => match us, hl with | [_, _], _ => rfl), G_is_at_most⟩, fDef_len⟩
    have G__law_pot := ok__law_pot (P := l.prog) (w := w) (mg := mg) (base := base) (PySem.W.mg_none_of X G z_abs) (PySem.W.mg_none_of X G z_int) (PySem.W.mg_none_of X G z_len) (PySem.W.mg_none_of X G z_sum) F__law_pot
    have C__law_pot : Cal l.prog w K mg base "_law_pot" s__law_pot ["script", "place"] 1 f__law_pot := ⟨⟨f4, _, F__law_pot, PySem.W.mg_of X G a4, F__law_pot.binds (fun _ _ _ _ _ _ us hl => match us, hl with | [_, _], _ => rfl), G__law_pot⟩, fDef_len⟩
    have G__law_take := ok__law_take (P := l.prog) (w := w) (mg := mg) (base := base) (PySem.W.mg_none_of X G z_int) F__law_take
    have C__law_take : Cal l.prog w K mg base "_law_take" s__law_take ["pot", "upto"] 1 f__law_take := ⟨⟨f5, _, F__law_take, PySem.W.mg_of X G a5, F__law_take.binds (fun _ _ _ _ _ _ us hl => match us, hl with | [_, _], _ => rfl), G__law_take⟩, fDef_len⟩
    have G__law_cells := ok__law_cells (P := l.prog) (w := w) (mg := mg) (base := base) (PySem.W.mg_none_of X G z_len) (PySem.W.mg_none_of X G z_list) (PySem.W.mg_none_of X G z_max) (PySem.W.mg_none_of X G z_min) (PySem.W.mg_none_of X G z_range) F__law_cells
    have C__law_cells : Cal l.prog w K mg base "_law_cells" s__law_cells ["script", "most"] 1 f__law_cells := ⟨⟨f6, _, F__law_cells, PySem.W.mg_of X G a6, F__law_cells.binds (fun _ _ _ _ _ _ us hl => match us, hl with | [_, _], _ => rfl), G__law_cells⟩, fDef_len⟩
    have G__law_rows_all := ok__law_rows_all (P := l.prog) (w := w) (mg := mg) (base := base) (PySem.W.mg_none_of X G z_len) (PySem.W.mg_none_of X G z_range) F__law_rows_all
    have C__law_rows_all : Cal l.prog w K mg base "_law_rows_all" s__law_rows_all ["share", "many"] 1 f__law_rows_all := ⟨⟨f7, _, F__law_rows_all, PySem.W.mg_of X G a7, F__law_rows_all.binds (fun _ _ _ _ _ _ us hl => match us, hl with | [_, _], _ => rfl), G__law_rows_all⟩, fDef_len⟩
    have G__law_rows_led := ok__law_rows_led (P := l.prog) (w := w) (mg := mg) (base := base) (PySem.W.mg_none_of X G z_len) (PySem.W.mg_none_of X G z_range) F__law_rows_led
    have C__law_rows_led : Cal l.prog w K mg base "_law_rows_led" s__law_rows_led ["one", "other"] 1 f__law_rows_led := ⟨⟨f8, _, F__law_rows_led, PySem.W.mg_of X G a8, F__law_rows_led.binds (fun _ _ _ _ _ _ us hl => match us, hl with | [_, _], _ => rfl), G__law_rows_led⟩, fDef_len⟩
    have G__law_product := ok__law_product (P := l.prog) (w := w) (mg := mg) (base := base) (PySem.W.mg_none_of X G z_range) F__law_product
    have C__law_product : Cal l.prog w K mg base "_law_product" s__law_product ["number", "many"] 1 f__law_product := ⟨⟨f9, _, F__law_product, PySem.W.mg_of X G a9, F__law_product.binds (fun _ _ _ _ _ _ us hl => match us, hl with | [_, _], _ => rfl), G__law_product⟩, fDef_len⟩
    have G_check_share := ok_check_share (P := l.prog) (w := w) (mg := mg) (base := base) (PySem.W.mg_none_of X G z_all) (PySem.W.mg_none_of X G z_isinstance) (PySem.W.mg_none_of X G z_len) (PySem.W.mg_none_of X G z_tuple) C_is_integer F_check_share
    have C_check_share : Cal l.prog w K mg base "check_share" s_check_share ["value"] 2 f_check_share := ⟨⟨f10, _, F_check_share, PySem.W.mg_of X G a10, F_check_share.binds (fun _ _ _ _ _ _ us hl => match us, hl with | [_], _ => rfl), G_check_share⟩, fDef_len⟩
    have G__law_of := ok__law_of (P := l.prog) (w := w) (mg := mg) (base := base) (PySem.W.mg_none_of X G z_len) C__law_take F__law_of
    have C__law_of : Cal l.prog w K mg base "_law_of" s__law_of ["pot", "some"] 2 f__law_of := ⟨⟨f11, _, F__law_of, PySem.W.mg_of X G a11, F__law_of.binds (fun _ _ _ _ _ _ us hl => match us, hl with | [_, _], _ => rfl), G__law_of⟩, fDef_len⟩
    have G__law_share := ok__law_share (P := l.prog) (w := w) (mg := mg) (base := base) (PySem.W.mg_none_of X G z_int) C__law_take F__law_share
    have C__law_share : Cal l.prog w K mg base "_law_share" s__law_share ["pot", "most"] 2 f__law_share := ⟨⟨f12, _, F__law_share, PySem.W.mg_of X G a12, F__law_share.binds (fun _ _ _ _ _ _ us hl => match us, hl with | [_, _], _ => rfl), G__law_share⟩, fDef_len⟩
    have G_repeated_share := ok_repeated_share (P := l.prog) (w := w) (mg := mg) (base := base) ⟨_, PySem.W.mg_of X G g_MOST_TALKS⟩ C_check_share C_is_integer C_power_of F_repeated_share
    have C_repeated_share : Cal l.prog w K mg base "repeated_share" s_repeated_share ["share", "many"] 3 f_repeated_share := ⟨⟨f13, _, F_repeated_share, PySem.W.mg_of X G a13, F_repeated_share.binds (fun _ _ _ _ _ _ us hl => match us, hl with | [_, _], _ => rfl), G_repeated_share⟩, fDef_len⟩
    have G_led_share := ok_led_share (P := l.prog) (w := w) (mg := mg) (base := base) C_check_share F_led_share
    have C_led_share : Cal l.prog w K mg base "led_share" s_led_share ["one", "other"] 3 f_led_share := ⟨⟨f14, _, F_led_share, PySem.W.mg_of X G a14, F_led_share.binds (fun _ _ _ _ _ _ us hl => match us, hl with | [_, _], _ => rfl), G_led_share⟩, fDef_len⟩
    have G_greater_share := ok_greater_share (P := l.prog) (w := w) (mg := mg) (base := base) C_check_share C_is_at_most F_greater_share
    have C_greater_share : Cal l.prog w K mg base "greater_share" s_greater_share ["one", "other"] 3 f_greater_share := ⟨⟨f15, _, F_greater_share, PySem.W.mg_of X G a15, F_greater_share.binds (fun _ _ _ _ _ _ us hl => match us, hl with | [_, _], _ => rfl), G_greater_share⟩, fDef_len⟩
    have G__law_are_great_right := ok__law_are_great_right (P := l.prog) (w := w) (mg := mg) (base := base) zd (PySem.W.mg_none_of X G z_repr) C__law_of C__law_product C__law_share C__law_take C_greater_share C_led_share C_repeated_share F__law_are_great_right
    have C__law_are_great_right : Cal l.prog w K mg base "_law_are_great_right" s__law_are_great_right ["pot"] 4 f__law_are_great_right := ⟨⟨f16, _, F__law_are_great_right, PySem.W.mg_of X G a16, F__law_are_great_right.binds (fun _ _ _ _ _ _ us hl => match us, hl with | [_], _ => rfl), G__law_are_great_right⟩, fDef_len⟩
    have G__law_right := ok__law_right (P := l.prog) (w := w) (mg := mg) (base := base) zd (PySem.W.mg_none_of X G z_repr) C__law_are_great_right C__law_rows_all C__law_rows_led C__law_share C__law_take C_greater_share C_led_share C_repeated_share F__law_right
    have C__law_right : Cal l.prog w K mg base "_law_right" s__law_right ["pot"] 5 f__law_right := ⟨⟨f17, _, F__law_right, PySem.W.mg_of X G a17, F__law_right.binds (fun _ _ _ _ _ _ us hl => match us, hl with | [_], _ => rfl), G__law_right⟩, fDef_len⟩
    exact ok_law (PySem.W.mg_none_of X G z_all) C__law_cells C__law_pot C__law_right F_law
  exact ⟨_, fun s v => .of_eq rfl, goal⟩

end Dn.k45
open PySem PySem.W PyProof.Rows
set_option maxHeartbeats 0 in
theorem PySem.Challenge.cw_fewthrows_k45_whole_shares_of_several_ta_holds : PySem.Challenge.rw_fewthrows_k45_whole_shares_of_several_ta.Holds := by
  w_on; o_law; k_head; (case hw => w_witness2)
  k_fill
  refine Dn.walk_ofG (l := PySem.Challenge.rw_fewthrows_k45_whole_shares_of_several_ta) (n := 63) (k := 6) (x := "script") (CX := fun _ => L2.CX0) (sp := fun w => Dn.spD _ 1 Dn.k45.f_law) rfl (by decide) rfl ⟨rfl, by decide, by decide⟩ (fun w h Y => PySem.W.kIn_of Y) ?F (fun _ H a ns hl _ hS => Dn.sp_law Dn.k45.law_true H a ns hl hS) (fun _ _ _ _ _ h => h)
  case F =>
    intro w mg fa h KX G hmg
    refine' Dn.k45.all_mk KX G hmg ?a1 ?l1 ?c1 ?k1 ?a2 ?l2 ?c2 ?k2 ?a3 ?l3 ?c3 ?k3 ?a4 ?l4 ?c4 ?k4 ?a5 ?l5 ?c5 ?k5 ?a6 ?l6 ?c6 ?k6 ?a7 ?l7 ?c7 ?k7 ?a8 ?l8 ?c8 ?k8 ?a9 ?l9 ?c9 ?k9 ?a10 ?l10 ?c10 ?k10 ?a11 ?l11 ?c11 ?k11 ?a12 ?l12 ?c12 ?k12 ?a13 ?l13 ?c13 ?k13 ?a14 ?l14 ?c14 ?k14 ?a15 ?l15 ?c15 ?k15 ?a16 ?l16 ?c16 ?k16 ?a17 ?l17 ?c17 ?k17 ?a18 ?l18 ?c18 ?k18 ?zd ?z_abs ?z_all ?z_bool ?z_int ?z_isinstance ?z_len ?z_list ?z_max ?z_min ?z_range ?z_repr ?z_sum ?z_tuple ?g_MOST_TALKS
    (case a1 => k_is)
    (case l1 => k_is)
    (case c1 => k_is)
    (case k1 => k_is)
    (case a2 => k_is)
    (case l2 => k_is)
    (case c2 => k_is)
    (case k2 => k_is)
    (case a3 => k_is)
    (case l3 => k_is)
    (case c3 => k_is)
    (case k3 => k_is)
    (case a4 => k_is)
    (case l4 => k_is)
    (case c4 => k_is)
    (case k4 => k_is)
    (case a5 => k_is)
    (case l5 => k_is)
    (case c5 => k_is)
    (case k5 => k_is)
    (case a6 => k_is)
    (case l6 => k_is)
    (case c6 => k_is)
    (case k6 => k_is)
    (case a7 => k_is)
    (case l7 => k_is)
    (case c7 => k_is)
    (case k7 => k_is)
    (case a8 => k_is)
    (case l8 => k_is)
    (case c8 => k_is)
    (case k8 => k_is)
    (case a9 => k_is)
    (case l9 => k_is)
    (case c9 => k_is)
    (case k9 => k_is)
    (case a10 => k_is)
    (case l10 => k_is)
    (case c10 => k_is)
    (case k10 => k_is)
    (case a11 => k_is)
    (case l11 => k_is)
    (case c11 => k_is)
    (case k11 => k_is)
    (case a12 => k_is)
    (case l12 => k_is)
    (case c12 => k_is)
    (case k12 => k_is)
    (case a13 => k_is)
    (case l13 => k_is)
    (case c13 => k_is)
    (case k13 => k_is)
    (case a14 => k_is)
    (case l14 => k_is)
    (case c14 => k_is)
    (case k14 => k_is)
    (case a15 => k_is)
    (case l15 => k_is)
    (case c15 => k_is)
    (case k15 => k_is)
    (case a16 => k_is)
    (case l16 => k_is)
    (case c16 => k_is)
    (case k16 => k_is)
    (case a17 => k_is)
    (case l17 => k_is)
    (case c17 => k_is)
    (case k17 => k_is)
    (case a18 => k_is)
    (case l18 => k_is)
    (case c18 => k_is)
    (case k18 => k_is)
    (case zd => k_is)
    (case z_abs => k_is)
    (case z_all => k_is)
    (case z_bool => k_is)
    (case z_int => k_is)
    (case z_isinstance => k_is)
    (case z_len => k_is)
    (case z_list => k_is)
    (case z_max => k_is)
    (case z_min => k_is)
    (case z_range => k_is)
    (case z_repr => k_is)
    (case z_sum => k_is)
    (case z_tuple => k_is)
    (case g_MOST_TALKS => k_is)
