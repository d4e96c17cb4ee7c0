import PyProof.Rows.All
import Wide.All
import OpenK.AllK
import Wide.FinOn
import HandS.ForMost
import HandS.ForExc
import HandS.Wide
import HandS.Gcd
import HandS.IsInst
import HandS.TupAny
import HandS.ExcIs
import HandS.TryOnly
import KE.DataCmp
import HandS.EndBits
import PySem.Challenge.RW_joinhall_k01_fractions
section
set_option Elab.async false
set_option linter.all false
set_option maxRecDepth 100000
set_option maxHeartbeats 4000000
namespace Mi
open PySem PySem.Spec L2
open PyProof.Rows hiding St

/-! ## the mirror's data -/
inductive D where
  | non | bl (b : Bool) | int (i : Int) | str (s : PySem.Str) | tup (xs : List D) | ref (n : Nat) | exn (c : String)
instance : Inhabited D := ⟨.non⟩
inductive MO where
  | lst (xs : List D) | con (xs : List D) | dic (kvs : List (D × D)) | obj (c : String) (fs : List (PySem.Str × D)) | frz (o : MO)
abbrev Mem := List MO
inductive Res (α : Type) where
  | ok (a : α) (m : Mem) | exc (c : String) (m : Mem) | bad
abbrev Env := List (Option D)
inductive Fl where
  | nx | rt (d : D) | bk | ct
inductive SRes where
  | ok (f : Fl) (r : Env) (m : Mem) | exc (c : String) (r : Env) (m : Mem) | bad
abbrev FE := Env → Mem → Res D
abbrev FT := Env → Mem → Res Bool
abbrev FA := Env → Mem → Res (List D)
abbrev FS := Env → Mem → SRes
abbrev Fn := List D → Mem → Res D

def Res.bind {α β : Type} (r : Res α) (g : α → Mem → Res β) : Res β := match r with
  | .ok a m => g a m
  | .exc c m => .exc c m
  | .bad => .bad

/-! ## how the mirror's data lie in the layer's heap -/
mutual
def RepD (K : PySem.W.Frag) (H : Hp) (ad : List Addr) : D → V → Prop
  | .non, v => v = .non
  | .bl b, v => v = .bl b
  | .int i, v => v = .int i
  | .str s, v => v = .str s
  | .tup ds, v => ∃ a vs, v = .ref a ∧ SqT K H a vs ∧ RepL K H ad ds vs
  | .ref n, v => ∃ a, v = .ref a ∧ ad[n]? = some a
  | .exn _, _ => False
def RepL (K : PySem.W.Frag) (H : Hp) (ad : List Addr) : List D → List V → Prop
  | [], vs => vs = []
  | d :: ds, vs => ∃ v r, vs = v :: r ∧ RepD K H ad d v ∧ RepL K H ad ds r
end
/-- a list of the module's written part -/
def KSq (K : PySem.W.Frag) (a : Addr) (xs : List V) : Prop :=
  ∃ (o : Obj) (its : Array Value) (n : Nat), K.lookup a = some o ∧ o.cls = .type "list" ∧ o.dict = none ∧ o.data = .seq its n ∧ its.size ≤ sizeLine ∧ Vals xs its.toList
def RepO (K : PySem.W.Frag) (H : Hp) (ad : List Addr) (a : Addr) : MO → Prop
  | .lst ds => ∃ vs, H a = some (.lst vs) ∧ RepL K H ad ds vs
  | .con ds => ∃ vs, ((∃ ob, H a = some (.frz ob (.lst vs))) ∨ KSq K a vs) ∧ RepL K H ad ds vs
  | _ => False
def isCon : MO → Prop
  | .con _ => True
  | _ => False
structure RepM (K : PySem.W.Frag) (ad : List Addr) (m : Mem) (H : Hp) : Prop where
  len : ad.length = m.length
  nd : ∀ (n k : Nat) (a : Addr) (o u : MO), ad[n]? = some a → ad[k]? = some a → m[n]? = some o → m[k]? = some u → n ≠ k → isCon o ∨ isCon u
  obj : ∀ (n : Nat) (o : MO) (a : Addr), m[n]? = some o → ad[n]? = some a → RepO K H ad a o
/-- what stays -/
structure Ext (K : PySem.W.Frag) (H : Hp) (ad : List Addr) (H' : Hp) (ad' : List Addr) : Prop where
  pre : ad <+: ad'
  tup : ∀ a vs, SqT K H a vs → SqT K H' a vs
def RepE (K : PySem.W.Frag) (H : Hp) (ad : List Addr) (r : Env) (σ : St) : Prop :=
  r.length = σ.length ∧ ∀ (i : Nat) d, r[i]? = some (some d) → ∃ v, σ[i]? = some (some v) ∧ RepD K H ad d v

section
variable {K : PySem.W.Frag} {H H1 H2 : Hp} {ad ad1 ad2 : List Addr} {m : Mem}
theorem Ext.refl : Ext K H ad H ad := ⟨List.prefix_refl _, fun _ _ h => h⟩
theorem Ext.trans (a : Ext K H ad H1 ad1) (b : Ext K H1 ad1 H2 ad2) : Ext K H ad H2 ad2 := ⟨a.pre.trans b.pre, fun x vs h => b.tup x vs (a.tup x vs h)⟩
theorem pre_get {ad ad1 : List Addr} (h : ad <+: ad1) {n : Nat} {a : Addr} (e : ad[n]? = some a) : ad1[n]? = some a := by
  obtain ⟨r, rfl⟩ := h
  rw [List.getElem?_append_left (List.getElem?_eq_some_iff.mp e).1]
  exact e
mutual
theorem RepD.mono (x : Ext K H ad H1 ad1) : ∀ (d : D) (v : V), RepD K H ad d v → RepD K H1 ad1 d v
  | .non, _, h => h
  | .bl _, _, h => h
  | .int _, _, h => h
  | .str _, _, h => h
  | .tup ds, _, h => by
    obtain ⟨a, vs, e, t, r⟩ := h
    exact ⟨a, vs, e, x.tup _ _ t, RepL.mono x ds vs r⟩
  | .ref n, _, h => by
    obtain ⟨a, e, g⟩ := h
    exact ⟨a, e, pre_get x.pre g⟩
  | .exn _, _, h => h.elim
theorem RepL.mono (x : Ext K H ad H1 ad1) : ∀ (ds : List D) (vs : List V), RepL K H ad ds vs → RepL K H1 ad1 ds vs
  | [], _, h => h
  | d :: ds, _, h => by
    obtain ⟨v, r, e, h1, h2⟩ := h
    exact ⟨v, r, e, RepD.mono x d v h1, RepL.mono x ds r h2⟩
end
theorem RepE.mono (x : Ext K H ad H1 ad1) {r : Env} {σ : St} (h : RepE K H ad r σ) : RepE K H1 ad1 r σ :=
  ⟨h.1, fun i d e => let ⟨v, e1, e2⟩ := h.2 i d e; ⟨v, e1, RepD.mono x d v e2⟩⟩
theorem RepE.set {r : Env} {σ : St} (h : RepE K H ad r σ) (i : Nat) {d : D} {v : V} (hd : RepD K H ad d v) : RepE K H ad (r.set i (some d)) (σ.set i (some v)) := by
  refine ⟨by simp [h.1], fun j e he => ?_⟩
  by_cases hj : i = j
  · subst hj
    have hl : i < r.length := by
      have := (List.getElem?_eq_some_iff.mp he).1
      simpa using this
    rw [List.getElem?_set_self hl] at he
    cases he
    exact ⟨v, List.getElem?_set_self (by rw [← h.1]; exact hl), hd⟩
  · rw [List.getElem?_set_ne hj] at he
    rw [List.getElem?_set_ne hj]
    exact h.2 j e he
theorem RepL.length : ∀ {ds : List D} {vs : List V}, RepL K H ad ds vs → ds.length = vs.length
  | [], _, h => by cases h; rfl
  | d :: ds, _, h => by
    obtain ⟨v, r, rfl, _, h2⟩ := h
    simp [RepL.length h2]
theorem RepL.get : ∀ {ds : List D} {vs : List V} {i : Nat} {d : D}, RepL K H ad ds vs → ds[i]? = some d → ∃ v, vs[i]? = some v ∧ RepD K H ad d v
  | [], _, _, _, _, e => by simp at e
  | d :: ds, _, 0, x, h, e => by
    obtain ⟨v, r, rfl, h1, h2⟩ := h
    simp at e
    subst e
    exact ⟨v, rfl, h1⟩
  | d :: ds, _, i + 1, x, h, e => by
    obtain ⟨v, r, rfl, h1, h2⟩ := h
    obtain ⟨v', e1, e2⟩ := RepL.get (i := i) h2 (by simpa using e)
    exact ⟨v', by simpa using e1, e2⟩
theorem RepL.app : ∀ {ds es : List D} {vs us : List V}, RepL K H ad ds vs → RepL K H ad es us → RepL K H ad (ds ++ es) (vs ++ us)
  | [], _, _, _, h, q => by cases h; exact q
  | d :: ds, _, _, _, h, q => by
    obtain ⟨v, r, rfl, h1, h2⟩ := h
    exact ⟨v, r ++ _, rfl, h1, RepL.app h2 q⟩
theorem RepL.one {d : D} {v : V} (h : RepD K H ad d v) : RepL K H ad [d] [v] := ⟨v, [], rfl, h, rfl⟩
theorem RepL.set {d : D} {v : V} (hd : RepD K H ad d v) : ∀ {ds : List D} {vs : List V} (i : Nat), RepL K H ad ds vs → RepL K H ad (ds.set i d) (vs.set i v)
  | [], _, _, h => by cases h; rfl
  | x :: ds, _, 0, h => by
    obtain ⟨w, r, rfl, h1, h2⟩ := h
    exact ⟨v, r, rfl, hd, h2⟩
  | x :: ds, _, i + 1, h => by
    obtain ⟨w, r, rfl, h1, h2⟩ := h
    exact ⟨w, r.set i v, rfl, h1, RepL.set hd i h2⟩
theorem RepO.at {a : Addr} {o : MO} (h : RepO K H ad a o) : (∃ ho, H a = some ho) ∨ isCon o := by
  cases o with
  | lst ds => obtain ⟨vs, e, _⟩ := h; exact .inl ⟨_, e⟩
  | con ds => exact .inr trivial
  | _ => exact h.elim
theorem RepM.at (h : RepM K ad m H) {n : Nat} {a : Addr} (e : ad[n]? = some a) : ∃ o, m[n]? = some o ∧ RepO K H ad a o := by
  have hl : n < m.length := by rw [← h.len]; exact (List.getElem?_eq_some_iff.mp e).1
  exact ⟨m[n], List.getElem?_eq_getElem hl, h.obj n _ a (List.getElem?_eq_getElem hl) e⟩
/-- a new object that the mirror does not see (a tuple) -/
theorem sqT_upd {p : Addr} {o : HO} (hp : H p = none) {a : Addr} {vs : List V} (h : SqT K H a vs) : SqT K (upd H p o) a vs := by
  rcases h with (h | ⟨ob, h⟩) | h
  · exact .inl (.inl (by rw [upd_ne (ne_of_none h hp)]; exact h))
  · exact .inl (.inr ⟨ob, by rw [upd_ne (ne_of_none h hp)]; exact h⟩)
  · exact .inr h
theorem RepO.stay {a : Addr} {o : MO} (x : Ext K H ad H1 ad1) (k : ∀ ho, H a = some ho → H1 a = some ho) (h : RepO K H ad a o) : RepO K H1 ad1 a o := by
  cases o with
  | lst ds => obtain ⟨vs, e, r⟩ := h; exact ⟨vs, k _ e, RepL.mono x ds vs r⟩
  | con ds =>
    obtain ⟨vs, e, r⟩ := h
    refine ⟨vs, ?_, RepL.mono x ds vs r⟩
    rcases e with ⟨ob, e⟩ | e
    · exact .inl ⟨ob, k _ e⟩
    · exact .inr e
  | _ => exact h.elim
theorem ext_new {p : Addr} {o : HO} (hp : H p = none) : Ext K H ad (upd H p o) ad := ⟨List.prefix_refl _, fun a vs h => sqT_upd hp h⟩
theorem RepM.new {p : Addr} {o : HO} (h : RepM K ad m H) (hp : H p = none) : RepM K ad m (upd H p o) :=
  ⟨h.len, h.nd, fun n u a e1 e2 => (h.obj n u a e1 e2).stay (ext_new hp) fun ho h1 => by rw [upd_ne (ne_of_none h1 hp)]; exact h1⟩
/-- a new object of the mirror's -/
theorem ext_alloc {p : Addr} {o : HO} (hp : H p = none) : Ext K H ad (upd H p o) (ad ++ [p]) := ⟨List.prefix_append _ _, fun a vs h => sqT_upd hp h⟩
theorem snoc_get {α : Type} {l : List α} {x y : α} {n : Nat} (h : (l ++ [x])[n]? = some y) : l[n]? = some y ∨ (n = l.length ∧ y = x) := by
  by_cases hn : n < l.length
  · rw [List.getElem?_append_left hn] at h
    exact .inl h
  · have hl := (List.getElem?_eq_some_iff.mp h).1
    simp at hl
    have en : n = l.length := by omega
    subst en
    rw [List.getElem?_append_right (Nat.le_refl _), Nat.sub_self] at h
    exact .inr ⟨rfl, (Option.some.inj h).symm⟩
theorem RepM.alloc {p : Addr} {o : MO} {ho : HO} (h : RepM K ad m H) (hp : H p = none) (ro : RepO K (upd H p ho) (ad ++ [p]) p o) : RepM K (ad ++ [p]) (m ++ [o]) (upd H p ho) := by
  have old : ∀ (n : Nat) (u : MO), ad[n]? = some p → m[n]? = some u → isCon u := fun n u e1 e2 => by
    rcases (h.obj n u p e2 e1).at with ⟨ho, q⟩ | q
    · rw [hp] at q; cases q
    · exact q
  refine ⟨by simp [h.len], fun n k a o1 u1 e1 e2 e3 e4 ne => ?_, fun n u a e1 e2 => ?_⟩
  · rcases snoc_get e1 with f1 | ⟨f1, g1⟩
    · rcases snoc_get e2 with f2 | ⟨f2, g2⟩
      · rcases snoc_get e3 with f3 | ⟨f3, _⟩
        · rcases snoc_get e4 with f4 | ⟨f4, _⟩
          · exact h.nd n k a o1 u1 f1 f2 f3 f4 ne
          · have := (List.getElem?_eq_some_iff.mp f2).1
            rw [h.len] at this
            omega
        · have := (List.getElem?_eq_some_iff.mp f1).1
          rw [h.len] at this
          omega
      · rcases snoc_get e3 with f3 | ⟨f3, _⟩
        · exact .inl (old n o1 (by rw [← g2]; exact f1) f3)
        · have := (List.getElem?_eq_some_iff.mp f1).1
          rw [h.len] at this
          omega
    · rcases snoc_get e2 with f2 | ⟨f2, _⟩
      · rcases snoc_get e4 with f4 | ⟨f4, _⟩
        · exact .inr (old k u1 (by rw [← g1]; exact f2) f4)
        · have := (List.getElem?_eq_some_iff.mp f2).1
          rw [h.len] at this
          omega
      · omega
  · rcases snoc_get e1 with e1 | ⟨e1, e1'⟩
    · rcases snoc_get e2 with e2 | ⟨e2, _⟩
      · exact (h.obj n u a e1 e2).stay (ext_alloc hp) fun ho h1 => by rw [upd_ne (ne_of_none h1 hp)]; exact h1
      · have := (List.getElem?_eq_some_iff.mp e1).1
        rw [← h.len] at this
        omega
    · rcases snoc_get e2 with e2 | ⟨_, e2'⟩
      · have := (List.getElem?_eq_some_iff.mp e2).1
        rw [h.len] at this
        omega
      · subst e1' e2'
        exact ro
/-- an object of the mirror's is changed -/
theorem not_tup_upd {a : Addr} {o o' : HO} (ho : H a = some o) (nt : ∀ vs, o ≠ .tup vs) (nf : ∀ b u, o ≠ .frz b u) {b : Addr} {vs : List V} (h : SqT K H b vs) : SqT K (upd H a o') b vs := by
  rcases h with (h | ⟨ob, h⟩) | h
  · refine .inl (.inl ?_)
    rw [upd_ne (ne_of h ho (fun e => nt vs e.symm))]
    exact h
  · refine .inl (.inr ⟨ob, ?_⟩)
    rw [upd_ne (ne_of h ho (fun e => nf _ _ e.symm))]
    exact h
  · exact .inr h
theorem RepM.write {n : Nat} {a : Addr} {o u : HO} {mo mo0 : MO} (h : RepM K ad m H) (ea : ad[n]? = some a) (em : m[n]? = some mo0) (nc : ¬ isCon mo0) (nc' : ¬ isCon mo) (ho : H a = some o) (nt : ∀ vs, o ≠ .tup vs) (nf : ∀ b w, o ≠ .frz b w)
    (ro : Ext K H ad (upd H a u) ad → RepO K (upd H a u) ad a mo) : RepM K ad (m.set n mo) (upd H a u) ∧ Ext K H ad (upd H a u) ad := by
  have x : Ext K H ad (upd H a u) ad := ⟨List.prefix_refl _, fun b vs h => not_tup_upd ho nt nf h⟩
  have hl : n < m.length := (List.getElem?_eq_some_iff.mp em).1
  refine ⟨⟨by simp [h.len], fun i k b o1 u1 e1 e2 e3 e4 ne => ?_, fun k w b e1 e2 => ?_⟩, x⟩
  · by_cases hi : n = i
    · subst hi
      have hk : n ≠ k := ne
      rw [List.getElem?_set_ne hk] at e4
      rcases h.nd n k b mo0 u1 e1 e2 em e4 ne with q | q
      · exact absurd q nc
      · exact .inr q
    · rw [List.getElem?_set_ne hi] at e3
      by_cases hk : n = k
      · subst hk
        rcases h.nd i n b o1 mo0 e1 e2 e3 em ne with q | q
        · exact .inl q
        · exact absurd q nc
      · rw [List.getElem?_set_ne hk] at e4
        exact h.nd i k b o1 u1 e1 e2 e3 e4 ne
  · by_cases hk : n = k
    · subst hk
      rw [ea] at e2
      cases e2
      rw [List.getElem?_set_self hl] at e1
      cases e1
      exact ro x
    · rw [List.getElem?_set_ne hk] at e1
      by_cases hb : b = a
      · subst hb
        rcases h.nd n k b mo0 w ea e2 em e1 hk with q | q
        · exact absurd q nc
        · have hw := h.obj k w b e1 e2
          cases w with
          | con ds =>
            obtain ⟨vs, e, r⟩ := hw
            refine ⟨vs, ?_, RepL.mono x ds vs r⟩
            rcases e with ⟨ob, e⟩ | e
            · rw [ho] at e
              exact absurd (Option.some.inj e) (nf _ _)
            · exact .inr e
          | _ => exact q.elim
      · exact (h.obj k w b e1 e2).stay x fun ho h1 => by rw [upd_ne hb]; exact h1
theorem RepM.allocL {p : Addr} {ds : List D} {vs : List V} (h : RepM K ad m H) (hp : H p = none) (r : RepL K H ad ds vs) : RepM K (ad ++ [p]) (m ++ [.lst ds]) (upd H p (.lst vs)) :=
  h.alloc hp ⟨vs, upd_same, RepL.mono (ext_alloc hp) ds vs r⟩
theorem RepM.writeL {n : Nat} {a : Addr} {ds0 ds : List D} {vs0 vs : List V} (h : RepM K ad m H) (ea : ad[n]? = some a) (em : m[n]? = some (.lst ds0)) (ho : H a = some (.lst vs0)) (r : RepL K H ad ds vs) :
    RepM K ad (m.set n (.lst ds)) (upd H a (.lst vs)) ∧ Ext K H ad (upd H a (.lst vs)) ad :=
  h.write ea em (fun z => z) (fun z => z) ho (by intro vs h; cases h) (by intro b u h; cases h) fun x => ⟨vs, upd_same, RepL.mono x ds vs r⟩
theorem RepM.obj' (h : RepM K ad m H) {n : Nat} {o : MO} (e : m[n]? = some o) : ∃ a, ad[n]? = some a ∧ RepO K H ad a o := by
  have hl : n < ad.length := by rw [h.len]; exact (List.getElem?_eq_some_iff.mp e).1
  exact ⟨ad[n], List.getElem?_eq_getElem hl, h.obj n o ad[n] e (List.getElem?_eq_getElem hl)⟩
end

/-! ## the judgements -/
section
variable (K : PySem.W.Frag) (cl : String → Addr) (W : WX)
def OkQ (H : Hp) (ad : List Addr) (Q : VK) (d : D) (m : Mem) : Prop := ∀ ad' H' v, Ext K H ad H' ad' → RepM K ad' m H' → RepD K H' ad' d v → Q v H'
def OkL (H : Hp) (ad : List Addr) (Q : List V → Hp → Prop) (ds : List D) (m : Mem) : Prop := ∀ ad' H' vs, Ext K H ad H' ad' → RepM K ad' m H' → RepL K H' ad' ds vs → Q vs H'
def OkB (H : Hp) (ad : List Addr) (Q : Bool → Hp → Prop) (b : Bool) (m : Mem) : Prop := ∀ ad' H', Ext K H ad H' ad' → RepM K ad' m H' → Q b H'
def OkX (σ : St) (H : Hp) (ad : List Addr) (c : String) (m : Mem) : Prop := ∀ ad' H', Ext K H ad H' ad' → RepM K ad' m H' → W (.ref (cl c)) none σ H'
def Fin (σ : St) (H : Hp) (ad : List Addr) {α : Type} (P : α → Mem → Prop) : Res α → Prop
  | .ok d m => P d m
  | .exc c m => OkX K cl W σ H ad c m
  | .bad => False
def OkF (H : Hp) (ad : List Addr) (D : Ends) (f : Fl) (r : Env) (m : Mem) : Prop := ∀ ad' H' σ', Ext K H ad H' ad' → RepM K ad' m H' → RepE K H' ad' r σ' →
  match f with
  | .nx => D.nx σ' H'
  | .rt d => ∀ v, RepD K H' ad' d v → D.rt v H'
  | .bk => D.bk σ' H'
  | .ct => D.ct σ' H'
def FinS (H : Hp) (ad : List Addr) (D : Ends) : SRes → Prop
  | .ok f r m => OkF K H ad D f r m
  | .exc c r m => ∀ ad' H' σ', Ext K H ad H' ad' → RepM K ad' m H' → RepE K H' ad' r σ' → W (.ref (cl c)) none σ' H'
  | .bad => False
def St0 (σ : St) (H : Hp) (P : List Addr → Env → Mem → Prop) : Prop := ∃ ad r m, RepM K ad m H ∧ RepE K H ad r σ ∧ P ad r m
def tE (f : FE) : TE := fun σ H Q => St0 K σ H fun ad r m => Fin K cl W σ H ad (OkQ K H ad Q) (f r m)
def tT (f : FT) : TT := fun σ H Q => St0 K σ H fun ad r m => Fin K cl W σ H ad (OkB K H ad Q) (f r m)
def tA (f : FA) : TA := fun σ H Q => St0 K σ H fun ad r m => Fin K cl W σ H ad (OkL K H ad Q) (f r m)
def tS (f : FS) : TS := fun D σ H => St0 K σ H fun ad r m => FinS K cl W H ad D (f r m)
/-- a def's promise: it does what its mirror does -/
def spF (F : Fn) : Sp := fun vs H Q E => ∃ ad m ds, RepM K ad m H ∧ RepL K H ad ds vs ∧
  match F ds m with
  | .ok d m' => OkQ K H ad Q d m'
  | .exc c m' => ∀ ad' H', Ext K H ad H' ad' → RepM K ad' m' H' → E (.ref (cl c)) none H'
  | .bad => False
end
abbrev DE (X : Cx) (cl : String → Addr) (W : WX) (e : Expr) (f : FE) : Prop := PE X e (tE X.K cl W f)
abbrev DT (X : Cx) (cl : String → Addr) (W : WX) (e : Expr) (f : FT) : Prop := PT X e (tT X.K cl W f)
abbrev DA (X : Cx) (cl : String → Addr) (W : WX) (es : List Expr) (f : FA) : Prop := PA X es (tA X.K cl W f)
abbrev DS (X : Cx) (cl : String → Addr) (W : WX) (s : Stmt) (f : FS) : Prop := PS X s (tS X.K cl W f)
abbrev DSs (X : Cx) (cl : String → Addr) (W : WX) (s : List Stmt) (f : FS) : Prop := PSs X s (tS X.K cl W f)

theorem PE.imp {X : Cx} {e : Expr} {t t' : TE} (h : PE X e t) (i : ∀ σ H Q, t' σ H Q → t σ H Q) : PE X e t' := ⟨fun pins s σ H Q I q => h.run pins s σ H Q I (i _ _ _ q)⟩
theorem PT.imp {X : Cx} {e : Expr} {t t' : TT} (h : PT X e t) (i : ∀ σ H Q, t' σ H Q → t σ H Q) : PT X e t' := ⟨fun pins s σ H Q I q => h.run pins s σ H Q I (i _ _ _ q)⟩
theorem PA.imp {X : Cx} {e : List Expr} {t t' : TA} (h : PA X e t) (i : ∀ σ H Q, t' σ H Q → t σ H Q) : PA X e t' := ⟨fun pos pins s σ H Q I q => h.run pos pins s σ H Q I (i _ _ _ q)⟩
theorem PS.imp {X : Cx} {e : Stmt} {t t' : TS} (h : PS X e t) (i : ∀ σ H Q, t' Q σ H → t Q σ H) : PS X e t' := ⟨fun pins s σ H Q I q => h.run pins s σ H Q I (i _ _ _ q)⟩
theorem PSs.imp {X : Cx} {e : List Stmt} {t t' : TS} (h : PSs X e t) (i : ∀ σ H Q, t' Q σ H → t Q σ H) : PSs X e t' := ⟨fun pins s σ H Q I q => h.run pins s σ H Q I (i _ _ _ q)⟩

section
variable {K : PySem.W.Frag} {cl : String → Addr} {W : WX} {σ : St} {H H1 : Hp} {ad ad1 : List Addr}
theorem OkQ.mono {Q : VK} (x : Ext K H ad H1 ad1) {d : D} {m : Mem} (h : OkQ K H ad Q d m) : OkQ K H1 ad1 Q d m := fun ad' H' v y => h ad' H' v (x.trans y)
theorem OkL.mono {Q : List V → Hp → Prop} (x : Ext K H ad H1 ad1) {d : List D} {m : Mem} (h : OkL K H ad Q d m) : OkL K H1 ad1 Q d m := fun ad' H' v y => h ad' H' v (x.trans y)
theorem OkB.mono {Q : Bool → Hp → Prop} (x : Ext K H ad H1 ad1) {d : Bool} {m : Mem} (h : OkB K H ad Q d m) : OkB K H1 ad1 Q d m := fun ad' H' y => h ad' H' (x.trans y)
theorem OkX.mono (x : Ext K H ad H1 ad1) {c : String} {m : Mem} (h : OkX K cl W σ H ad c m) : OkX K cl W σ H1 ad1 c m := fun ad' H' y => h ad' H' (x.trans y)
theorem OkF.mono {D : Ends} (x : Ext K H ad H1 ad1) {f : Fl} {r : Env} {m : Mem} (h : OkF K H ad D f r m) : OkF K H1 ad1 D f r m := fun ad' H' σ' y => h ad' H' σ' (x.trans y)
theorem Fin.mono {α : Type} {P P' : α → Mem → Prop} (x : Ext K H ad H1 ad1) (hp : ∀ a m, P a m → P' a m) {r : Res α} (h : Fin K cl W σ H ad P r) : Fin K cl W σ H1 ad1 P' r := by
  cases r with
  | ok a m => exact hp a m h
  | exc c m => exact OkX.mono x h
  | bad => exact h
theorem FinS.mono {D : Ends} (x : Ext K H ad H1 ad1) {r : SRes} (h : FinS K cl W H ad D r) : FinS K cl W H1 ad1 D r := by
  cases r with
  | ok f r m => exact OkF.mono x h
  | exc c r m => exact fun ad' H' σ' y => h ad' H' σ' (x.trans y)
  | bad => exact h
/-- behind one expression: the rest -/
theorem fin_bind {α β : Type} {r : Res α} {g : α → Mem → Res β} {P : β → Mem → Prop} (h : Fin K cl W σ H ad P (r.bind g)) : Fin K cl W σ H ad (fun a m => Fin K cl W σ H ad P (g a m)) r := by
  cases r with
  | ok a m => exact h
  | exc c m => exact h
  | bad => exact h
theorem Fin.imp {α : Type} {P P' : α → Mem → Prop} {r : Res α} (h : Fin K cl W σ H ad P r) (i : ∀ a m, P a m → P' a m) : Fin K cl W σ H ad P' r := Fin.mono Ext.refl i h
end
end Mi

end

section
set_option Elab.async false
set_option linter.all false
set_option maxRecDepth 100000
set_option maxHeartbeats 4000000
namespace Mi
open PySem PySem.Spec L2
open PyProof.Rows hiding St

/-! ## operations on data, without exceptions -/
abbrev G1 := D → Mem → Option (D × Mem)
abbrev G2 := D → D → Mem → Option (D × Mem)
abbrev GN := List D → Mem → Option (D × Mem)
def lft (o : Option (D × Mem)) : Res D := match o with
  | some (d, m) => .ok d m
  | none => .bad
def op1 (f : FE) (g : G1) : FE := fun r m => (f r m).bind fun x m1 => lft (g x m1)
def op2 (fa fb : FE) (g : G2) : FE := fun r m => (fa r m).bind fun x m1 => (fb r m1).bind fun y m2 => lft (g x y m2)
def opN (fa : FA) (g : GN) : FE := fun r m => (fa r m).bind fun xs m1 => lft (g xs m1)
def nilA : FA := fun _ m => .ok [] m
def consA (f : FE) (g : FA) : FA := fun r m => (f r m).bind fun x m1 => (g r m1).bind fun xs m2 => .ok (x :: xs) m2
def varE (i : Nat) : FE := fun r m => match r[i]? with
  | some (some d) => .ok d m
  | _ => .bad
def cstE (d : D) : FE := fun _ m => .ok d m
def valT (f : FE) : FT := fun r m => (f r m).bind fun d m1 => match d with
  | .bl b => .ok b m1
  | _ => .bad
def notT (f : FT) : FT := fun r m => (f r m).bind fun b m1 => .ok (!b) m1
def andT (f g : FT) : FT := fun r m => (f r m).bind fun b m1 => if b then g r m1 else .ok false m1
def orT (f g : FT) : FT := fun r m => (f r m).bind fun b m1 => if b then .ok true m1 else g r m1
def ifE (c : FT) (f g : FE) : FE := fun r m => (c r m).bind fun b m1 => if b then f r m1 else g r m1
def andV (f g : FE) : FE := fun r m => (f r m).bind fun d m1 => match d with
  | .bl b => if b then g r m1 else .ok (.bl false) m1
  | _ => .bad
def orV (f g : FE) : FE := fun r m => (f r m).bind fun d m1 => match d with
  | .bl b => if b then .ok (.bl true) m1 else g r m1
  | _ => .bad
def notV (f : FE) : FE := fun r m => (f r m).bind fun d m1 => match d with
  | .bl b => .ok (.bl (!b)) m1
  | _ => .bad

section
variable (K : PySem.W.Frag)
/-- what an operation's reading asks -/
def rD1 (g : G1) : V → Hp → VK → Prop := fun x H Q => ∃ ad m dx, RepM K ad m H ∧ RepD K H ad dx x ∧ ∃ d m', g dx m = some (d, m') ∧ OkQ K H ad Q d m'
def rD2 (g : G2) : R2 := fun x y H Q => ∃ ad m dx dy, RepM K ad m H ∧ RepD K H ad dx x ∧ RepD K H ad dy y ∧ ∃ d m', g dx dy m = some (d, m') ∧ OkQ K H ad Q d m'
def rDN (g : GN) : List V → Hp → VK → Prop := fun xs H Q => ∃ ad m ds, RepM K ad m H ∧ RepL K H ad ds xs ∧ ∃ d m', g ds m = some (d, m') ∧ OkQ K H ad Q d m'
end
section
variable {K : PySem.W.Frag} {cl : String → Addr} {W : WX} {σ : St} {H : Hp} {ad : List Addr} {m : Mem}
theorem fin_lft {P : D → Mem → Prop} {o : Option (D × Mem)} (h : Fin K cl W σ H ad P (lft o)) : ∃ d m', o = some (d, m') ∧ P d m' := by
  cases o with
  | none => exact h.elim
  | some p => exact ⟨p.1, p.2, rfl, h⟩
/-- behind one expression, at its end -/
theorem fin_go {α : Type} {f : FE} {r : Env} {P : α → Mem → Prop} {g : D → Mem → Res α} (re : RepE K H ad r σ) {R : V → Hp → Prop}
    (h : Fin K cl W σ H ad P ((f r m).bind g))
    (k : ∀ ad1 H1 m1 x v, Ext K H ad H1 ad1 → RepM K ad1 m1 H1 → RepE K H1 ad1 r σ → RepD K H1 ad1 x v → Fin K cl W σ H ad P (g x m1) → R v H1) :
    Fin K cl W σ H ad (OkQ K H ad R) (f r m) :=
  (fin_bind h).imp fun x m1 h1 ad1 H1 v x1 rm rd => k ad1 H1 m1 x v x1 rm (RepE.mono x1 re) rd h1
theorem tE_go {α : Type} {f : FE} {r : Env} {P : α → Mem → Prop} {g : D → Mem → Res α} (rm : RepM K ad m H) (re : RepE K H ad r σ) {R : V → Hp → Prop}
    (h : Fin K cl W σ H ad P ((f r m).bind g))
    (k : ∀ ad1 H1 m1 x v, Ext K H ad H1 ad1 → RepM K ad1 m1 H1 → RepE K H1 ad1 r σ → RepD K H1 ad1 x v → Fin K cl W σ H ad P (g x m1) → R v H1) :
    tE K cl W f σ H R := ⟨ad, r, m, rm, re, fin_go re h k⟩
theorem tT_go {α : Type} {f : FT} {r : Env} {P : α → Mem → Prop} {g : Bool → Mem → Res α} (rm : RepM K ad m H) (re : RepE K H ad r σ) {R : Bool → Hp → Prop}
    (h : Fin K cl W σ H ad P ((f r m).bind g))
    (k : ∀ ad1 H1 m1 b, Ext K H ad H1 ad1 → RepM K ad1 m1 H1 → RepE K H1 ad1 r σ → Fin K cl W σ H ad P (g b m1) → R b H1) :
    tT K cl W f σ H R := ⟨ad, r, m, rm, re, (fin_bind h).imp fun b m1 h1 ad1 H1 x1 rm => k ad1 H1 m1 b x1 rm (RepE.mono x1 re) h1⟩
theorem tA_go {α : Type} {f : FA} {r : Env} {P : α → Mem → Prop} {g : List D → Mem → Res α} (rm : RepM K ad m H) (re : RepE K H ad r σ) {R : List V → Hp → Prop}
    (h : Fin K cl W σ H ad P ((f r m).bind g))
    (k : ∀ ad1 H1 m1 x v, Ext K H ad H1 ad1 → RepM K ad1 m1 H1 → RepE K H1 ad1 r σ → RepL K H1 ad1 x v → Fin K cl W σ H ad P (g x m1) → R v H1) :
    tA K cl W f σ H R := ⟨ad, r, m, rm, re, (fin_bind h).imp fun x m1 h1 ad1 H1 v x1 rm rd => k ad1 H1 m1 x v x1 rm (RepE.mono x1 re) rd h1⟩
theorem tE_one {f : FE} {g : G1} {Q : VK} (h : tE K cl W (op1 f g) σ H Q) : tE K cl W f σ H fun x H1 => rD1 K g x H1 Q := by
  obtain ⟨ad, r, m, rm, re, h⟩ := h
  refine tE_go rm re h fun ad1 H1 m1 x v x1 rm1 re1 rd h1 => ?_
  obtain ⟨d, m', e, q⟩ := fin_lft h1
  exact ⟨ad1, m1, x, rm1, rd, d, m', e, OkQ.mono x1 q⟩
theorem tE_two {fa fb : FE} {g : G2} {Q : VK} (h : tE K cl W (op2 fa fb g) σ H Q) : tE K cl W fa σ H fun x H1 => tE K cl W fb σ H1 fun y H2 => rD2 K g x y H2 Q := by
  obtain ⟨ad, r, m, rm, re, h⟩ := h
  refine tE_go rm re h fun ad1 H1 m1 x v x1 rm1 re1 rd h1 => ?_
  refine tE_go rm1 re1 (Fin.mono x1 (fun _ _ q => OkQ.mono x1 q) h1) fun ad2 H2 m2 y u x2 rm2 re2 rd2 h2 => ?_
  obtain ⟨d, m', e, q⟩ := fin_lft h2
  exact ⟨ad2, m2, x, y, rm2, RepD.mono x2 x v rd, rd2, d, m', e, OkQ.mono x2 q⟩
theorem tA_N {fa : FA} {g : GN} {Q : VK} (h : tE K cl W (opN fa g) σ H Q) : tA K cl W fa σ H fun xs H1 => rDN K g xs H1 Q := by
  obtain ⟨ad, r, m, rm, re, h⟩ := h
  refine tA_go rm re h fun ad1 H1 m1 x v x1 rm1 re1 rd h1 => ?_
  obtain ⟨d, m', e, q⟩ := fin_lft h1
  exact ⟨ad1, m1, x, rm1, rd, d, m', e, OkQ.mono x1 q⟩
end

section
variable {X : Cx} {cl : String → Addr} {W : WX} {a b c e : Expr} {es : List Expr} {fa fb : FE} {fs : FA} {pos : Pos}

/-! ## names, constants, arguments -/
theorem dvar (i : Nat) {x : Str} (hN : X.N[i]? = some x := by rfl) (hv : Vis X.env.scope x := by first | exact Or.inl rfl | exact Or.inr (Or.inl rfl) | exact Or.inr (Or.inr rfl)) (hd : (x == ("__debug__" : Str)) = false := by decide)
    (hcd : (x == ("__classdict__" : Str)) = false := by decide) : DE X cl W (.Name x pos) (varE i) := by
  refine PE.imp (pe_var hN hv hd hcd) fun σ H Q h => ?_
  obtain ⟨ad, r, m, rm, re, h⟩ := h
  unfold varE at h
  split at h
  · rename_i d e
    obtain ⟨v, e1, e2⟩ := re.2 i d e
    exact ⟨v, e1, h ad H v Ext.refl rm e2⟩
  · exact h.elim
theorem dcst {d : D} {v : V} (he : PE X e (tC v)) (r : ∀ H ad, RepD X.K H ad d v) : DE X cl W e (cstE d) := by
  refine PE.imp he fun σ H Q h => ?_
  obtain ⟨ad, r', m, rm, re, h⟩ := h
  exact h ad H v Ext.refl rm (r _ _)
theorem dint {i : Int} {j pos} : DE X cl W (.Constant (.int i) j pos) (cstE (.int i)) := dcst pe_int fun _ _ => rfl
theorem dbl {b : Bool} {j pos} : DE X cl W (.Constant (.bool b) j pos) (cstE (.bl b)) := dcst pe_bl fun _ _ => rfl
theorem dnon {j pos} : DE X cl W (.Constant .none j pos) (cstE .non) := dcst pe_non fun _ _ => rfl
theorem dstr {x : Str} {j pos} : DE X cl W (.Constant (.str x) j pos) (cstE (.str x)) := dcst pe_str fun _ _ => rfl
theorem dnil : DA X cl W [] nilA := by
  refine PA.imp pa_nil fun σ H Q h => ?_
  obtain ⟨ad, r, m, rm, re, h⟩ := h
  exact h ad H [] Ext.refl rm rfl
theorem dcons (ha : DE X cl W e fa) (hr : DA X cl W es fs) (hs : starEach (e :: es) X.env = (false, eval e X.env) :: starEach es X.env := by rfl) : DA X cl W (e :: es) (consA fa fs) := by
  refine PA.imp (pa_cons ha hr hs) fun σ H Q h => ?_
  obtain ⟨ad, r, m, rm, re, h⟩ := h
  refine tE_go rm re h fun ad1 H1 m1 x v x1 rm1 re1 rd h1 => ?_
  refine tA_go rm1 re1 (Fin.mono x1 (fun _ _ q => OkL.mono x1 q) h1) fun ad2 H2 m2 y u x2 rm2 re2 rd2 h2 => ?_
  exact h2 ad2 H2 (v :: u) x2 rm2 ⟨v, u, rfl, RepD.mono x2 x v rd, rd2⟩

/-! ## operators by their rules -/
theorem dop {op : Operator} {g : G2} (ho : OpR X (binaryOp op) (rD2 X.K g)) (ha : DE X cl W a fa) (hb : DE X cl W b fb) : DE X cl W (.BinOp a op b pos) (op2 fa fb g) := PE.imp (pe_op ho ha hb) fun _ _ _ h => tE_two h
theorem dun {op : UnaryOp} {g : G1} (ho : UnR X (unaryOp op) (rD1 X.K g)) (ha : DE X cl W a fa) : DE X cl W (.UnaryOp op a pos) (op1 fa g) := PE.imp (pe_un ho ha) fun _ _ _ h => tE_one h
theorem dcmp {op : CmpOp} {g : G2} (ho : OpR X (compareOp op) (rD2 X.K g)) (ha : DE X cl W a fa) (hb : DE X cl W b fb) (hm : behindInMarks op b = false := by first | exact nomark _ | rfl) : DE X cl W (.Compare a [op] [b] pos) (op2 fa fb g) :=
  PE.imp (pe_cmpR ho ha hb hm) fun _ _ _ h => tE_two h
theorem tT_val {K : PySem.W.Frag} {σ : St} {H : Hp} {f : FE} {Q : Bool → Hp → Prop} (h : tT K cl W (valT f) σ H Q) : tE K cl W f σ H fun x H' => ∃ k, x = .bl k ∧ Q k H' := by
  obtain ⟨ad, r, m, rm, re, h⟩ := h
  refine tE_go rm re h fun ad1 H1 m1 x v x1 rm1 re1 rd h1 => ?_
  cases x with
  | bl k =>
    cases (show v = .bl k from rd)
    exact ⟨k, rfl, h1 ad1 H1 x1 rm1⟩
  | _ => exact h1.elim
theorem dtcmp {op : CmpOp} {g : G2} (ho : OpR X (compareOp op) (rD2 X.K g)) (ha : DE X cl W a fa) (hb : DE X cl W b fb) (hm : behindInMarks op b = false := by first | exact nomark _ | rfl) : DT X cl W (.Compare a [op] [b] pos) (valT (op2 fa fb g)) :=
  PT.imp (pt_cmpR ho ha hb hm) fun σ H Q h => by
    obtain ⟨ad, r, m, rm, re, h⟩ := h
    have h' : tE X.K cl W (op2 fa fb g) σ H fun x H' => ∃ k, x = .bl k ∧ Q k H' := tT_val ⟨ad, r, m, rm, re, h⟩
    exact tE_two h'
/-- an expression whose value is True or False, as a test -/
theorem dtval (h : DE X cl W e fa) (he : ∀ whole, isTrue e X.env whole = (do let v ← whole; standAt e.pos; holding [v] (truthy v)) := by intro _; rfl) : DT X cl W e (valT fa) := PT.imp (pt_val h he) fun _ _ _ h => tT_val h
theorem dtnot {f : FT} (h : DT X cl W a f) : DT X cl W (.UnaryOp .Not a pos) (notT f) := PT.imp (pt_not h) fun σ H Q h => by
  obtain ⟨ad, r, m, rm, re, h⟩ := h
  exact tT_go rm re h fun ad1 H1 m1 b x1 rm1 re1 h1 => h1 ad1 H1 x1 rm1
abbrev DW (X : Cx) (cl : String → Addr) (W : WX) (e : Expr) (f : FT) : Prop := PW X e (tT X.K cl W f)
theorem PW.imp {e : Expr} {t t' : TT} (h : PW X e t) (i : ∀ σ H Q, t' σ H Q → t σ H Q) : PW X e t' := ⟨fun wh pins s σ H Q I q => h.run wh pins s σ H Q I (i _ _ _ q)⟩
theorem dwand1 {f : FT} (h : DT X cl W a f) : DW X cl W (.BoolOp .And [a] pos) f := pw_and1 h
theorem dwor1 {f : FT} (h : DT X cl W a f) : DW X cl W (.BoolOp .Or [a] pos) f := pw_or1 h
theorem dwand {f g : FT} {rest : List Expr} (ha : DT X cl W a f) (hb : DW X cl W (.BoolOp .And (b :: rest) pos) g) : DW X cl W (.BoolOp .And (a :: b :: rest) pos) (andT f g) := PW.imp (pw_and ha hb) fun σ H Q h => by
  obtain ⟨ad, r, m, rm, re, h⟩ := h
  refine tT_go rm re h fun ad1 H1 m1 b x1 rm1 re1 h1 => ?_
  cases b with
  | true => exact iteT ⟨ad1, r, m1, rm1, re1, Fin.mono x1 (fun _ _ q => OkB.mono x1 q) h1⟩
  | false => exact iteF (h1 ad1 H1 x1 rm1)
theorem dwor {f g : FT} {rest : List Expr} (ha : DT X cl W a f) (hb : DW X cl W (.BoolOp .Or (b :: rest) pos) g) : DW X cl W (.BoolOp .Or (a :: b :: rest) pos) (orT f g) := PW.imp (pw_or ha hb) fun σ H Q h => by
  obtain ⟨ad, r, m, rm, re, h⟩ := h
  refine tT_go rm re h fun ad1 H1 m1 b x1 rm1 re1 h1 => ?_
  cases b with
  | true => exact iteT (h1 ad1 H1 x1 rm1)
  | false => exact iteF ⟨ad1, r, m1, rm1, re1, Fin.mono x1 (fun _ _ q => OkB.mono x1 q) h1⟩
theorem dtw {f : FT} (h : DW X cl W e f) : DT X cl W e f := PW.pt h
/-- and, or, not as values (True, False) -/
theorem dvone {op} (h : DE X cl W a fa) : DE X cl W (.BoolOp op [a] pos) fa := pe_one h
theorem dvand {rest : List Expr} (ha : DE X cl W a fa) (hb : DE X cl W (.BoolOp .And (b :: rest) pos) fb) : DE X cl W (.BoolOp .And (a :: b :: rest) pos) (andV fa fb) := PE.imp (pe_and ha hb) fun σ H Q h => by
  obtain ⟨ad, r, m, rm, re, h⟩ := h
  refine tE_go rm re h fun ad1 H1 m1 x v x1 rm1 re1 rd h1 => ?_
  cases x with
  | bl k =>
    cases (show v = .bl k from rd)
    refine ⟨k, rfl, ?_⟩
    cases k with
    | true => exact iteT ⟨ad1, r, m1, rm1, re1, Fin.mono x1 (fun _ _ q => OkQ.mono x1 q) h1⟩
    | false => exact iteF (h1 ad1 H1 _ x1 rm1 rfl)
  | _ => exact h1.elim
theorem dvor {rest : List Expr} (ha : DE X cl W a fa) (hb : DE X cl W (.BoolOp .Or (b :: rest) pos) fb) : DE X cl W (.BoolOp .Or (a :: b :: rest) pos) (orV fa fb) := PE.imp (pe_or ha hb) fun σ H Q h => by
  obtain ⟨ad, r, m, rm, re, h⟩ := h
  refine tE_go rm re h fun ad1 H1 m1 x v x1 rm1 re1 rd h1 => ?_
  cases x with
  | bl k =>
    cases (show v = .bl k from rd)
    refine ⟨k, rfl, ?_⟩
    cases k with
    | true => exact iteT (h1 ad1 H1 _ x1 rm1 rfl)
    | false => exact iteF ⟨ad1, r, m1, rm1, re1, Fin.mono x1 (fun _ _ q => OkQ.mono x1 q) h1⟩
  | _ => exact h1.elim
theorem dvnot (h : DE X cl W a fa) : DE X cl W (.UnaryOp .Not a pos) (notV fa) := PE.imp (pe_not h) fun σ H Q h => by
  obtain ⟨ad, r, m, rm, re, h⟩ := h
  refine tE_go rm re h fun ad1 H1 m1 x v x1 rm1 re1 rd h1 => ?_
  cases x with
  | bl k =>
    cases (show v = .bl k from rd)
    exact ⟨k, rfl, h1 ad1 H1 _ x1 rm1 rfl⟩
  | _ => exact h1.elim
theorem dife {f : FT} (hc : DT X cl W c f) (ha : DE X cl W a fa) (hb : DE X cl W b fb) : DE X cl W (.IfExp c a b pos) (ifE f fa fb) := PE.imp (pe_ifExp hc ha hb) fun σ H Q h => by
  obtain ⟨ad, r, m, rm, re, h⟩ := h
  refine tT_go rm re h fun ad1 H1 m1 b x1 rm1 re1 h1 => ?_
  cases b with
  | true => exact iteT ⟨ad1, r, m1, rm1, re1, Fin.mono x1 (fun _ _ q => OkQ.mono x1 q) h1⟩
  | false => exact iteF ⟨ad1, r, m1, rm1, re1, Fin.mono x1 (fun _ _ q => OkQ.mono x1 q) h1⟩

/-! ## ints -/
def int2 (g : Int → Int → D) (c : Int → Int → Bool) : G2 := fun x y m => match x, y with
  | .int i, .int j => if c i j = true then some (g i j, m) else none
  | _, _ => none
theorem rD2_int {K : PySem.W.Frag} {g : Int → Int → D} {c : Int → Int → Bool} {x y : V} {H : Hp} {Q : VK} (h : rD2 K (int2 g c) x y H Q) (gv : Int → Int → V) (hg : ∀ i j H ad, RepD K H ad (g i j) (gv i j)) :
    ∃ i j, x = .int i ∧ y = .int j ∧ c i j = true ∧ Q (gv i j) H := by
  obtain ⟨ad, m, dx, dy, rm, rx, ry, d, m', e, q⟩ := h
  unfold int2 at e
  split at e
  · rename_i i j
    split at e
    · cases e
      exact ⟨i, j, rx, ry, by assumption, q ad H _ Ext.refl rm (hg i j H ad)⟩
    · cases e
  · cases e
theorem oimp {f : Value → Value → Sem Value} {r r' : R2} (h : OpR X f r) (i : ∀ x y H Q, r' x y H Q → r x y H Q) : OpR X f r' := fun pins s σ H x y v u Q I rx ry q => h pins s σ H x y v u Q I rx ry (i _ _ _ _ q)
abbrev cmul (i j : Int) : Bool := decide (i.natAbs.log2 + j.natAbs.log2 < 1000000)
abbrev cdiv (i j : Int) : Bool := decide (j ≠ 0) && !Builtin.divisionGoesByPylong i j
abbrev cmod (_ j : Int) : Bool := decide (j ≠ 0)
abbrev cpow (i j : Int) : Bool := decide (0 ≤ j ∧ j ≤ 1000000 ∧ i.natAbs < 2 ^ 64)
def subG : G2 := int2 (fun i j => .int (i - j)) fun _ _ => true
def mulG : G2 := int2 (fun i j => .int (i * j)) cmul
def fdivG : G2 := int2 (fun i j => .int (i.fdiv j)) cdiv
def modG : G2 := int2 (fun i j => .int (i.fmod j)) cmod
def powG : G2 := int2 (fun i j => .int (i ^ j.toNat)) cpow
theorem o_sub : OpR X (binaryOp .Sub) (rD2 X.K subG) := oimp op_sub fun x y H Q h => by
  obtain ⟨i, j, e1, e2, _, q⟩ := rD2_int h (fun i j => .int (i - j)) fun _ _ _ _ => rfl
  exact ⟨i, j, e1, e2, q⟩
theorem o_mul : OpR X (binaryOp .Mult) (rD2 X.K mulG) := oimp op_mulW fun x y H Q h => by
  obtain ⟨i, j, e1, e2, hc, q⟩ := rD2_int h (fun i j => .int (i * j)) fun _ _ _ _ => rfl
  exact ⟨i, j, e1, e2, of_decide_eq_true (p := i.natAbs.log2 + j.natAbs.log2 < 1000000) hc, q⟩
theorem op_fdivA : OpR X (binaryOp .FloorDiv) (rI (fun i j => j ≠ 0 ∧ Builtin.divisionGoesByPylong i j = false) fun i j => .int (i.fdiv j)) := opI fun i j _ _ _ _ _ hc q => floordiv_int hc.1 q (.inl hc.2)
theorem o_fdiv : OpR X (binaryOp .FloorDiv) (rD2 X.K fdivG) := oimp op_fdivA fun x y H Q h => by
  obtain ⟨i, j, e1, e2, hc, q⟩ := rD2_int h (fun i j => .int (i.fdiv j)) fun _ _ _ _ => rfl
  simp only [cdiv, Bool.and_eq_true, decide_eq_true_eq, Bool.not_eq_true'] at hc
  exact ⟨i, j, e1, e2, hc, q⟩
theorem o_mod : OpR X (binaryOp .Mod) (rD2 X.K modG) := oimp op_modN fun x y H Q h => by
  obtain ⟨i, j, e1, e2, hc, q⟩ := rD2_int h (fun i j => .int (i.fmod j)) fun _ _ _ _ => rfl
  exact ⟨i, j, e1, e2, of_decide_eq_true (p := j ≠ 0) hc, q⟩
theorem o_pow : OpR X (binaryOp .Pow) (rD2 X.K powG) := oimp op_pow fun x y H Q h => by
  obtain ⟨i, j, e1, e2, hc, q⟩ := rD2_int h (fun i j => .int (i ^ j.toNat)) fun _ _ _ _ => rfl
  exact ⟨i, j, e1, e2, of_decide_eq_true (p := 0 ≤ j ∧ j ≤ 1000000 ∧ i.natAbs < 2 ^ 64) hc, q⟩
def negG : G1 := fun x m => match x with
  | .int i => some (.int (-i), m)
  | _ => none
theorem o_neg : UnR X (unaryOp .USub) (rD1 X.K negG) := fun pins s σ H x v Q I rx h => by
  obtain ⟨ad, m, dx, rm, rd, d, m', e, q⟩ := h
  cases dx with
  | int i =>
    cases e
    exact un_neg pins s σ H x v Q I rx ⟨i, rd, q ad H _ Ext.refl rm rfl⟩
  | _ => cases e

/-! ## calls of built-ins by values -/
def cimp {f : Value} {r r' : List V → Hp → VK → Prop} (h : CallR X f r) (i : ∀ xs H Q, r' xs H Q → r xs H Q) : CallR X f r' := fun pins s σ H xs us Q I rx q => h pins s σ H xs us Q I rx (i _ _ _ q)
theorem dcallB {id : String} {x : Str} {p : Pos} {g : GN} (hc : CallR X (.builtin id) (rDN X.K g)) (hg : Gl X x) (hm : X.mg x = none) (hv : bootBuiltins x = some (.builtin id)) (ha : DA X cl W (e :: es) fs) (hn : x ≠ "__name__" := by decide) (hdb : (x == ("__debug__" : Str)) = false := by decide)
    (he : starEach (e :: es) X.env = (false, eval e X.env) :: starEach es X.env := by rfl) (hpl : (backTo pos (starEach es X.env)).any (·.1) = false := by rfl) :
    DE X cl W (.Call (.Name x p) (e :: es) [] pos) (opN fs g) := PE.imp (pe_callB hc hg hm hv ha hn hdb he hpl) fun _ _ _ h => tA_N h
theorem dcallTy {T : String} {x : Str} {p : Pos} {g : GN} (hc : CallR X (.type T) (rDN X.K g)) (hg : Gl X x) (hm : X.mg x = none) (hv : bootBuiltins x = some (.type T)) (ha : DA X cl W (e :: es) fs) (hn : x ≠ "__name__" := by decide) (hdb : (x == ("__debug__" : Str)) = false := by decide)
    (he : starEach (e :: es) X.env = (false, eval e X.env) :: starEach es X.env := by rfl) (hpl : (backTo pos (starEach es X.env)).any (·.1) = false := by rfl) :
    DE X cl W (.Call (.Name x p) (e :: es) [] pos) (opN fs g) := PE.imp (pe_callTy hc hg hm hv ha hn hdb he hpl) fun _ _ _ h => tA_N h
end
end Mi

end

section
set_option Elab.async false
set_option linter.all false
set_option maxRecDepth 100000
set_option maxHeartbeats 4000000
namespace Mi
open PySem PySem.Spec L2
open PyProof.Rows hiding St

/-! ## data as a whole -/
mutual
def D.pd : D → PyData
  | .non => .none
  | .bl b => .bool b
  | .int i => .int i
  | .str s => .str s
  | .tup ds => .tuple (D.pdL ds)
  | .ref _ => .dict []
  | .exn _ => .dict []
def D.pdL : List D → List PyData
  | [] => []
  | d :: ds => d.pd :: D.pdL ds
end
def itemsOf (m : Mem) (n : Nat) : Option (List D) := match m[n]? with
  | some (.lst ds) => some ds
  | some (.con ds) => some ds
  | _ => none
def pdM (m : Mem) : D → PyData
  | .ref n => match itemsOf m n with
    | some ds => .list (D.pdL ds)
    | none => .dict []
  | d => d.pd
section
variable {K : PySem.W.Frag} {H : Hp} {ad : List Addr} {m : Mem}
mutual
theorem RepD.dp : ∀ (d : D) (v : V), RepD K H ad d v → PyData.canLay0 d.pd = true → Dp K H v d.pd
  | .non, _, h, _ => by cases h; exact .non
  | .bl b, _, h, _ => by cases h; exact .bl b
  | .int i, _, h, _ => by cases h; exact .int i
  | .str x, _, h, _ => by cases h; exact .str x
  | .tup ds, _, h, c => by
    obtain ⟨a, vs, rfl, t, r⟩ := h
    rw [D.pd] at c ⊢
    rw [PyData.canLay0] at c
    exact .tup t (RepL.dp ds vs r c)
  | .ref n, _, _, c => by
    rw [D.pd, PyData.canLay0] at c
    exact absurd c (by decide)
  | .exn n, _, _, c => by
    rw [D.pd, PyData.canLay0] at c
    exact absurd c (by decide)
theorem RepL.dp : ∀ (ds : List D) (vs : List V), RepL K H ad ds vs → PyData.canLayAll0 (D.pdL ds) = true → DpAll K H vs (D.pdL ds)
  | [], _, h, _ => by cases h; exact .nil
  | d :: ds, _, h, c => by
    obtain ⟨v, r, rfl, h1, h2⟩ := h
    rw [D.pdL] at c ⊢
    rw [PyData.canLayAll0, Bool.and_eq_true] at c
    exact .cons (RepD.dp d v h1 c.1) (RepL.dp ds r h2 c.2)
end
theorem RepM.items (h : RepM K ad m H) {n : Nat} {a : Addr} {ds : List D} (ea : ad[n]? = some a) (e : itemsOf m n = some ds) : ∃ vs, SqL K H a vs ∧ RepL K H ad ds vs ∧ (TyX K H (.ref a) (.type "list")) := by
  unfold itemsOf at e
  split at e
  · rename_i ds' e'
    cases e
    obtain ⟨vs, h1, r⟩ := h.obj n _ a e' ea
    exact ⟨vs, .of h1, r, .base (.lst h1)⟩
  · rename_i ds' e'
    cases e
    obtain ⟨vs, ⟨ob, h1⟩ | h1, r⟩ := h.obj n _ a e' ea
    · exact ⟨vs, .inl (.inr ⟨ob, h1⟩), r, .base (.frz h1)⟩
    · exact ⟨vs, .inr h1, r, by obtain ⟨o, its, k, q1, q2, _⟩ := h1; exact .kList q1 q2⟩
  · cases e
theorem RepD.dpM (rm : RepM K ad m H) {d : D} {v : V} (h : RepD K H ad d v) (c : PyData.canLay0 (pdM m d) = true) : Dp K H v (pdM m d) := by
  cases d with
  | ref n =>
    obtain ⟨a, rfl, ea⟩ := h
    cases e : itemsOf m n with
    | none => simp [pdM, e, PyData.canLay0] at c
    | some ds =>
      have e1 : pdM m (.ref n) = .list (D.pdL ds) := by simp [pdM, e]
      rw [e1] at c ⊢
      rw [PyData.canLay0] at c
      obtain ⟨vs, h1, h2, _⟩ := rm.items ea e
      exact .lst h1 (RepL.dp ds vs h2 c)
  | _ => exact RepD.dp _ v h c
end
def eqG : G2 := fun x y m => if (SeqAt.shaped (pdM m x) && SeqAt.shaped (pdM m y)) = true then some (.bl (PyData.eqv (pdM m x) (pdM m y)), m) else none
def neG : G2 := fun x y m => if (SeqAt.shaped (pdM m x) && SeqAt.shaped (pdM m y)) = true then some (.bl (!PyData.eqv (pdM m x) (pdM m y)), m) else none
def ofI (o : Option D) (m : Mem) : Option (D × Mem) := o.map fun d => (d, m)
def idxG : G2 := fun x y m => match x, y with
  | .tup xs, .int i => ofI (atI xs i) m
  | .ref n, .int i => match itemsOf m n with
    | some xs => ofI (atI xs i) m
    | none => none
  | .str z, .int i => if z.length ≤ sizeLine then ofI ((atI z.cps.toList i).map fun c => .str ⟨#[c]⟩) m else none
  | _, _ => none
def addG : G2 := fun x y m => match x, y with
  | .int i, .int j => some (.int (i + j), m)
  | .str a, .str b => if a.length + b.length ≤ sizeLine then some (.str (a ++ b), m) else none
  | .tup xs, .tup ys => if xs.length + ys.length ≤ sizeLine then some (.tup (xs ++ ys), m) else none
  | .ref n, .ref k => match m[n]?, m[k]? with
    | some (.lst xs), some (.lst ys) => if xs.length + ys.length ≤ sizeLine then some (.ref m.length, m ++ [.lst (xs ++ ys)]) else none
    | _, _ => none
  | _, _ => none
def lenG : GN := fun xs m => match xs with
  | [.tup ys] => some (.int ys.length, m)
  | [.ref n] => (itemsOf m n).map fun ys => (.int ys.length, m)
  | [.str z] => if z.length ≤ sizeLine then some (.int z.length, m) else none
  | _ => none
def intG : GN := fun xs m => match xs with
  | [.int i] => some (.int i, m)
  | [.bl k] => some (.int (if k then 1 else 0), m)
  | _ => none
def absG : GN := fun xs m => match xs with
  | [.int i] => some (.int (if i < 0 then -i else i), m)
  | _ => none
def gcdG : GN := fun xs m => match xs with
  | [.int a, .int b] => some (.int ((Nat.gcd a.natAbs b.natAbs : Nat) : Int), m)
  | _ => none
def listG : GN := fun xs m => match xs with
  | [.tup ys] => some (.ref m.length, m ++ [.lst ys])
  | [.ref n] => (itemsOf m n).map fun ys => (.ref m.length, m ++ [.lst ys])
  | _ => none
def tupleG : GN := fun xs m => match xs with
  | [.tup ys] => some (.tup ys, m)
  | [.ref n] => (itemsOf m n).map fun ys => (.tup ys, m)
  | _ => none
def tupD : GN := fun xs m => if xs.length ≤ sizeLine then some (.tup xs, m) else none
def lstD : GN := fun xs m => if xs.length ≤ sizeLine then some (.ref m.length, m ++ [.lst xs]) else none
def tyN (m : Mem) : D → Option String
  | .non => some "NoneType"
  | .bl _ => some "bool"
  | .int _ => some "int"
  | .str _ => some "str"
  | .tup _ => some "tuple"
  | .ref n => (itemsOf m n).map fun _ => "list"
  | .exn _ => none
def isiG (T : String) : G1 := fun x m => match tyN m x with
  | some t => (kitB t T).map fun b => (.bl b, m)
  | none => none

section
variable {X : Cx}
theorem o_eq (hu : X.A.units + 64 < cLine) : OpR X (compareOp .Eq) (rD2 X.K eqG) := oimp (op_eqD hu) fun x y H Q h => by
  obtain ⟨ad, m, dx, dy, rm, rx, ry, d, m', e, q⟩ := h
  unfold eqG at e
  split at e
  · rename_i hc
    rw [Bool.and_eq_true] at hc
    cases e
    exact ⟨_, _, rx.dpM rm (SeqAt.canLay_of_shaped hc.1), ry.dpM rm (SeqAt.canLay_of_shaped hc.2), hc.1, hc.2, q ad H _ Ext.refl rm rfl⟩
  · cases e
theorem o_ne (hu : X.A.units + 64 < cLine) : OpR X (compareOp .NotEq) (rD2 X.K neG) := oimp (op_neD hu) fun x y H Q h => by
  obtain ⟨ad, m, dx, dy, rm, rx, ry, d, m', e, q⟩ := h
  unfold neG at e
  split at e
  · rename_i hc
    rw [Bool.and_eq_true] at hc
    cases e
    exact ⟨_, _, rx.dpM rm (SeqAt.canLay_of_shaped hc.1), ry.dpM rm (SeqAt.canLay_of_shaped hc.2), hc.1, hc.2, q ad H _ Ext.refl rm rfl⟩
  · cases e
def cmpI (p : Int → Int → Bool) : G2 := int2 (fun i j => .bl (p i j)) fun _ _ => true
theorem RepL.atI {K : PySem.W.Frag} {H : Hp} {ad : List Addr} {ds : List D} {vs : List V} {i : Int} {d : D} (r : RepL K H ad ds vs) (e : L2.atI ds i = some d) : ∃ v, L2.atI vs i = some v ∧ RepD K H ad d v := by
  unfold L2.atI at e ⊢
  rw [← r.length]
  cases q : ixN ds.length i with
  | none => rw [q] at e; cases e
  | some j =>
    rw [q] at e
    exact r.get e
theorem i_ix : IxR X (rD2 X.K idxG) := by
  intro value slice pins s σ H x y v u Q I rx ry h hs
  obtain ⟨ad, m, dx, dy, rm, qx, qy, d, m', e, q⟩ := h
  refine ix_seq value slice pins s σ H x y v u Q I rx ry ?_ hs
  unfold idxG at e
  split at e
  · rename_i xs i
    cases q' : atI xs i with
    | none => rw [q'] at e; cases e
    | some z =>
      rw [q'] at e
      cases e
      obtain ⟨a, vs, rfl, t, r⟩ := qx
      obtain ⟨w, e1, e2⟩ := RepL.atI r q'
      exact .inr (.inl ⟨a, vs, i, w, rfl, qy, t, e1, q ad H w Ext.refl rm e2⟩)
  · rename_i n i
    split at e
    · rename_i xs ei
      cases q' : atI xs i with
      | none => rw [q'] at e; cases e
      | some z =>
        rw [q'] at e
        cases e
        obtain ⟨a, rfl, ea⟩ := qx
        obtain ⟨vs, t, r, _⟩ := rm.items ea ei
        obtain ⟨w, e1, e2⟩ := RepL.atI r q'
        exact .inl ⟨a, vs, i, w, rfl, qy, t, e1, q ad H w Ext.refl rm e2⟩
    · cases e
  · rename_i z i
    split at e
    · rename_i hz
      cases q' : atI z.cps.toList i with
      | none => rw [q'] at e; cases e
      | some c =>
        rw [q'] at e
        cases e
        exact .inr (.inr ⟨z, i, c, qx, qy, hz, q', q ad H _ Ext.refl rm rfl⟩)
    · cases e
  · cases e
theorem o_add : OpR X (binaryOp .Add) (rD2 X.K addG) := by
  intro pins s σ H x y v u Q I rx ry h
  obtain ⟨ad, m, dx, dy, rm, qx, qy, d, m', e, q⟩ := h
  unfold addG at e
  split at e
  · rename_i i j
    cases e
    exact op_add pins s σ H x y v u Q I rx ry ⟨i, j, qx, qy, q ad H _ Ext.refl rm rfl⟩
  · rename_i a b
    split at e
    · cases e
      exact op_add_str pins s σ H x y v u Q I rx ry ⟨a, b, qx, qy, by assumption, q ad H _ Ext.refl rm rfl⟩
    · cases e
  · rename_i xs ys
    split at e
    · rename_i hz
      cases e
      obtain ⟨a, vs, rfl, t, r⟩ := qx
      obtain ⟨b, us, rfl, t', r'⟩ := qy
      refine op_catA pins s σ H _ _ v u Q I rx ry ⟨a, b, vs, us, rfl, rfl, t, t', by rw [← r.length, ← r'.length]; exact hz, fun e => ?_, fun _ e => ?_, fun _ _ p hp => ?_⟩
      · subst e
        have e0 : xs = [] := List.length_eq_zero_iff.mp r.length
        subst e0
        exact q ad H _ Ext.refl rm ⟨b, us, rfl, t', r'⟩
      · subst e
        have e0 : ys = [] := List.length_eq_zero_iff.mp r'.length
        subst e0
        rw [List.append_nil] at q
        exact q ad H _ Ext.refl rm ⟨a, vs, rfl, t, r⟩
      · exact q ad _ _ (ext_new hp) (rm.new hp) ⟨p, vs ++ us, rfl, .of upd_same, RepL.mono (ext_new hp) _ _ (r.app r')⟩
    · cases e
  · rename_i n k
    split at e
    · rename_i xs ys e1 e2
      split at e
      · rename_i hz
        cases e
        obtain ⟨a, rfl, ea⟩ := qx
        obtain ⟨b, rfl, eb⟩ := qy
        obtain ⟨vs, h1, r⟩ := rm.obj n _ a e1 ea
        obtain ⟨us, h1', r'⟩ := rm.obj k _ b e2 eb
        refine op_cat pins s σ H _ _ v u Q I rx ry ⟨a, b, vs, us, rfl, rfl, h1, h1', by rw [← r.length, ← r'.length]; exact hz, fun p hp => ?_⟩
        refine q (ad ++ [p]) _ _ (ext_alloc hp) (rm.allocL hp (r.app r')) ⟨p, rfl, ?_⟩
        rw [← rm.len, List.getElem?_append_right (Nat.le_refl _), Nat.sub_self]
        rfl
      · cases e
    · cases e
  · cases e
theorem new_ref {K : PySem.W.Frag} {H : Hp} {ad : List Addr} {m : Mem} (rm : RepM K ad m H) (p : Addr) : RepD K H (ad ++ [p]) (.ref m.length) (.ref p) := by
  refine ⟨p, rfl, ?_⟩
  rw [← rm.len, List.getElem?_append_right (Nat.le_refl _), Nat.sub_self]
  rfl
theorem new_ref' {K : PySem.W.Frag} {H H' : Hp} {ad : List Addr} {m : Mem} (rm : RepM K ad m H) (p : Addr) : RepD K H' (ad ++ [p]) (.ref m.length) (.ref p) := by
  refine ⟨p, rfl, ?_⟩
  rw [← rm.len, List.getElem?_append_right (Nat.le_refl _), Nat.sub_self]
  rfl
theorem repl1 {K : PySem.W.Frag} {H : Hp} {ad : List Addr} {d : D} {vs : List V} (h : RepL K H ad [d] vs) : ∃ v, vs = [v] ∧ RepD K H ad d v := by
  obtain ⟨v, r, rfl, h1, h2⟩ := h
  cases h2
  exact ⟨v, rfl, h1⟩
theorem repl2 {K : PySem.W.Frag} {H : Hp} {ad : List Addr} {d e : D} {vs : List V} (h : RepL K H ad [d, e] vs) : ∃ v u, vs = [v, u] ∧ RepD K H ad d v ∧ RepD K H ad e u := by
  obtain ⟨v, r, rfl, h1, h2⟩ := h
  obtain ⟨u, rfl, h3⟩ := repl1 h2
  exact ⟨v, u, rfl, h1, h3⟩
theorem c_len : CallR X (.builtin "len") (rDN X.K lenG) := cimp call_len fun xs H Q h => by
  obtain ⟨ad, m, ds, rm, r, d, m', e, q⟩ := h
  unfold lenG at e
  split at e
  · rename_i ys
    cases e
    obtain ⟨v, rfl, a, vs, rfl, t, rr⟩ := repl1 r
    refine ⟨_, vs.length, rfl, .inr ⟨vs, t, rfl⟩, ?_⟩
    rw [← rr.length]
    exact q ad H _ Ext.refl rm rfl
  · rename_i n
    cases e' : itemsOf m n with
    | none => rw [e'] at e; cases e
    | some ys =>
      rw [e'] at e
      cases e
      obtain ⟨v, rfl, a, rfl, ea⟩ := repl1 r
      obtain ⟨vs, t, rr, _⟩ := rm.items ea e'
      refine ⟨_, vs.length, rfl, .inl ⟨vs, t, rfl⟩, ?_⟩
      rw [← rr.length]
      exact q ad H _ Ext.refl rm rfl
  · rename_i z
    split at e
    · rename_i hz
      cases e
      obtain ⟨v, rfl, rv⟩ := repl1 r
      cases (show v = .str z from rv)
      exact ⟨_, z.length, rfl, ⟨hz, rfl⟩, q ad H _ Ext.refl rm rfl⟩
    · cases e
  · cases e
theorem c_int : CallR X (.type "int") (rDN X.K intG) := cimp call_int1 fun xs H Q h => by
  obtain ⟨ad, m, ds, rm, r, d, m', e, q⟩ := h
  unfold intG at e
  split at e
  · rename_i i
    cases e
    obtain ⟨v, rfl, rv⟩ := repl1 r
    cases (show v = .int i from rv)
    exact .inl ⟨i, rfl, q ad H _ Ext.refl rm rfl⟩
  · rename_i k
    cases e
    obtain ⟨v, rfl, rv⟩ := repl1 r
    cases (show v = .bl k from rv)
    exact .inr ⟨k, rfl, q ad H _ Ext.refl rm rfl⟩
  · cases e
theorem c_abs : CallR X (.builtin "abs") (rDN X.K absG) := cimp call_abs fun xs H Q h => by
  obtain ⟨ad, m, ds, rm, r, d, m', e, q⟩ := h
  unfold absG at e
  split at e
  · rename_i i
    cases e
    obtain ⟨v, rfl, rv⟩ := repl1 r
    cases (show v = .int i from rv)
    exact ⟨i, rfl, q ad H _ Ext.refl rm rfl⟩
  · cases e
theorem c_gcd : CallR X (.builtin "math.gcd") (rDN X.K gcdG) := cimp cr_gcd fun xs H Q h => by
  obtain ⟨ad, m, ds, rm, r, d, m', e, q⟩ := h
  unfold gcdG at e
  split at e
  · rename_i i j
    cases e
    obtain ⟨v, u, rfl, rv, ru⟩ := repl2 r
    cases (show v = .int i from rv)
    cases (show u = .int j from ru)
    exact ⟨i, j, rfl, q ad H _ Ext.refl rm rfl⟩
  · cases e
theorem c_list : CallR X (.type "list") (rDN X.K listG) := cimp call_list_of fun xs H Q h => by
  obtain ⟨ad, m, ds, rm, r, d, m', e, q⟩ := h
  unfold listG at e
  split at e
  · rename_i ys
    cases e
    obtain ⟨v, rfl, a, vs, rfl, t, rr⟩ := repl1 r
    refine ⟨a, vs, rfl, .inr t, fun l hl => ?_⟩
    exact q (ad ++ [l]) _ _ (ext_alloc hl) (rm.allocL hl rr) (new_ref' rm l)
  · rename_i n
    cases e' : itemsOf m n with
    | none => rw [e'] at e; cases e
    | some ys =>
      rw [e'] at e
      cases e
      obtain ⟨v, rfl, a, rfl, ea⟩ := repl1 r
      obtain ⟨vs, t, rr, _⟩ := rm.items ea e'
      refine ⟨a, vs, rfl, .inl t, fun l hl => ?_⟩
      exact q (ad ++ [l]) _ _ (ext_alloc hl) (rm.allocL hl rr) (new_ref' rm l)
  · cases e
theorem c_tuple : CallR X (.type "tuple") (rDN X.K tupleG) := cimp call_tuple_of fun xs H Q h => by
  obtain ⟨ad, m, ds, rm, r, d, m', e, q⟩ := h
  unfold tupleG at e
  split at e
  · rename_i ys
    cases e
    obtain ⟨v, rfl, a, vs, rfl, t, rr⟩ := repl1 r
    exact ⟨a, vs, rfl, .inr ⟨t, q ad H _ Ext.refl rm ⟨a, vs, rfl, t, rr⟩⟩⟩
  · rename_i n
    cases e' : itemsOf m n with
    | none => rw [e'] at e; cases e
    | some ys =>
      rw [e'] at e
      cases e
      obtain ⟨v, rfl, a, rfl, ea⟩ := repl1 r
      obtain ⟨vs, t, rr, _⟩ := rm.items ea e'
      refine ⟨a, vs, rfl, .inl ⟨t, fun l hl => ?_⟩⟩
      exact q ad _ _ (ext_new hl) (rm.new hl) ⟨l, vs, rfl, .of upd_same, RepL.mono (ext_new hl) _ _ rr⟩
  · cases e
end
section
variable {X : Cx} {cl : String → Addr} {W : WX} {a b c e : Expr} {es : List Expr} {fa fb : FE} {fs : FA} {pos : Pos}
theorem dix (ha : DE X cl W a fa) (hb : DE X cl W b fb) (hs : PlainIx b := by exact fun _ _ => rfl) : DE X cl W (.Subscript a b pos) (op2 fa fb idxG) := PE.imp (pe_ix i_ix ha hb hs) fun _ _ _ h => tE_two h
theorem dtup {x1} (h : DA X cl W es fs) : DE X cl W (.Tuple es x1 pos) (opN fs tupD) := PE.imp (pe_tup h) fun σ H Q h => by
  obtain ⟨ad, r, m, rm, re, h⟩ := h
  refine tA_go rm re h fun ad1 H1 m1 x v x1 rm1 re1 rd h1 => ?_
  obtain ⟨d, m', e, q⟩ := fin_lft h1
  unfold tupD at e
  split at e
  · rename_i hz
    cases e
    refine ⟨by rw [← rd.length]; exact hz, fun p hp => ?_⟩
    exact q ad1 _ _ (x1.trans (ext_new hp)) (rm1.new hp) ⟨p, v, rfl, .of upd_same, RepL.mono (ext_new hp) _ _ rd⟩
  · cases e
theorem dlst (h : DA X cl W es fs) : DE X cl W (.List es pos) (opN fs lstD) := PE.imp (pe_lst h) fun σ H Q h => by
  obtain ⟨ad, r, m, rm, re, h⟩ := h
  refine tA_go rm re h fun ad1 H1 m1 x v x1 rm1 re1 rd h1 => ?_
  obtain ⟨d, m', e, q⟩ := fin_lft h1
  unfold lstD at e
  split at e
  · rename_i hz
    cases e
    refine ⟨by rw [← rd.length]; exact hz, fun p hp => ?_⟩
    exact q (ad1 ++ [p]) _ _ (x1.trans (ext_alloc hp)) (rm1.allocL hp rd) (new_ref' rm1 p)
  · cases e
theorem tyX_of {K : PySem.W.Frag} {H : Hp} {ad : List Addr} {m : Mem} (rm : RepM K ad m H) {d : D} {v : V} (r : RepD K H ad d v) {t : String} (e : tyN m d = some t) : TyX K H v (.type t) := by
  cases d with
  | non => cases e; cases (show v = .non from r); exact .base .non
  | bl b => cases e; cases (show v = .bl b from r); exact .base (.bl b)
  | int b => cases e; cases (show v = .int b from r); exact .base (.int b)
  | str b => cases e; cases (show v = .str b from r); exact .base (.str b)
  | tup ds =>
    cases e
    obtain ⟨a, vs, rfl, (h | ⟨ob, h⟩) | ⟨o, its, n, h1, h2, _⟩, _⟩ := r
    · exact .base (.tup h)
    · exact .fTuple h
    · exact .kTuple h1 h2
  | ref n =>
    cases q : itemsOf m n with
    | none => simp [tyN, q] at e
    | some ds =>
      simp only [tyN, q, Option.map_some, Option.some.injEq] at e
      subst e
      obtain ⟨a, rfl, ea⟩ := r
      obtain ⟨vs, h1, h2, h3⟩ := rm.items ea q
      exact h3
  | exn c => cases e
/-- isinstance(x, T) -/
theorem disi {T : String} {x : Str} {p p2 : Pos} (hg : Gl X "isinstance") (hm : X.mg "isinstance" = none) (hgT : Gl X x) (hmT : X.mg x = none) (hvT : bootBuiltins x = some (.type T)) (ha : DE X cl W a fa)
    (hn : x ≠ "__name__" := by decide) (hdb : (x == ("__debug__" : Str)) = false := by decide)
    (he1 : starEach [a, .Name x p2] X.env = (false, eval a X.env) :: starEach [.Name x p2] X.env := by rfl) (he2 : starEach [.Name x p2] X.env = (false, eval (.Name x p2) X.env) :: starEach [] X.env := by rfl) (hpl : (backTo pos (starEach [.Name x p2] X.env)).any (·.1) = false := by rfl) :
    DE X cl W (.Call (.Name "isinstance" p) [a, .Name x p2] [] pos) (op1 fa (isiG T)) := by
  refine PE.imp (pe_callB call_isi hg hm (by decide +kernel) (pa_cons ha (pa_cons (pe_bltn (v := .ty T) hgT hmT hvT rfl hn hdb) pa_nil he2) he1) (by decide) (by decide) he1 hpl) fun σ H Q h => ?_
  refine (tE_one h).elim fun ad h => ?_
  obtain ⟨r, m, rm, re, h⟩ := h
  refine ⟨ad, r, m, rm, re, Fin.imp h fun d m1 h1 ad1 H1 v x1 rm1 rd => ?_⟩
  obtain ⟨ad2, m2, dx, rm2, rd2, d', m', e, q⟩ := h1 ad1 H1 v x1 rm1 rd
  unfold isiG at e
  split at e
  · rename_i t et
    cases ek : kitB t T with
    | none => rw [ek] at e; cases e
    | some b =>
      rw [ek] at e
      cases e
      exact ⟨v, .ty T, .type t, .type T, b, rfl, .ty T, tyX_of rm2 rd2 et, kit_ty ek, q ad2 H1 _ Ext.refl rm2 rfl⟩
  · cases e
/-- f(..), f a module's name for a built-in -/
theorem dcallF {id : String} {x : Str} {p : Pos} {g : GN} (hc : CallR X (.builtin id) (rDN X.K g)) (hg : Gl X x) (hm : X.mg x = some (.builtin id)) (ha : DA X cl W (e :: es) fs) (hdb : (x == ("__debug__" : Str)) = false := by decide)
    (he : starEach (e :: es) X.env = (false, eval e X.env) :: starEach es X.env := by rfl) (hpl : (backTo pos (starEach es X.env)).any (·.1) = false := by rfl) :
    DE X cl W (.Call (.Name x p) (e :: es) [] pos) (opN fs g) := PE.imp (pe_callBfun hc hg hm ha hdb he hpl) fun _ _ _ h => tA_N h
end
/-- comparisons of ints -/
def ltI : G2 := cmpI fun i j => decide (i < j)
def leI : G2 := cmpI fun i j => decide (i ≤ j)
def gtI : G2 := cmpI fun i j => decide (j < i)
def geI : G2 := cmpI fun i j => decide (j ≤ i)
section
variable {X : Cx}
theorem o_ltI : OpR X (compareOp .Lt) (rD2 X.K ltI) := oimp op_lt fun x y H Q h => by
  obtain ⟨i, j, e1, e2, _, q⟩ := rD2_int h (fun i j => .bl (decide (i < j))) fun _ _ _ _ => rfl
  exact ⟨i, j, e1, e2, q⟩
theorem o_leI : OpR X (compareOp .LtE) (rD2 X.K leI) := oimp op_le fun x y H Q h => by
  obtain ⟨i, j, e1, e2, _, q⟩ := rD2_int h (fun i j => .bl (decide (i ≤ j))) fun _ _ _ _ => rfl
  exact ⟨i, j, e1, e2, q⟩
theorem o_gtI : OpR X (compareOp .Gt) (rD2 X.K gtI) := oimp op_gt fun x y H Q h => by
  obtain ⟨i, j, e1, e2, _, q⟩ := rD2_int h (fun i j => .bl (decide (j < i))) fun _ _ _ _ => rfl
  exact ⟨i, j, e1, e2, q⟩
theorem o_geI : OpR X (compareOp .GtE) (rD2 X.K geI) := oimp op_ge fun x y H Q h => by
  obtain ⟨i, j, e1, e2, _, q⟩ := rD2_int h (fun i j => .bl (decide (j ≤ i))) fun _ _ _ _ => rfl
  exact ⟨i, j, e1, e2, q⟩
end
end Mi

end

section
set_option Elab.async false
set_option linter.all false
set_option maxRecDepth 100000
set_option maxHeartbeats 4000000
namespace Mi
open PySem PySem.Spec L2
open PyProof.Rows hiding St
open scoped Classical

/-! ## statements -/
def nxS : FS := fun r m => .ok .nx r m
def seqS (f g : FS) : FS := fun r m => match f r m with
  | .ok .nx r' m' => g r' m'
  | x => x
def SRes.of {α : Type} (x : Res α) (r : Env) (g : α → Mem → SRes) : SRes := match x with
  | .ok a m => g a m
  | .exc c m => .exc c r m
  | .bad => .bad
def asgS (i : Nat) (f : FE) : FS := fun r m => SRes.of (f r m) r fun d m1 => .ok .nx (r.set i (some d)) m1
def dropS (f : FE) : FS := fun r m => SRes.of (f r m) r fun _ m1 => .ok .nx r m1
def retS (f : FE) : FS := fun r m => SRes.of (f r m) r fun d m1 => .ok (.rt d) r m1
def retN : FS := fun r m => .ok (.rt .non) r m
def bkS : FS := fun r m => .ok .bk r m
def ctS : FS := fun r m => .ok .ct r m
def ifS (c : FT) (f g : FS) : FS := fun r m => SRes.of (c r m) r fun b m1 => if b then f r m1 else g r m1
def raiseS (c : String) : FS := fun r m => .exc c r m
abbrev FG := D → Env → Option Env
def nameG (i : Nat) : FG := fun d r => some (r.set i (some d))
def nilG : List D → Env → Option Env := fun ds r => match ds with
  | [] => some r
  | _ => none
def consG (g : FG) (h : List D → Env → Option Env) : List D → Env → Option Env := fun ds r => match ds with
  | d :: ds => (g d r).bind fun r' => h ds r'
  | [] => none
def tupG (h : List D → Env → Option Env) : FG := fun d r => match d with
  | .tup ds => h ds r
  | _ => none
def asgG (g : FG) (f : FE) : FS := fun r m => SRes.of (f r m) r fun d m1 => match g d r with
  | some r' => .ok .nx r' m1
  | none => .bad
def parS (i j : Nat) (f : FA) : FS := fun r m => SRes.of (f r m) r fun ds m1 => match ds with
  | [a, b] => .ok .nx ((r.set i (some a)).set j (some b)) m1
  | _ => .bad
/-- o[i] = e of a list -/
def setG (o i e : FE) : FS := fun r m => SRes.of (e r m) r fun d m1 => SRes.of (o r m1) r fun x m2 => SRes.of (i r m2) r fun y m3 => match x, y with
  | .ref n, .int k => match m3[n]? with
    | some (.lst xs) => match ixN xs.length k with
      | some j => .ok .nx r (m3.set n (.lst (xs.set j d)))
      | none => .bad
    | _ => .bad
  | _, _ => .bad
inductive Src where
  | fix (ds : List D) | lst (n : Nat) (ds : List D)
def Src.items : Src → List D
  | .fix ds => ds
  | .lst _ ds => ds
def Src.still (m : Mem) : Src → Prop
  | .fix _ => True
  | .lst n ds => itemsOf m n = some ds
abbrev FI := Env → Mem → Res Src
noncomputable def forL (s : Src) (tg : FG) (body : FS) : List D → FS
  | [], r, m => if s.still m then .ok .nx r m else .bad
  | d :: ds, r, m => if s.still m then match tg d r with
      | none => .bad
      | some r1 => match body r1 m with
        | .ok .nx r2 m2 => forL s tg body ds r2 m2
        | .ok .ct r2 m2 => forL s tg body ds r2 m2
        | .ok .bk r2 m2 => .ok .nx r2 m2
        | x => x
    else .bad
noncomputable def forS (f : FI) (tg : FG) (body : FS) : FS := fun r m => SRes.of (f r m) r fun s m1 => forL s tg body s.items r m1
def whileN (c : FT) (body : FS) : Nat → FS
  | 0, _, _ => .bad
  | n + 1, r, m => SRes.of (c r m) r fun b m1 => if b then (match body r m1 with
      | .ok .nx r2 m2 => whileN c body n r2 m2
      | .ok .ct r2 m2 => whileN c body n r2 m2
      | .ok .bk r2 m2 => .ok .nx r2 m2
      | x => x) else .ok .nx r m1
noncomputable def whileS (c : FT) (body : FS) : FS := fun r m => if h : ∃ n, whileN c body n r m ≠ .bad then whileN c body (Classical.choose h) r m else .bad
def callE (G : Fn) (f : FA) : FE := fun r m => (f r m).bind fun ds m1 => G ds m1
def startE (n : Nat) (ds : List D) : Env := ds.map some ++ List.replicate (n - ds.length) none
/-- a def: n names, so many parameters -/
def defF (n p : Nat) (body : FS) : Fn := fun ds m => if ds.length = p then (match body (startE n ds) m with
  | .ok .nx _ m' => .ok .non m'
  | .ok (.rt d) _ m' => .ok d m'
  | .exc c _ m' => .exc c m'
  | _ => .bad) else .bad
/-- try: body except .. (as n, slot i): a suite that hands back a constant -/
def tryR (i : Nat) (cs : List String) (h : String → Option D) (body : FS) : FS := fun r m => match body r m with
  | .exc c r' m' => if c ∈ cs ∧ i < r'.length then (match h c with
      | some d => .ok (.rt d) r' m'
      | none => .exc c r' m') else .bad
  | x => x

section
variable {K : PySem.W.Frag} {cl : String → Addr} {W : WX} {σ : St} {H : Hp} {ad : List Addr} {m : Mem}
theorem tE_of {f : FE} {r : Env} {D : Ends} {g : L2.V → Hp → Prop} {k : Mi.D → Mem → SRes} (rm : RepM K ad m H) (re : RepE K H ad r σ) (h : FinS K cl W H ad D (SRes.of (f r m) r k))
    (hk : ∀ ad1 H1 m1 x v, Ext K H ad H1 ad1 → RepM K ad1 m1 H1 → RepE K H1 ad1 r σ → RepD K H1 ad1 x v → FinS K cl W H1 ad1 D (k x m1) → g v H1) : tE K cl W f σ H g := by
  refine ⟨ad, r, m, rm, re, ?_⟩
  show Fin K cl W σ H ad (OkQ K H ad g) (f r m)
  cases e : f r m with
  | ok a m1 =>
    rw [e] at h
    exact fun ad1 H1 v x1 rm1 rd => hk ad1 H1 m1 a v x1 rm1 (RepE.mono x1 re) rd (FinS.mono x1 h)
  | exc c m1 =>
    rw [e] at h
    exact fun ad1 H1 x1 rm1 => h ad1 H1 σ x1 rm1 (RepE.mono x1 re)
  | bad => rw [e] at h; exact h.elim
theorem tA_of {f : FA} {r : Env} {D : Ends} {g : List L2.V → Hp → Prop} {k : List Mi.D → Mem → SRes} (rm : RepM K ad m H) (re : RepE K H ad r σ) (h : FinS K cl W H ad D (SRes.of (f r m) r k))
    (hk : ∀ ad1 H1 m1 x v, Ext K H ad H1 ad1 → RepM K ad1 m1 H1 → RepE K H1 ad1 r σ → RepL K H1 ad1 x v → FinS K cl W H1 ad1 D (k x m1) → g v H1) : tA K cl W f σ H g := by
  refine ⟨ad, r, m, rm, re, ?_⟩
  show Fin K cl W σ H ad (OkL K H ad g) (f r m)
  cases e : f r m with
  | ok a m1 =>
    rw [e] at h
    exact fun ad1 H1 v x1 rm1 rd => hk ad1 H1 m1 a v x1 rm1 (RepE.mono x1 re) rd (FinS.mono x1 h)
  | exc c m1 =>
    rw [e] at h
    exact fun ad1 H1 x1 rm1 => h ad1 H1 σ x1 rm1 (RepE.mono x1 re)
  | bad => rw [e] at h; exact h.elim
theorem tT_of {f : FT} {r : Env} {D : Ends} {g : Bool → Hp → Prop} {k : Bool → Mem → SRes} (rm : RepM K ad m H) (re : RepE K H ad r σ) (h : FinS K cl W H ad D (SRes.of (f r m) r k))
    (hk : ∀ ad1 H1 m1 b, Ext K H ad H1 ad1 → RepM K ad1 m1 H1 → RepE K H1 ad1 r σ → FinS K cl W H1 ad1 D (k b m1) → g b H1) : tT K cl W f σ H g := by
  refine ⟨ad, r, m, rm, re, ?_⟩
  show Fin K cl W σ H ad (OkB K H ad g) (f r m)
  cases e : f r m with
  | ok a m1 =>
    rw [e] at h
    exact fun ad1 H1 x1 rm1 => hk ad1 H1 m1 a x1 rm1 (RepE.mono x1 re) (FinS.mono x1 h)
  | exc c m1 =>
    rw [e] at h
    exact fun ad1 H1 x1 rm1 => h ad1 H1 σ x1 rm1 (RepE.mono x1 re)
  | bad => rw [e] at h; exact h.elim
end

section
variable {X : Cx} {cl : String → Addr} {W : WX} {e c : Expr} {es : List Expr} {fa fb : FE} {fs : FA} {f g : FS} {st : Stmt} {sts a b : List Stmt} {pos : Pos}
theorem snil : DSs X cl W [] nxS := PSs.imp pss_nil fun σ H D h => by
  obtain ⟨ad, r, m, rm, re, h⟩ := h
  exact h ad H σ Ext.refl rm re
theorem scons (h1 : DS X cl W st f) (h2 : DSs X cl W sts g) : DSs X cl W (st :: sts) (seqS f g) := PSs.imp (pss_cons h1 h2) fun σ H D h => by
  obtain ⟨ad, r, m, rm, re, h⟩ := h
  refine ⟨ad, r, m, rm, re, ?_⟩
  show FinS X.K cl W H ad { D with nx := tS X.K cl W g D } (f r m)
  unfold seqS at h
  cases e : f r m with
  | ok fl r' m' =>
    rw [e] at h
    cases fl with
    | nx => exact fun ad1 H1 σ1 x1 rm1 re1 => ⟨ad1, r', m', rm1, re1, FinS.mono x1 h⟩
    | rt d => exact h
    | bk => exact h
    | ct => exact h
  | exc c r' m' => rw [e] at h; exact h
  | bad => rw [e] at h; exact h.elim
theorem sone (h : DS X cl W st f) : DSs X cl W [st] f := pss_one h
theorem spass : DS X cl W (.Pass pos) nxS := PS.imp ps_pass fun σ H D h => by
  obtain ⟨ad, r, m, rm, re, h⟩ := h
  exact h ad H σ Ext.refl rm re
theorem sbk : DS X cl W (.Break pos) bkS := PS.imp ps_break fun σ H D h => by
  obtain ⟨ad, r, m, rm, re, h⟩ := h
  exact h ad H σ Ext.refl rm re
theorem sct : DS X cl W (.Continue pos) ctS := PS.imp ps_continue fun σ H D h => by
  obtain ⟨ad, r, m, rm, re, h⟩ := h
  exact h ad H σ Ext.refl rm re
theorem sset {i : Nat} {x : Str} {pos' : Pos} (hN : X.N.Nodup) (he : DE X cl W e fa) (hi : X.N[i]? = some x := by rfl) (hx : Loc X.env.scope x := by first | exact Or.inl rfl | exact Or.inr rfl) (hs : swapsWith e (some (.Name x pos')) pos.line X.env = pure false := by rfl) (hf : X.fn x = true ∨ X.env.scope.names.lookup x = some .local := by first | exact .inl rfl | exact .inr rfl | assumption) :
    DS X cl W (.Assign [.Name x pos'] e pos) (asgS i fa) := PS.imp (ps_set hN hi hx he hs hf) fun σ H D h => by
  obtain ⟨ad, r, m, rm, re, h⟩ := h
  exact tE_of rm re h fun ad1 H1 m1 x v x1 rm1 re1 rd h1 => h1 ad1 H1 _ Ext.refl rm1 (re1.set i rd)
theorem sdrop (he : DE X cl W e fa) (hs : swapsWith e none pos.line X.env = pure false := by rfl) : DS X cl W (.Expr e pos) (dropS fa) := PS.imp (ps_expr he hs) fun σ H D h => by
  obtain ⟨ad, r, m, rm, re, h⟩ := h
  exact tE_of rm re h fun ad1 H1 m1 x v x1 rm1 re1 rd h1 => h1 ad1 H1 _ Ext.refl rm1 re1
theorem sret (he : DE X cl W e fa) : DS X cl W (.Return (some e) pos) (retS fa) := PS.imp (ps_ret he) fun σ H D h => by
  obtain ⟨ad, r, m, rm, re, h⟩ := h
  exact tE_of rm re h fun ad1 H1 m1 x v x1 rm1 re1 rd h1 => h1 ad1 H1 σ Ext.refl rm1 re1 v rd
theorem sretN : DS X cl W (.Return none pos) retN := PS.imp ps_retN fun σ H D h => by
  obtain ⟨ad, r, m, rm, re, h⟩ := h
  exact h ad H σ Ext.refl rm re .non rfl
theorem sif {t : FT} (hc : DT X cl W c t) (ha : DSs X cl W a f) (hb : DSs X cl W b g) : DS X cl W (.If c a b pos) (ifS t f g) := PS.imp (ps_if hc ha hb) fun σ H D h => by
  obtain ⟨ad, r, m, rm, re, h⟩ := h
  refine tT_of rm re h fun ad1 H1 m1 b x1 rm1 re1 h1 => ?_
  cases b with
  | true => exact iteT ⟨ad1, r, m1, rm1, re1, h1⟩
  | false => exact iteF ⟨ad1, r, m1, rm1, re1, h1⟩
/-- own error classes -/
structure ErrC (K : PySem.W.Frag) (mg : Str → Option Value) (cl : String → Addr) (n : String) : Prop where
  ex : PySem.W.excIn K (cl n) [.type "ValueError", .type "Exception", .type "BaseException", .type "object"] "ValueError.__new__" = true
  g : mg (PySem.Str.ofString n) = some (.ref (cl n))
  k : PySem.W.keepIn K (.ref (cl n)) = true
  b : PySem.W.subIn K (.ref (cl n)) (.type "BaseException") = some true
  t : PySem.W.typeIn K (.ref (cl n)) = some (.type "type")
theorem sraise {n : String} {msg : Str} {j : Nat} {p p2 p3 : Pos} (hc : X.calm = true) (tk : Takes X W) (E : ErrC X.K X.mg cl n) (hg : Gl X (PySem.Str.ofString n) := by rfl) (hdb : (PySem.Str.ofString n == ("__debug__" : Str)) = false := by decide) :
    DS X cl W (.Raise (some (.Call (.Name (PySem.Str.ofString n) p) [.Constant (.str msg) j p2] [] p3)) none pos) (raiseS n) :=
  PS.imp (ps_raise hc tk (pmk_own PySem.F.excBase_ValueError E.ex E.g E.k (raises_own E.b E.t) hg hdb)) fun σ H D h => by
    obtain ⟨ad, r, m, rm, re, h⟩ := h
    exact h ad H σ Ext.refl rm re

/-! ## targets -/
/-- the slots outside `is` stay -/
def Agree (is : List Nat) (σ σ' : St) : Prop := σ'.length = σ.length ∧ ∀ j, j ∉ is → σ'[j]? = σ[j]?
theorem Agree.refl {is : List Nat} {σ : St} : Agree is σ σ := ⟨rfl, fun _ _ => rfl⟩
theorem Agree.set {i : Nat} {σ : St} {x : Option V} : Agree [i] σ (σ.set i x) := ⟨by simp, fun j hj => by
  rw [List.getElem?_set_ne]
  intro e
  exact hj (by simp [e])⟩
theorem Agree.trans {is js : List Nat} {σ σ1 σ2 : St} (a : Agree is σ σ1) (b : Agree js σ1 σ2) : Agree (is ++ js) σ σ2 := ⟨b.1.trans a.1, fun j hj => by
  rw [List.mem_append, not_or] at hj
  exact (b.2 j hj.2).trans (a.2 j hj.1)⟩
def gT (K : PySem.W.Frag) (is : List Nat) (g : FG) : TG := fun v σ H Q => ∃ ad r m d, RepM K ad m H ∧ RepE K H ad r σ ∧ RepD K H ad d v ∧ ∃ r', g d r = some r' ∧ ∀ σ', RepE K H ad r' σ' → Agree is σ σ' → Q σ' H
def gTs (K : PySem.W.Frag) (is : List Nat) (g : List D → Env → Option Env) : TGs := fun vs σ H Q => ∃ ad r m ds, RepM K ad m H ∧ RepE K H ad r σ ∧ RepL K H ad ds vs ∧ ∃ r', g ds r = some r' ∧ ∀ σ', RepE K H ad r' σ' → Agree is σ σ' → Q σ' H
abbrev DG (X : Cx) (is : List Nat) (tg : Expr) (g : FG) : Prop := PG X tg (gT X.K is g)
abbrev DGs (X : Cx) (is : List Nat) (tg : List Expr) (g : List D → Env → Option Env) : Prop := PGs X tg (gTs X.K is g)
theorem PG.imp {X : Cx} {e : Expr} {t t' : TG} (h : PG X e t) (i : ∀ v σ H Q, t' v σ H Q → t v σ H Q) : PG X e t' := ⟨fun pins s σ H v u Q I r q => h.run pins s σ H v u Q I r (i _ _ _ _ q)⟩
theorem PGs.imp {X : Cx} {e : List Expr} {t t' : TGs} (h : PGs X e t) (i : ∀ v σ H Q, t' v σ H Q → t v σ H Q) : PGs X e t' := ⟨fun pins s σ H v u Q I r q => h.run pins s σ H v u Q I r (i _ _ _ _ q)⟩
theorem gname (i : Nat) {x : Str} (hN : X.N.Nodup) (hi : X.N[i]? = some x := by rfl) (hx : Loc X.env.scope x := by first | exact Or.inl rfl | exact Or.inr rfl) (hf : X.fn x = true ∨ X.env.scope.names.lookup x = some .local := by first | exact .inl rfl | exact .inr rfl | assumption) : DG X [i] (.Name x pos) (nameG i) :=
  PG.imp (pg_name hN hi hx hf) fun v σ H Q h => by
    obtain ⟨ad, r, m, d, rm, re, rd, r', e, q⟩ := h
    cases e
    exact q _ (re.set i rd) Agree.set
theorem gnil : DGs X [] [] nilG := PGs.imp pgs_nil fun v σ H Q h => by
  obtain ⟨ad, r, m, ds, rm, re, rd, r', e, q⟩ := h
  cases ds with
  | nil =>
    cases e
    exact ⟨rd, q _ re Agree.refl⟩
  | cons _ _ => cases e
theorem gcons {is js : List Nat} {g : FG} {h : List D → Env → Option Env} (h1 : DG X is e g) (h2 : DGs X js es h) (hs : (assignEach (e :: es) X.env).map (·.2) = assign e X.env :: (assignEach es X.env).map (·.2) := by rfl) : DGs X (is ++ js) (e :: es) (consG g h) :=
  PGs.imp (pgs_cons h1 h2 hs) fun v σ H Q q => by
    obtain ⟨ad, r, m, ds, rm, re, rd, r', eq, q⟩ := q
    cases ds with
    | nil => cases eq
    | cons d ds =>
      obtain ⟨w, rest, rfl, r1, r2⟩ := rd
      cases e1 : g d r with
      | none => simp [consG, e1] at eq
      | some ra =>
        simp only [consG, e1, Option.bind_some] at eq
        exact ⟨w, rest, rfl, ad, r, m, d, rm, re, r1, ra, e1, fun σ' re' a1 => ⟨ad, ra, m, ds, rm, re', r2, r', eq, fun σ2 re2 a2 => q σ2 re2 (a1.trans a2)⟩⟩
theorem gtup {is : List Nat} {k : Nat} {h : List D → Env → Option Env} (hc : X.calm = true) (hh : DGs X is es h) (n : Nat) (hl : ∀ ds r r', h ds r = some r' → ds.length = n)
    (hn : (assignEach es X.env).length = n := by rfl) (hst : (assignEach es X.env).findIdx? (·.1) = none := by rfl) : DG X is (.Tuple es k pos) (tupG h) :=
  PG.imp (pg_tup hc hh hn hst) fun v σ H Q q => by
    obtain ⟨ad, r, m, d, rm, re, rd, r', eq, q⟩ := q
    cases d with
    | tup ds =>
      obtain ⟨a, vs, rfl, t, rl⟩ := rd
      exact ⟨a, vs, rfl, t, by rw [← rl.length]; exact hl _ _ _ eq, ad, r, m, ds, rm, re, rl, r', eq, q⟩
    | _ => cases eq
theorem lenG0 : ∀ ds r r', nilG ds r = some r' → ds.length = 0 := fun ds r r' h => by
  cases ds with
  | nil => rfl
  | cons _ _ => cases h
theorem lenGS {g : FG} {h : List D → Env → Option Env} {n : Nat} (hl : ∀ ds r r', h ds r = some r' → ds.length = n) : ∀ ds r r', consG g h ds r = some r' → ds.length = n + 1 := fun ds r r' e => by
  cases ds with
  | nil => cases e
  | cons d ds =>
    cases e1 : g d r with
    | none => simp [consG, e1] at e
    | some ra =>
      simp only [consG, e1, Option.bind_some] at e
      rw [List.length_cons, hl _ _ _ e]
theorem sasg {is : List Nat} {tg : Expr} {g : FG} (he : DE X cl W e fa) (hg : DG X is tg g) (hs : swapsWithSole [tg] e pos.line X.env = pure false := by rfl) (hw : swappedStores [tg] e X.env = pure none := by rfl)
    (h1 : (assignEach [tg] X.env).map (·.2) = [assign tg X.env] := by rfl) : DS X cl W (.Assign [tg] e pos) (asgG g fa) := PS.imp (ps_asg he hg hs hw h1) fun σ H D h => by
  obtain ⟨ad, r, m, rm, re, h⟩ := h
  refine tE_of rm re h fun ad1 H1 m1 x v x1 rm1 re1 rd h2 => ?_
  cases eg : g x r with
  | none => rw [eg] at h2; exact h2.elim
  | some r' =>
    rw [eg] at h2
    exact ⟨ad1, r, m1, x, rm1, re1, rd, r', eg, fun σ' re' _ => h2 ad1 H1 σ' Ext.refl rm1 re'⟩
theorem spar {i j : Nat} {x y : Str} {p1 p2 : Expr} {px py pt : Pos} {kt k2 pt2} (hc : X.calm = true) (hN : X.N.Nodup) (ha : DA X cl W [p1, p2] fs) (hi : X.N[i]? = some x := by rfl) (hj : X.N[j]? = some y := by rfl) (hij : i ≠ j := by decide)
    (hx : X.env.scope.names.lookup x = some .local := by rfl) (hy : X.env.scope.names.lookup y = some .local := by rfl)
    (hw : swappedStores [.Tuple [.Name x px, .Name y py] kt pt] (.Tuple [p1, p2] k2 pt2) X.env = pure (some [x, y]) := by rfl)
    (hs : swapsWithSole [.Tuple [.Name x px, .Name y py] kt pt] (.Tuple [p1, p2] k2 pt2) pos.line X.env = pure false := by rfl) :
    DS X cl W (.Assign [.Tuple [.Name x px, .Name y py] kt pt] (.Tuple [p1, p2] k2 pt2) pos) (parS i j fs) := PS.imp (ps_par hc hN hi hj hij hx hy ha hw hs) fun σ H D h => by
  obtain ⟨ad, r, m, rm, re, h⟩ := h
  refine tA_of rm re h fun ad1 H1 m1 ds vs x1 rm1 re1 rd h2 => ?_
  match ds, rd, h2 with
  | [a, b], rd, h2 =>
    obtain ⟨v, u, rfl, r1, r2⟩ := repl2 rd
    exact ⟨v, u, rfl, h2 ad1 H1 _ Ext.refl rm1 ((re1.set i r1).set j r2)⟩
  | [], _, h2 => exact h2.elim
  | [_], _, h2 => exact h2.elim
  | _ :: _ :: _ :: _, _, h2 => exact h2.elim
/-- o[i] = e -/
theorem ssub {o i : Expr} {fo fi : FE} {p2 : Pos} (he : DE X cl W e fa) (ho : DE X cl W o fo) (hi : DE X cl W i fi)
    (ha : ∀ v, assign (.Subscript o i p2) X.env v = (do
      let ov ← holding [v] (eval o X.env)
      let iv ← holding [v, ov] (eval i X.env)
      standAt p2
      holding [v, ov, iv] (setItem ov iv v)
      release [v, ov, iv] []) := by intro _; rfl) (hs : swapsWithSole [.Subscript o i p2] e pos.line X.env = pure false := by rfl) (hw : swappedStores [.Subscript o i p2] e X.env = pure none := by rfl)
    (h1 : (assignEach [.Subscript o i p2] X.env).map (·.2) = [assign (.Subscript o i p2) X.env] := by rfl) : DS X cl W (.Assign [.Subscript o i p2] e pos) (setG fo fi fa) :=
  PS.imp (ps_asg he (pg_sub ho hi set_list ha) hs hw h1) fun σ H D h => by
    obtain ⟨ad, r, m, rm, re, h⟩ := h
    refine tE_of rm re h fun ad1 H1 m1 x v x1 rm1 re1 rd h1 => ?_
    refine tE_of rm1 re1 h1 fun ad2 H2 m2 y u x2 rm2 re2 rd2 h2 => ?_
    refine tE_of rm2 re2 h2 fun ad3 H3 m3 z w x3 rm3 re3 rd3 h3 => ?_
    cases y with
    | ref n =>
      cases z with
      | int k =>
        obtain ⟨a, rfl, ea⟩ := RepD.mono x3 _ _ rd2
        cases (show w = .int k from rd3)
        cases em : m3[n]? with
        | none => simp only [em] at h3; exact h3.elim
        | some mo =>
          cases mo with
          | lst xs =>
            simp only [em] at h3
            cases ej : ixN xs.length k with
            | none => simp only [ej] at h3; exact h3.elim
            | some j =>
              simp only [ej] at h3
              obtain ⟨vs, q1, rl⟩ := rm3.obj n _ a em ea
              obtain ⟨rmw, xw⟩ := rm3.writeL ea em q1 (RepL.set (RepD.mono x3 _ _ (RepD.mono x2 _ _ rd)) j rl)
              refine ⟨a, vs, k, j, rfl, rfl, q1, by rw [← rl.length]; exact ej, ?_⟩
              exact h3 ad3 _ σ xw rmw (RepE.mono xw re3)
          | _ => simp only [em] at h3; exact h3.elim
      | _ => exact h3.elim
    | _ => exact h3.elim
end
end Mi

end

section
set_option Elab.async false
set_option linter.all false
set_option maxRecDepth 100000
set_option maxHeartbeats 4000000
namespace Mi
open PySem PySem.Spec L2
open PyProof.Rows hiding St
open scoped Classical

/-! ## what is walked -/
def WalkOf (K : PySem.W.Frag) (J : It) (H : Hp) (ad : List Addr) (s : Src) : Prop := ∀ ad2 H2 m2, Ext K H ad H2 ad2 → RepM K ad2 m2 H2 → s.still m2 → ∀ i : Nat,
  (∀ d, s.items[i]? = some d → J.go i H2 ∧ ∀ x H3, J.yld i H2 x H3 → Ext K H2 ad2 H3 ad2 ∧ RepM K ad2 m2 H3 ∧ RepD K H3 ad2 d x) ∧ (s.items.length ≤ i → J.stop i H2)
def tI (K : PySem.W.Frag) (cl : String → Addr) (W : WX) (fi : FI) : TI := fun σ H R => St0 K σ H fun ad r m => Fin K cl W σ H ad (fun s m1 => ∀ ad1 H1 J, Ext K H ad H1 ad1 → RepM K ad1 m1 H1 → WalkOf K J H1 ad1 s → R J H1) (fi r m)
abbrev DI (X : Cx) (cl : String → Addr) (W : WX) (tg it : Expr) (fi : FI) : Prop := PI X tg it (tI X.K cl W fi)
theorem PI.imp {X : Cx} {tg e : Expr} {t t' : TI} (h : PI X tg e t) (i : ∀ σ H Q, t' σ H Q → t σ H Q) : PI X tg e t' := ⟨fun pins s σ H Q I q => h.run pins s σ H Q I (i _ _ _ q)⟩
def strItems (z : Str) : List D := z.cps.toList.map fun c => .str ⟨#[c]⟩
def srcE (f : FE) : FI := fun r m => (f r m).bind fun d m1 => match d with
  | .tup ds => .ok (.fix ds) m1
  | .ref n => match itemsOf m1 n with
    | some ds => .ok (.lst n ds) m1
    | none => .bad
  | .str z => .ok (.fix (strItems z)) m1
  | _ => .bad
def iotaD (lo : Int) (n : Nat) : List D := (List.range n).map fun (k : Nat) => D.int (lo + (k : Int))
abbrev okI (i : Int) : Prop := -(2 ^ 62) ≤ i ∧ i < 2 ^ 62
noncomputable def rng1 (f : FA) : FI := fun r m => (f r m).bind fun ds m1 => match ds with
  | [.int j] => if okI j then .ok (.fix (iotaD 0 j.toNat)) m1 else .bad
  | _ => .bad
noncomputable def rng2 (f : FA) : FI := fun r m => (f r m).bind fun ds m1 => match ds with
  | [.int i, .int j] => if okI i ∧ okI j then .ok (.fix (iotaD i (j - i).toNat)) m1 else .bad
  | _ => .bad

section
variable {K : PySem.W.Frag} {H : Hp} {ad : List Addr}
theorem walk_tup {a : Addr} {ds : List D} {vs : List V} (t : SqT K H a vs) (r : RepL K H ad ds vs) : WalkOf K (Itt K a) H ad (.fix ds) := by
  intro ad2 H2 m2 x rm _ i
  have t2 := x.tup _ _ t
  have r2 := RepL.mono x ds vs r
  refine ⟨fun d e => ?_, fun hl => ⟨vs, t2, by rw [← r.length]; exact hl⟩⟩
  obtain ⟨v, e1, e2⟩ := r2.get e
  refine ⟨⟨vs, v, t2, e1⟩, fun y H3 hy => ?_⟩
  obtain ⟨rfl, f⟩ := hy
  have ev : y = v := Option.some.inj ((f vs t2).symm.trans e1)
  subst ev
  exact ⟨Ext.refl, rm, e2⟩
theorem walk_lst {a : Addr} {n : Nat} {ds : List D} (ea : ad[n]? = some a) : WalkOf K (Itl K a) H ad (.lst n ds) := by
  intro ad2 H2 m2 x rm hs i
  obtain ⟨vs, h1, h2, _⟩ := rm.items (pre_get x.pre ea) (show itemsOf m2 n = some ds from hs)
  refine ⟨fun d e => ?_, fun hl => ⟨vs, h1, by rw [← h2.length]; exact hl⟩⟩
  obtain ⟨v, e1, e2⟩ := h2.get e
  refine ⟨⟨vs, v, h1, e1⟩, fun y H3 hy => ?_⟩
  obtain ⟨rfl, f⟩ := hy
  have ev : y = v := Option.some.inj ((f vs h1).symm.trans e1)
  subst ev
  exact ⟨Ext.refl, rm, e2⟩
theorem iotaD_get {lo : Int} {n i : Nat} {d : D} (e : (iotaD lo n)[i]? = some d) : i < n ∧ d = .int (lo + i) := by
  unfold iotaD at e
  rw [List.getElem?_map] at e
  cases q : (List.range n)[i]? with
  | none => rw [q] at e; cases e
  | some k =>
    rw [q] at e
    obtain ⟨h1, h2⟩ := List.getElem?_eq_some_iff.mp q
    rw [List.getElem_range] at h2
    subst h2
    cases e
    exact ⟨by simpa using h1, rfl⟩
theorem iotaD_length {lo : Int} {n : Nat} : (iotaD lo n).length = n := by simp [iotaD]
theorem walk_rng {lo : Int} {n : Nat} : WalkOf K (Itr lo n) H ad (.fix (iotaD lo n)) := by
  intro ad2 H2 m2 x rm _ i
  refine ⟨fun d e => ?_, fun hl => by rw [show (Src.fix (iotaD lo n)).items = iotaD lo n from rfl, iotaD_length] at hl; exact hl⟩
  obtain ⟨hi, rfl⟩ := iotaD_get e
  refine ⟨hi, fun y H3 hy => ?_⟩
  obtain ⟨rfl, rfl⟩ := hy
  exact ⟨Ext.refl, rm, rfl⟩
theorem walk_str {z : Str} : WalkOf K (Its z) H ad (.fix (strItems z)) := by
  intro ad2 H2 m2 x rm _ i
  refine ⟨fun d e => ?_, fun hl => ?_⟩
  · have e : (strItems z)[i]? = some d := e
    unfold strItems at e
    rw [List.getElem?_map, Array.getElem?_toList] at e
    cases q : z.cps[i]? with
    | none => rw [q] at e; cases e
    | some c =>
      rw [q] at e
      cases e
      refine ⟨(Array.getElem?_eq_some_iff.mp q).1, fun y H3 hy => ?_⟩
      obtain ⟨rfl, c', e1, rfl⟩ := hy
      rw [q] at e1
      cases e1
      exact ⟨Ext.refl, rm, rfl⟩
  · have hl : (strItems z).length ≤ i := hl
    show z.cps.size ≤ i
    simpa [strItems] using hl
end
section
variable {X : Cx} {cl : String → Addr} {W : WX} {tg e : Expr} {es : List Expr} {fa : FE} {fs : FA} {pos : Pos}
/-- for x in e: a list, a tuple, a text -/
theorem ival (he : DE X cl W e fa) : DI X cl W tg e (srcE fa) := by
  refine ⟨fun pins s σ H R I h => ?_⟩
  obtain ⟨ad, r, m, rm, re, h⟩ := h
  have h' : tE X.K cl W fa σ H fun v H1 => ∃ ad1 m1 d, Ext X.K H ad H1 ad1 ∧ RepM X.K ad1 m1 H1 ∧ RepD X.K H1 ad1 d v ∧ Fin X.K cl W σ H ad (fun s m1 => ∀ ad1 H1 J, Ext X.K H ad H1 ad1 → RepM X.K ad1 m1 H1 → WalkOf X.K J H1 ad1 s → R J H1) (match d with
      | .tup ds => .ok (.fix ds) m1
      | .ref n => match itemsOf m1 n with
        | some ds => .ok (.lst n ds) m1
        | none => .bad
      | .str z => .ok (.fix (strItems z)) m1
      | _ => .bad) := tE_go rm re h fun ad1 H1 m1 x v x1 rm1 re1 rd h1 => ⟨ad1, m1, x, x1, rm1, rd, h1⟩
  refine thn (he.run pins s σ H _ I h') fun v s1 ⟨y, H1, I1, r1, q1⟩ => ?_
  obtain ⟨ad1, m1, d, x1, rm1, rd, q⟩ := q1
  cases d with
  | tup ds =>
    obtain ⟨a, vs, rfl, t, rl⟩ := rd
    cases r1
    obtain ⟨its, rv, p, hz⟩ := I1.tuple t
    refine wpAny_pyIter_tuple (show s1.heap.IsTuple a its.toArray from p) ?_
    refine ⟨s1.heap.objs.size, [s1.heap.objs.size], _, _, H1, rfl, I1.kept (t' := s1.toks) fun b o e => Heap.get?_push_of_some _ e, turn_tuple a _, ⟨_, Heap.get?_push_size _ rfl, rfl, rfl⟩, fun b hb => ?_, q ad1 H1 _ x1 rm1 (walk_tup t rl)⟩
    have e : b = s1.heap.objs.size := by simpa using hb
    subst e
    exact I1.fpOk (Nat.le_refl _) (I1.hok.fresh (Nat.le_refl _))
  | ref n =>
    cases ei : itemsOf m1 n with
    | none => simp only [ei] at q; exact q.elim
    | some ds =>
      simp only [ei] at q
      obtain ⟨a, rfl, ea⟩ := rd
      cases r1
      obtain ⟨vs, t, rl, _⟩ := rm1.items ea ei
      obtain ⟨its, rv, p, hz⟩ := I1.list t
      refine wpAny_pyIter_list p.isList ?_
      refine ⟨s1.heap.objs.size, [s1.heap.objs.size], _, _, H1, rfl, I1.kept (t' := s1.toks) fun b o e => Heap.get?_push_of_some _ e, turn_list a _, ⟨_, Heap.get?_push_size _ rfl, rfl, rfl⟩, fun b hb => ?_, q ad1 H1 _ x1 rm1 (walk_lst ea)⟩
      have e : b = s1.heap.objs.size := by simpa using hb
      subst e
      exact I1.fpOk (Nat.le_refl _) (I1.hok.fresh (Nat.le_refl _))
  | str z =>
    cases (show y = .str z from rd)
    obtain ⟨t, rfl⟩ := r1
    have q' := q ad1 H1 _ x1 rm1 (walk_str (z := z))
    cases ha : z.cps.all (· < 128)
    · exact wpAny_pyIter_wide ha (pi_one (tk := s1.toks) I1 _ (turn_str _ z t "str_iterator" (.inr rfl)) ⟨_, Heap.get?_push_size _ rfl, rfl, rfl⟩ q')
    · exact wpAny_pyIter_ascii ha (pi_one (tk := s1.toks) I1 _ (turn_str _ z t "str_ascii_iterator" (.inl rfl)) ⟨_, Heap.get?_push_size _ rfl, rfl, rfl⟩ q')
  | _ => exact q.elim
theorem irng1 {a : Expr} {p : Pos} (hg : Gl X "range") (hm : X.mg "range" = none) (ha : DA X cl W [a] fs) (hs : starEach [a] X.env = [(false, eval a X.env)] := by rfl) : DI X cl W tg (.Call (.Name "range" p) [a] [] pos) (rng1 fs) :=
  PI.imp (pi_range1 hg hm ha hs) fun σ H R h => by
    obtain ⟨ad, r, m, rm, re, h⟩ := h
    refine tA_go rm re h fun ad1 H1 m1 ds vs x1 rm1 re1 rd h1 => ?_
    match ds, rd, h1 with
    | [.int j], rd, h1 =>
      obtain ⟨v, rfl, rv⟩ := repl1 rd
      cases (show v = .int j from rv)
      by_cases hj : okI j
      · simp only [if_pos hj] at h1
        exact ⟨j, rfl, hj.1, hj.2, h1 ad1 H1 _ x1 rm1 walk_rng⟩
      · simp only [if_neg hj] at h1
        exact h1.elim
    | [], _, h1 => exact h1.elim
    | [.non], _, h1 => exact h1.elim
    | [.bl _], _, h1 => exact h1.elim
    | [.str _], _, h1 => exact h1.elim
    | [.tup _], _, h1 => exact h1.elim
    | [.ref _], _, h1 => exact h1.elim
    | [.exn _], _, h1 => exact h1.elim
    | a :: _ :: _, _, h1 => cases a <;> exact h1.elim
theorem irng2 {a b : Expr} {p : Pos} (hg : Gl X "range") (hm : X.mg "range" = none) (ha : DA X cl W [a, b] fs) (hs : starEach [a, b] X.env = [(false, eval a X.env), (false, eval b X.env)] := by rfl) (hs2 : starEach [b] X.env = [(false, eval b X.env)] := by rfl) : DI X cl W tg (.Call (.Name "range" p) [a, b] [] pos) (rng2 fs) :=
  PI.imp (pi_range2 hg hm ha hs hs2) fun σ H R h => by
    obtain ⟨ad, r, m, rm, re, h⟩ := h
    refine tA_go rm re h fun ad1 H1 m1 ds vs x1 rm1 re1 rd h1 => ?_
    split at h1
    · rename_i i j
      obtain ⟨v, u, rfl, rv, ru⟩ := repl2 rd
      cases (show v = .int i from rv)
      cases (show u = .int j from ru)
      by_cases hj : okI i ∧ okI j
      · rw [if_pos hj] at h1
        exact ⟨i, j, rfl, ⟨hj.1.1, hj.1.2, hj.2.1, hj.2.2⟩, h1 ad1 H1 _ x1 rm1 walk_rng⟩
      · rw [if_neg hj] at h1
        exact h1.elim
    · exact h1.elim
end

/-! ## for, while -/
section
variable {K : PySem.W.Frag} {cl : String → Addr} {W : WX}
theorem for_core {J : It} {s : Src} {g : FG} {is : List Nat} {f : FS} {D : Ends} {σ0 : St} {H0 : Hp} {ad0 : List Addr} (wk : WalkOf K J H0 ad0 s) {r0 : Env} {m0 : Mem} (rm0 : RepM K ad0 m0 H0) (re0 : RepE K H0 ad0 r0 σ0)
    (h0 : FinS K cl W H0 ad0 D (forL s g f s.items r0 m0)) :
    ∃ Wi : Nat → Nat → St → Hp → Prop, (∃ m, Wi 0 m σ0 H0) ∧ ∀ i m σ H, Wi i m σ H →
      (J.stop i H ∧ D.nx σ H) ∨ (J.go i H ∧ ∃ N : St → Hp → Prop, (∀ σ' H', N σ' H' → ∃ m', m' < m ∧ Wi (i + 1) m' σ' H') ∧ ∀ x H', J.yld i H x H' → gT K is g x σ H' fun σ2 H2 => tS K cl W f { D with nx := N, ct := N, bk := D.nx } σ2 H2) := by
  refine ⟨fun i k σ H => k = s.items.length - i ∧ i ≤ s.items.length ∧ ∃ ad r m, Ext K H0 ad0 H ad ∧ RepM K ad m H ∧ RepE K H ad r σ ∧ FinS K cl W H ad D (forL s g f (s.items.drop i) r m),
    ⟨_, rfl, Nat.zero_le _, ad0, r0, m0, Ext.refl, rm0, re0, h0⟩, ?_⟩
  rintro i k σ H ⟨rfl, hi, ad, r, m, x, rm, re, h⟩
  cases ed : s.items.drop i with
  | nil =>
    rw [ed, forL] at h
    have hl : s.items.length ≤ i := List.drop_eq_nil_iff.mp ed
    by_cases st : s.still m
    · rw [if_pos st] at h
      exact .inl ⟨(wk ad H m x rm st i).2 hl, h ad H σ Ext.refl rm re⟩
    · rw [if_neg st] at h
      exact h.elim
  | cons d rest =>
    rw [ed, forL] at h
    have hlt : i < s.items.length := by
      have := congrArg List.length ed
      simp at this
      omega
    have e0 : s.items[i]? = some d := by
      have := congrArg (fun l => l[0]?) ed
      simpa using this
    have e1 : s.items.drop (i + 1) = rest := by
      have := congrArg List.tail ed
      simpa using this
    by_cases st : s.still m
    · rw [if_pos st] at h
      obtain ⟨go, yl⟩ := (wk ad H m x rm st i).1 d e0
      refine .inr ⟨go, fun σ' H' => ∃ ad' r' m', Ext K H0 ad0 H' ad' ∧ RepM K ad' m' H' ∧ RepE K H' ad' r' σ' ∧ FinS K cl W H' ad' D (forL s g f rest r' m'), fun σ' H' hN => ⟨_, by omega, rfl, hlt, by rw [e1]; exact hN⟩, fun y H3 hy => ?_⟩
      obtain ⟨x3, rm3, rd3⟩ := yl y H3 hy
      cases eg : g d r with
      | none => rw [eg] at h; exact h.elim
      | some r1 =>
        rw [eg] at h
        refine ⟨ad, r, m, d, rm3, RepE.mono x3 re, rd3, r1, eg, fun σ2 re2 _ => ⟨ad, r1, m, rm3, re2, ?_⟩⟩
        show FinS K cl W H3 ad _ (f r1 m)
        dsimp only at h
        cases ef : f r1 m with
        | ok fl r2 m2 =>
          rw [ef] at h
          cases fl with
          | nx => exact fun ad4 H4 σ4 x4 rm4 re4 => ⟨ad4, r2, m2, x.trans (x3.trans x4), rm4, re4, FinS.mono (x3.trans x4) h⟩
          | ct => exact fun ad4 H4 σ4 x4 rm4 re4 => ⟨ad4, r2, m2, x.trans (x3.trans x4), rm4, re4, FinS.mono (x3.trans x4) h⟩
          | bk => exact fun ad4 H4 σ4 x4 rm4 re4 => h ad4 H4 σ4 (x3.trans x4) rm4 re4
          | rt d' => exact fun ad4 H4 σ4 x4 rm4 re4 => h ad4 H4 σ4 (x3.trans x4) rm4 re4
        | exc c r2 m2 =>
          rw [ef] at h
          exact fun ad4 H4 σ4 x4 rm4 re4 => h ad4 H4 σ4 (x3.trans x4) rm4 re4
        | bad => rw [ef] at h; exact h.elim
    · rw [if_neg st] at h
      exact h.elim
end
section
variable {X : Cx} {cl : String → Addr} {W : WX} {tg e it c : Expr} {es : List Expr} {body : List Stmt} {fa : FE} {fs : FA} {f : FS} {pos : Pos}
theorem sfor {is : List Nat} {fi : FI} {g : FG} (hp : PassesOwn (model X.prog X.w) X.A X.env X.xe) (hc : X.calm = true) (hi : DI X cl W tg it fi) (hg : DG X is tg g) (hb : DSs X cl W body f)
    (hs : ∀ x, foldedSetIterable it X.env x = pure x := by intro _; rfl) : DS X cl W (.For tg it body [] pos) (forS fi g f) := PS.imp (ps_for hp hc hi hg hb hs) fun σ H D h => by
  obtain ⟨ad, r, m, rm, re, h⟩ := h
  refine ⟨ad, r, m, rm, re, ?_⟩
  show Fin X.K cl W σ H ad _ (fi r m)
  unfold forS at h
  cases ei : fi r m with
  | ok s m1 =>
    rw [ei] at h
    exact fun ad1 H1 J x1 rm1 wk => for_core wk rm1 (RepE.mono x1 re) (FinS.mono x1 h)
  | exc c m1 =>
    rw [ei] at h
    exact fun ad1 H1 x1 rm1 => h ad1 H1 σ x1 rm1 (RepE.mono x1 re)
  | bad => rw [ei] at h; exact h.elim
theorem swhile {t : FT} (hp : PassesOwn (model X.prog X.w) X.A X.env X.xe) (hc : DT X cl W c t) (hb : DSs X cl W body f) : DS X cl W (.While c body [] pos) (whileS t f) := PS.imp (ps_while hp hc hb) fun σ H D h => by
  obtain ⟨ad, r, m, rm, re, h⟩ := h
  unfold whileS at h
  by_cases hn : ∃ n, whileN t f n r m ≠ .bad
  · rw [dif_pos hn] at h
    generalize Classical.choose hn = n at h
    refine ⟨fun n σ H => ∃ ad r m, RepM X.K ad m H ∧ RepE X.K H ad r σ ∧ FinS X.K cl W H ad D (whileN t f n r m), ⟨n, ad, r, m, rm, re, h⟩, ?_⟩
    rintro n σ H ⟨ad, r, m, rm, re, h⟩
    cases n with
    | zero => exact h.elim
    | succ n =>
      rw [whileN] at h
      refine tT_of rm re h fun ad1 H1 m1 b x1 rm1 re1 h1 => ?_
      cases b with
      | false => exact iteF (h1 ad1 H1 σ Ext.refl rm1 re1)
      | true =>
        refine iteT ⟨fun σ H => ∃ ad r m, RepM X.K ad m H ∧ RepE X.K H ad r σ ∧ FinS X.K cl W H ad D (whileN t f n r m), fun σ' H' hN => ⟨n, Nat.lt_succ_self n, hN⟩, ad1, r, m1, rm1, re1, ?_⟩
        show FinS X.K cl W H1 ad1 _ (f r m1)
        simp only [if_true] at h1
        cases ef : f r m1 with
        | ok fl r2 m2 =>
          rw [ef] at h1
          cases fl with
          | nx => exact fun ad4 H4 σ4 x4 rm4 re4 => ⟨ad4, r2, m2, rm4, re4, FinS.mono x4 h1⟩
          | ct => exact fun ad4 H4 σ4 x4 rm4 re4 => ⟨ad4, r2, m2, rm4, re4, FinS.mono x4 h1⟩
          | bk => exact fun ad4 H4 σ4 x4 rm4 re4 => h1 ad4 H4 σ4 x4 rm4 re4
          | rt d' => exact fun ad4 H4 σ4 x4 rm4 re4 => h1 ad4 H4 σ4 x4 rm4 re4
        | exc c r2 m2 =>
          rw [ef] at h1
          exact fun ad4 H4 σ4 x4 rm4 re4 => h1 ad4 H4 σ4 x4 rm4 re4
        | bad => rw [ef] at h1; exact h1.elim
  · rw [dif_neg hn] at h
    exact h.elim
/-! ## append -/
def appE (fo fe : FE) : FE := fun r m => (fo r m).bind fun x m1 => match x with
  | .ref n => match m1[n]? with
    | some (.lst _) => (fe r m1).bind fun d m2 => match m2[n]? with
      | some (.lst xs) => if xs.length < sizeLine then .ok .non (m2.set n (.lst (xs ++ [d]))) else .bad
      | _ => .bad
    | _ => .bad
  | _ => .bad
theorem dapp {o : Expr} {fo : FE} {apos : Pos} (ho : DE X cl W o fo) (ha : DE X cl W e fa)
    (hbase : attributeBase o "append" X.env (eval o X.env) = eval o X.env := by rfl)
    (hfew : ((backTo pos (starEach [e] X.env)).all (fun x => !x.1) && (backToKw pos (keywordEach [] X.env)).all (fun x => x.1.isSome)
      && decide ([e].length + ([] : List Keyword).length + (if ([] : List Keyword).isEmpty then 0 else 1) < 30)) = true := by rfl)
    (hline : (apos.endLine == pos.line) = true := by rfl) (hs : starEach [e] X.env = (false, eval e X.env) :: starEach [] X.env := by rfl) (hplain : (backTo pos (starEach [] X.env)).any (·.1) = false := by rfl) :
    DE X cl W (.Call (.Attribute o "append" apos) [e] [] pos) (appE fo fa) :=
  PE.imp (pe_bm PySem.F.plainAttrs_list PySem.F.slot_list_append PySem.F.type_list_append mt_append ho (pa_cons ha pa_nil hs) hbase hfew hline hs hplain) fun σ H Q h => by
    obtain ⟨ad, r, m, rm, re, h⟩ := h
    refine tE_go rm re h fun ad1 H1 m1 x v x1 rm1 re1 rd h1 => ?_
    cases x with
    | ref n =>
      cases em : m1[n]? with
      | none => simp only [em] at h1; exact h1.elim
      | some mo =>
        cases mo with
        | lst ys =>
          simp only [em] at h1
          obtain ⟨a, rfl, ea⟩ := rd
          obtain ⟨vs1, q1, rl1⟩ := rm1.obj n _ a em ea
          refine ⟨.inl ⟨rfl, vs1, .of q1⟩, ?_⟩
          refine tE_go rm1 re1 (Fin.mono x1 (fun _ _ q => OkQ.mono x1 q) h1) fun ad2 H2 m2 y u x2 rm2 re2 rd2 h2 => ?_
          cases em2 : m2[n]? with
          | none => simp only [em2] at h2; exact h2.elim
          | some mo2 =>
            cases mo2 with
            | lst xs =>
              simp only [em2] at h2
              have ea2 := pre_get x2.pre ea
              obtain ⟨vs, q2, rl⟩ := rm2.obj n _ a em2 ea2
              split at h2
              · rename_i hz
                obtain ⟨rmw, xw⟩ := rm2.writeL ea2 em2 q2 (rl.app (RepL.one rd2))
                exact ⟨a, vs, u, rfl, rfl, q2, by rw [← rl.length]; exact hz, h2 ad2 _ .non (x2.trans xw) rmw rfl⟩
              · exact h2.elim
            | _ => simp only [em2] at h2; exact h2.elim
        | _ => simp only [em] at h1; exact h1.elim
    | _ => exact h1.elim
/-! ## calls of own defs -/
theorem fin_sp {K : PySem.W.Frag} {σ : St} {H : Hp} {ad : List Addr} {Q : VK} {G : Fn} {ds : List D} {m : Mem} {vs : List V} (rm : RepM K ad m H) (rl : RepL K H ad ds vs) (h : Fin K cl W σ H ad (OkQ K H ad Q) (G ds m)) : spF K cl G vs H Q (WE W σ) := by
  refine ⟨ad, m, ds, rm, rl, ?_⟩
  cases e : G ds m with
  | ok d m' => rw [e] at h; exact h
  | exc c m' => rw [e] at h; exact h
  | bad => rw [e] at h; exact h.elim
theorem dcall {k : Nat} {fn : Addr} {fd : FuncData} {ps : List Str} {x : Str} {p : Pos} {G : Fn} (F : FnOk X.prog X.w X.K X.mg X.base (L2.CX X.prog X.w) k fn fd ps (spF X.K cl G)) (hr : Room k X.A) (tk : Takes X W) (hm : X.mg x = some (.ref fn)) (hk : PySem.W.keepIn X.K (.ref fn) = true) (hb : Binds X.K fd ps [])
    (ha : DA X cl W (e :: es) fs) (hg : Gl X x := by rfl) (hdb : (x == ("__debug__" : Str)) = false := by decide) (he : starEach (e :: es) X.env = (false, eval e X.env) :: starEach es X.env := by rfl) (hpl : (backTo pos (starEach es X.env)).any (·.1) = false := by rfl) :
    DE X cl W (.Call (.Name x p) (e :: es) [] pos) (callE G fs) := PE.imp (pe_callS F hr hg hm hk hb (fun σ => passAt tk σ) ha hdb he hpl) fun σ H Q h => by
  obtain ⟨ad, r, m, rm, re, h⟩ := h
  exact tA_go rm re h fun ad1 H1 m1 ds vs x1 rm1 re1 rd h1 => fin_sp rm1 rd (Fin.mono x1 (fun _ _ q => OkQ.mono x1 q) h1)
end

/-! ## a def -/
theorem repE_start {K : PySem.W.Frag} {H : Hp} {ad : List Addr} {ds : List D} {vs : List V} (N : List Str) (rl : RepL K H ad ds vs) : RepE K H ad (startE N.length ds) (L2.start N vs) := by
  have hl := rl.length
  refine ⟨by simp [startE, L2.start, hl], fun i d e => ?_⟩
  unfold startE at e
  unfold L2.start
  by_cases hi : i < ds.length
  · rw [List.getElem?_append_left (by simpa using hi), List.getElem?_map] at e
    cases q : ds[i]? with
    | none => rw [q] at e; cases e
    | some d' =>
      rw [q] at e
      cases e
      obtain ⟨v, e1, e2⟩ := rl.get q
      exact ⟨v, by rw [List.getElem?_append_left (by simpa [← hl] using hi), List.getElem?_map, e1]; rfl, e2⟩
  · rw [List.getElem?_append_right (by simpa using hi), List.getElem?_replicate] at e
    split at e <;> cases e
section
variable {P : Program} {w : World} {K : PySem.W.Frag} {mg : Str → Option Value} {base : Heap} {cl : String → Addr}
theorem fdef {x qual : Str} {st : Stmt} {f : Addr} {fd : FuncData} {N ps : List Str} {k : Nat} {body : FS} (F : Fun K x qual st f fd) (S : FnScope N ps (defScope st))
    (hb : ∀ (cdv : Value) (A : Around) (outer : List PySem.Env) (s : Shared) (H : Hp) (E : XK), Room k (A.deeper (envOfC qual (defScope st) s.heap.objs.size f cdv)) →
      DSs (cxOf (L2.CX P w) P w K mg base N qual (defScope st) f cdv A outer s H E) cl (fun cls d _ H => E cls d H) (defBody st) body) :
    FnOk P w K mg base (L2.CX P w) (k + 1) f fd ps (spF K cl (defF N.length ps.length body)) := by
  refine F.okX S (fun vs H Q E h => ?_) (fun cdv A outer s H vs Q E hr h => ⟨_, hb cdv A outer s H E hr, ?_⟩)
  · obtain ⟨ad, m, ds, rm, rl, h⟩ := h
    unfold defF at h
    rw [← rl.length]
    by_cases hl : ds.length = ps.length
    · exact hl
    · rw [if_neg hl] at h
      exact h.elim
  · obtain ⟨ad, m, ds, rm, rl, h⟩ := h
    refine ⟨ad, startE N.length ds, m, rm, repE_start N rl, ?_⟩
    unfold defF at h
    by_cases hl : ds.length = ps.length
    · rw [if_pos hl] at h
      show FinS K cl _ H ad _ (body (startE N.length ds) m)
      cases e : body (startE N.length ds) m with
      | ok fl r' m' =>
        rw [e] at h
        cases fl with
        | nx => exact fun ad1 H1 σ1 x1 rm1 re1 => h ad1 H1 .non x1 rm1 rfl
        | rt d => exact fun ad1 H1 σ1 x1 rm1 re1 v rd => h ad1 H1 v x1 rm1 rd
        | bk => exact h.elim
        | ct => exact h.elim
      | exc c r' m' =>
        rw [e] at h
        exact fun ad1 H1 σ1 x1 rm1 re1 => h ad1 H1 x1 rm1
      | bad => rw [e] at h; exact h.elim
    · rw [if_neg hl] at h
      exact h.elim
end
end Mi

end

section
set_option Elab.async false
set_option linter.all false
set_option maxRecDepth 100000
set_option maxHeartbeats 4000000
namespace Mi
open PySem PySem.Spec L2
open PyProof.Rows hiding St
open scoped Classical

/-! ## comprehensions -/
def wipeE (r : Env) : List Nat → Env
  | [] => r
  | v :: vs => (wipeE r vs).set v none
abbrev W0 : WX := fun _ _ _ _ => False
def yesT : FT := fun _ m => .ok true m
noncomputable def compL (s : Src) (tg : FG) (c : FT) (f : FE) (k : Nat) (r0 : Env) : List D → Mem → Res D
  | [], m => if s.still m then .ok (.ref k) m else .bad
  | d :: ds, m => if s.still m then match tg d r0 with
      | none => .bad
      | some r1 => match c r1 m with
        | .ok true m1 => match f r1 m1 with
          | .ok y m2 => match m2[k]? with
            | some (.lst acc) => if acc.length < sizeLine then compL s tg c f k r0 ds (m2.set k (.lst (acc ++ [y]))) else .bad
            | _ => .bad
          | _ => .bad
        | .ok false m1 => compL s tg c f k r0 ds m1
        | _ => .bad
    else .bad
noncomputable def compE (vs : List Nat) (fi : FI) (tg : FG) (c : FT) (f : FE) : FE := fun r m => (fi r m).bind fun s m1 => compL s tg c f m1.length (wipeE r vs) s.items (m1 ++ [.lst []])
section
variable {K : PySem.W.Frag} {H : Hp} {ad : List Addr}
theorem RepE.setN {r : Env} {σ : St} (h : RepE K H ad r σ) (i : Nat) : RepE K H ad (r.set i none) (σ.set i none) := by
  refine ⟨by simp [h.1], fun j d e => ?_⟩
  by_cases hj : i = j
  · subst hj
    have hl : i < r.length := by
      have := (List.getElem?_eq_some_iff.mp e).1
      simpa using this
    rw [List.getElem?_set_self hl] at e
    cases e
  · rw [List.getElem?_set_ne hj] at e
    rw [List.getElem?_set_ne hj]
    exact h.2 j d e
theorem repE_wipe {r : Env} {σ : St} (h : RepE K H ad r σ) : ∀ vs : List Nat, RepE K H ad (wipeE r vs) (wipe σ vs)
  | [] => h
  | v :: vs => by unfold wipeE wipe; exact (repE_wipe h vs).setN v
theorem wipe_get {σ : St} : ∀ {vs : List Nat} {j : Nat}, (wipe σ vs)[j]? = if j ∈ vs then (if j < σ.length then some none else none) else σ[j]?
  | [], j => by simp [wipe]
  | v :: vs, j => by
    unfold wipe
    rw [List.getElem?_set, wipe_length]
    by_cases hj : v = j
    · subst hj
      simp
    · rw [if_neg hj, wipe_get (vs := vs) (j := j)]
      simp [List.mem_cons, Ne.symm hj]
theorem wipe_agree {σ σ2 : St} {is vs : List Nat} (hs : ∀ i ∈ is, i ∈ vs) (a : Agree is (wipe σ vs) σ2) : wipe σ2 vs = wipe σ vs := by
  have hl : σ2.length = σ.length := a.1.trans (wipe_length σ vs)
  refine List.ext_getElem? fun j => ?_
  rw [wipe_get, wipe_get, hl]
  by_cases hj : j ∈ vs
  · rw [if_pos hj, if_pos hj]
  · rw [if_neg hj, if_neg hj, a.2 j (fun q => hj (hs j q)), wipe_get, if_neg hj]
end
section
variable {K : PySem.W.Frag} {cl : String → Addr} {W : WX}
theorem comp_core {J : It} {s : Src} {g : FG} {is vs : List Nat} {c : FT} {f : FE} {σ : St} {Q : Hp → Prop} {H0 : Hp} {ad0 : List Addr} {k : Nat} {D0 : Addr} (hs : ∀ i ∈ is, i ∈ vs) (wk : WalkOf K J H0 ad0 s) (ek : ad0[k]? = some D0) {r0 : Env} {m0 : Mem} (rm0 : RepM K ad0 m0 H0) (re0 : RepE K H0 ad0 (wipeE r0 vs) (wipe σ vs))
    {σ' : St} (h0 : Fin K cl W σ' H0 ad0 (fun d m => ∀ ad1 H1, Ext K H0 ad0 H1 ad1 → RepM K ad1 m H1 → d = .ref k → Q H1) (compL s g c f k (wipeE r0 vs) s.items m0)) :
    ∃ Wi : Nat → Nat → Hp → Prop, (∃ m, Wi 0 m H0) ∧ ∀ i m H, Wi i m H →
      (J.stop i H ∧ Q H) ∨ (J.go i H ∧ ∃ Nx : Hp → Prop, (∀ H', Nx H' → ∃ m', m' < m ∧ Wi (i + 1) m' H') ∧ ∀ x H', J.yld i H x H' → gT K is g x (wipe σ vs) H' fun σ2 H2 => wipe σ2 vs = wipe σ vs ∧ tT K cl W0 c σ2 H2 fun b H3 =>
        if b = true then tE K cl W0 f σ2 H3 fun y H4 => ∃ acc, H4 D0 = some (.lst acc) ∧ acc.length < sizeLine ∧ Nx (upd H4 D0 (.lst (acc ++ [y]))) else Nx H3) := by
  refine ⟨fun i n H => n = s.items.length - i ∧ i ≤ s.items.length ∧ ∃ ad m, Ext K H0 ad0 H ad ∧ RepM K ad m H ∧ Fin K cl W σ' H ad (fun d m => ∀ ad1 H1, Ext K H ad H1 ad1 → RepM K ad1 m H1 → d = .ref k → Q H1) (compL s g c f k (wipeE r0 vs) (s.items.drop i) m),
    ⟨_, rfl, Nat.zero_le _, ad0, m0, Ext.refl, rm0, h0⟩, ?_⟩
  rintro i n H ⟨rfl, hi, ad, m, x, rm, h⟩
  cases ed : s.items.drop i with
  | nil =>
    rw [ed, compL] at h
    have hl : s.items.length ≤ i := List.drop_eq_nil_iff.mp ed
    by_cases st : s.still m
    · rw [if_pos st] at h
      exact .inl ⟨(wk ad H m x rm st i).2 hl, h ad H Ext.refl rm rfl⟩
    · rw [if_neg st] at h
      exact h.elim
  | cons d rest =>
    rw [ed, compL] at h
    have hlt : i < s.items.length := by
      have := congrArg List.length ed
      simp at this
      omega
    have e0 : s.items[i]? = some d := by
      have := congrArg (fun l => l[0]?) ed
      simpa using this
    have e1 : s.items.drop (i + 1) = rest := by
      have := congrArg List.tail ed
      simpa using this
    by_cases st : s.still m
    · rw [if_pos st] at h
      obtain ⟨go, yl⟩ := (wk ad H m x rm st i).1 d e0
      refine .inr ⟨go, fun H' => ∃ ad' m', Ext K H0 ad0 H' ad' ∧ RepM K ad' m' H' ∧ Fin K cl W σ' H' ad' (fun d m => ∀ ad1 H1, Ext K H' ad' H1 ad1 → RepM K ad1 m H1 → d = .ref k → Q H1) (compL s g c f k (wipeE r0 vs) rest m'), fun H' hN => ⟨_, by omega, rfl, hlt, by rw [e1]; exact hN⟩, fun y H3 hy => ?_⟩
      obtain ⟨x3, rm3, rd3⟩ := yl y H3 hy
      cases eg : g d (wipeE r0 vs) with
      | none => rw [eg] at h; exact h.elim
      | some r1 =>
        rw [eg] at h
        refine ⟨ad, _, m, d, rm3, RepE.mono (x.trans x3) re0, rd3, r1, eg, fun σ2 re2 ag => ⟨wipe_agree hs ag, ad, r1, m, rm3, re2, ?_⟩⟩
        show Fin K cl W0 σ2 H3 ad _ (c r1 m)
        dsimp only at h
        cases ec : c r1 m with
        | ok b m1 =>
          rw [ec] at h
          cases b with
          | false => exact fun ad4 H4 x4 rm4 => iteF ⟨ad4, m1, x.trans (x3.trans x4), rm4, Fin.mono (x3.trans x4) (fun _ _ q ad1 H1 x1 => q ad1 H1 ((x3.trans x4).trans x1)) h⟩
          | true =>
            refine fun ad4 H4 x4 rm4 => iteT ⟨ad4, r1, m1, rm4, RepE.mono x4 re2, ?_⟩
            show Fin K cl W0 σ2 H4 ad4 _ (f r1 m1)
            dsimp only at h
            cases ef : f r1 m1 with
            | ok y2 m2 =>
              rw [ef] at h
              dsimp only at h
              refine fun ad5 H5 v5 x5 rm5 rd5 => ?_
              have xa : Ext K H ad H5 ad5 := x3.trans (x4.trans x5)
              cases em : m2[k]? with
              | none => rw [em] at h; exact h.elim
              | some mo =>
                rw [em] at h
                cases mo with
                | lst acc =>
                  dsimp only at h
                  have e5 : ad5[k]? = some D0 := pre_get (x.trans xa).pre ek
                  obtain ⟨ws, q2, rl⟩ := rm5.obj k _ D0 em e5
                  split at h
                  · rename_i hz
                    obtain ⟨rmw, xw⟩ := rm5.writeL e5 em q2 (rl.app (RepL.one rd5))
                    exact ⟨ws, q2, by rw [← rl.length]; exact hz, ad5, _, x.trans (xa.trans xw), rmw, Fin.mono (xa.trans xw) (fun _ _ q ad1 H1 x1 => q ad1 H1 ((xa.trans xw).trans x1)) h⟩
                  · exact h.elim
                | _ => exact h.elim
            | exc c2 m2 => rw [ef] at h; exact h.elim
            | bad => rw [ef] at h; exact h.elim
        | exc c2 m2 => rw [ec] at h; exact h.elim
        | bad => rw [ec] at h; exact h.elim
    · rw [if_neg st] at h
      exact h.elim
theorem compL_ref {s : Src} {g : FG} {c : FT} {f : FE} {k : Nat} {r0 : Env} : ∀ {ds : List D} {m : Mem} {d : D} {m' : Mem}, compL s g c f k r0 ds m = .ok d m' → d = .ref k
  | [], m, d, m', h => by
    rw [compL] at h
    split at h
    · cases h; rfl
    · cases h
  | a :: ds, m, d, m', h => by
    rw [compL] at h
    split at h
    · split at h
      · cases h
      · split at h
        · split at h
          · split at h
            · split at h
              · exact compL_ref h
              · cases h
            · cases h
          · cases h
        · exact compL_ref h
        · cases h
    · cases h
theorem comp_lc {vs is : List Nat} {fi : FI} {g : FG} {c : FT} {f : FE} {σ : St} {H : Hp} {Q : VK} (hs : ∀ i ∈ is, i ∈ vs) (h : tE K cl W (compE vs fi g c f) σ H Q) :
    tLc (tI K cl W fi) (gT K is g) (tT K cl W0 c) (tE K cl W0 f) vs σ H Q := by
  obtain ⟨ad, r, m, rm, re, h⟩ := h
  refine ⟨ad, r, m, rm, re, (fin_bind h).imp fun s m1 h1 ad1 H1 J x1 rm1 wk D hD => ?_⟩
  have xa := ext_alloc (K := K) (ad := ad1) (o := HO.lst []) hD
  have rma := rm1.allocL (ds := []) (vs := []) hD rfl
  have ek : (ad1 ++ [D])[m1.length]? = some D := by
    rw [← rm1.len, List.getElem?_append_right (Nat.le_refl _), Nat.sub_self]
    rfl
  have wka : WalkOf K J (upd H1 D (.lst [])) (ad1 ++ [D]) s := fun ad2 H2 m2 x2 rm2 st => wk ad2 H2 m2 (xa.trans x2) rm2 st
  refine comp_core hs wka ek rma (RepE.mono (x1.trans xa) (repE_wipe re vs)) (cl := cl) (W := W) (σ' := σ) ?_
  refine Fin.mono (x1.trans xa) (fun d m2 q ad2 H2 x2 rm2 ed => ?_) h1
  subst ed
  exact q ad2 H2 (.ref D) ((x1.trans xa).trans x2) rm2 ⟨D, rfl, pre_get x2.pre ek⟩
end
section
variable {X : Cx} {cl : String → Addr} {W : WX} {elt tg iter : Expr} {ifs : List Expr} {scope : Scope} {pos : Pos}
abbrev DTs (X : Cx) (cl : String → Addr) (W : WX) (ifs : List Expr) (c : FT) : Prop := PTs X ifs (tT X.K cl W c)
theorem tnil : DTs X cl W [] yesT := ⟨fun pins s σ H Q I h => by
  obtain ⟨ad, r, m, rm, re, h⟩ := h
  exact wpAny_tests_nil ⟨H, I, h ad H Ext.refl rm⟩⟩
theorem tone {c : Expr} {t : FT} (h : DT X cl W c t) : DTs X cl W [c] t := pts_one h
theorem dcomp {own : List (Str × Nat)} {is : List Nat} {fi : FI} {g : FG} {c : FT} {f : FE} (hc : X.calm = true) (hN : X.N.Nodup) (ok : BlkOk X.N X.env.scope scope own) (hi : DI X cl W tg iter fi)
    (hg : ∀ (s : Shared) (H : Hp) (C : Addr) (cc : List (Str × Addr)) (fp : List Addr), DG (X.blk s H scope (compEnvC scope cc C X.env) fp) is tg g)
    (ht : ∀ (s : Shared) (H : Hp) (C : Addr) (cc : List (Str × Addr)) (fp : List Addr), DTs (X.blk s H scope (compEnvC scope cc C X.env) fp) cl W0 ifs c)
    (he : ∀ (s : Shared) (H : Hp) (C : Addr) (cc : List (Str × Addr)) (fp : List Addr), DE (X.blk s H scope (compEnvC scope cc C X.env) fp) cl W0 elt f)
    (hsub : ∀ i ∈ is, i ∈ own.map (·.2) := by decide) (hs : ∀ x, foldedSetIterable iter X.env x = pure x := by intro _; rfl) :
    DE X cl W (.ListComp elt [⟨tg, iter, ifs, 0⟩] scope pos) (compE (own.map (·.2)) fi g c f) := PE.imp (pe_lc hc hN hi ok hg ht he hs) fun σ H Q h => comp_lc hsub h
/-- y = [..] on one line, y a local -/
theorem scomp {i : Nat} {y : Str} {py spos : Pos} {own : List (Str × Nat)} {is : List Nat} {fi : FI} {g : FG} {c : FT} {f : FE} (hc : X.calm = true) (hN : X.N.Nodup) (ok : BlkOk X.N X.env.scope scope own) (hi : DI X cl W tg iter fi)
    (hg : ∀ (s : Shared) (H : Hp) (C : Addr) (cc : List (Str × Addr)) (fp : List Addr), DG (X.blk s H scope (compEnvC scope cc C X.env) fp) is tg g)
    (ht : ∀ (s : Shared) (H : Hp) (C : Addr) (cc : List (Str × Addr)) (fp : List Addr), DTs (X.blk s H scope (compEnvC scope cc C X.env) fp) cl W0 ifs c)
    (he : ∀ (s : Shared) (H : Hp) (C : Addr) (cc : List (Str × Addr)) (fp : List Addr), DE (X.blk s H scope (compEnvC scope cc C X.env) fp) cl W0 elt f)
    (hy : X.N[i]? = some y := by rfl) (hyl : X.env.scope.names.lookup y = some .local := by rfl)
    (hsw : swapsWith (.ListComp elt [⟨tg, iter, ifs, 0⟩] scope pos) (some (.Name y py)) spos.line X.env = pure true := by exact sw_true rfl rfl (by decide +kernel))
    (hsub : ∀ i ∈ is, i ∈ own.map (·.2) := by decide) (hs : ∀ x, foldedSetIterable iter X.env x = pure x := by intro _; rfl) :
    DS X cl W (.Assign [.Name y py] (.ListComp elt [⟨tg, iter, ifs, 0⟩] scope pos) spos) (asgS i (compE (own.map (·.2)) fi g c f)) := PS.imp (ps_setLc hc hN hy hyl hsw hi ok hg ht he hs) fun σ H D h => by
  have h' : tE X.K cl W (compE (own.map (·.2)) fi g c f) σ H fun x H1 => gName i x σ H1 D.nx := by
    obtain ⟨ad, r, m, rm, re, h⟩ := h
    exact tE_of rm re h fun ad1 H1 m1 x v x1 rm1 re1 rd h1 => h1 ad1 H1 _ Ext.refl rm1 (re1.set i rd)
  exact comp_lc hsub h'
end

/-! ## try: .. except X (as n): return a constant -/
/-- in a suite: a constant, told by the caught class -/
def SE (X : Cx) (i : Nat) (a : Addr) (e : Expr) (v : V) : Prop := PE X e (fun σ H Q => σ[i]? = some (some (.ref a)) ∧ Q v H)
def ST (X : Cx) (i : Nat) (a : Addr) (e : Expr) (b : Bool) : Prop := PT X e (fun σ H Q => σ[i]? = some (some (.ref a)) ∧ Q b H)
section
variable {X : Cx} {i : Nat} {a : Addr} {e e1 e2 c : Expr} {pos : Pos}
theorem se_c {v : V} (h : PE X e (tC v)) : SE X i a e v := PE.imp h fun _ _ _ q => q.2
theorem se_if {b : Bool} {v1 v2 : V} (hc : ST X i a c b) (h1 : SE X i a e1 v1) (h2 : SE X i a e2 v2) : SE X i a (.IfExp c e1 e2 pos) (if b = true then v1 else v2) := PE.imp (pe_ifExp hc h1 h2) fun σ H Q q => ⟨q.1, by
  cases b with
  | true => exact iteT ⟨q.1, by simpa using q.2⟩
  | false => exact iteF ⟨q.1, by simpa using q.2⟩⟩
theorem se_add {x y : Str} (h1 : SE X i a e1 (.str x)) (h2 : SE X i a e2 (.str y)) (hz : x.length + y.length ≤ sizeLine) : SE X i a (.BinOp e1 .Add e2 pos) (.str (x ++ y)) := PE.imp (pe_op op_add_str h1 h2) fun σ H Q q => ⟨q.1, q.1, x, y, rfl, rfl, hz, q.2⟩
theorem se_eq {v v' : V} (h : SE X i a e v) (q : v = v') : SE X i a e v' := q ▸ h
theorem st_val {b : Bool} (h : SE X i a e (.bl b)) (he : ∀ whole, isTrue e X.env whole = (do let v ← whole; standAt e.pos; holding [v] (truthy v)) := by intro _; rfl) : ST X i a e b := PT.imp (pt_val h he) fun σ H Q q => ⟨q.1, b, rfl, q.2⟩
/-- what handlers ask of the classes -/
structure HandC (K : PySem.W.Frag) (cl : String → Addr) (n c : String) (b : Bool) : Prop where
  exm : PySem.W.exmOne K (.ref (cl n)) (.ref (cl c)) = some b
  kit : PySem.W.kitOne K (.ref (cl n)) (.ref (cl c)) = some b
  exc : ExcC K (cl n)
end
/-- isinstance(e, C) of the caught one -/
theorem se_isi {X : Cx} {i : Nat} {a : Addr} {cl : String → Addr} {n c : String} {b : Bool} {oe : Obj} {pn : List (Addr × Obj)} {x : Str} {p p2 p3 pos : Pos} (E : HandC X.K cl n c b) (hz : Zc (.ref (cl n)) none oe) (hf : ∃ vs, oe.data = .fields vs) (hm : X.mg "isinstance" = none) (hgc : X.mg (PySem.Str.ofString c) = some (.ref (cl c)))
    (hN : (X.suite a ((a, oe) :: pn)).N[i]? = some x := by rfl) (hv : Vis X.env.scope x := by exact Or.inl rfl) (hd : (x == ("__debug__" : Str)) = false := by decide) (hcd : (x == ("__classdict__" : Str)) = false := by decide)
    (hg : Gl (X.suite a ((a, oe) :: pn)) "isinstance" := by rfl) (hg2 : Gl (X.suite a ((a, oe) :: pn)) (PySem.Str.ofString c) := by rfl) (hdb : (PySem.Str.ofString c == ("__debug__" : Str)) = false := by decide)
    (he1 : starEach [.Name x p2, .Name (PySem.Str.ofString c) p3] X.env = (false, eval (.Name x p2) X.env) :: starEach [.Name (PySem.Str.ofString c) p3] X.env := by rfl) (he2 : starEach [.Name (PySem.Str.ofString c) p3] X.env = (false, eval (.Name (PySem.Str.ofString c) p3) X.env) :: starEach [] X.env := by rfl) (hpl : (backTo pos (starEach [.Name (PySem.Str.ofString c) p3] X.env)).any (·.1) = false := by rfl) :
    SE (X.suite a ((a, oe) :: pn)) i a (.Call (.Name "isinstance" p) [.Name x p2, .Name (PySem.Str.ofString c) p3] [] pos) (.bl b) := by
  have hC : PE (X.suite a ((a, oe) :: pn)) (.Name (PySem.Str.ofString c) p3) (tC (.ref (cl c))) := pe_glob (X := X.suite a ((a, oe) :: pn)) hg2 hgc rfl hdb
  refine PE.imp (pe_callB (X := X.suite a ((a, oe) :: pn)) (call_isE E.exc hz hf) hg hm (by decide +kernel) (pa_cons (pe_var (i := i) hN hv hd hcd) (pa_cons hC pa_nil he2) he1) (by decide) (by decide) he1 hpl) fun σ H Q q => ?_
  exact ⟨_, q.1, .ref (cl c), .ref (cl c), b, rfl, fun u h => h, E.kit, q.2⟩
section
variable {X : Cx} {cl : String → Addr} {W : WX} {body : List Stmt} {f : FS} {e : Expr} {x n : Str} {i : Nat} {np rp pos pos' : Pos} {cs : List String}
theorem stry_as {C : String} {sub : String → Bool} {val : String → D} {vv : String → V} (hcl : Names X x (.ref (cl C))) (tk : Takes X W) (hx : ∀ n ∈ cs, HandC X.K cl n C (sub n)) (hval : ∀ n ∈ cs, sub n = true → ∀ H ad v, RepD X.K H ad (val n) v ↔ v = vv n)
    (hb : ∀ (W : WX) (pn : List (Addr × Obj)) (xe : Value → Shared → Prop), Takes (X.tr pn xe) W → PassesOwn (model X.prog X.w) X.A X.env xe → DSs (X.tr pn xe) cl W body f)
    (hsu : ∀ (c : String), c ∈ cs → ∀ (a : Addr) (oe : Obj) (pn : List (Addr × Obj)), Zc (.ref (cl c)) none oe → (∃ vs, oe.data = .fields vs) → SE (X.suite a ((a, oe) :: pn)) i a e (vv c))
    (hN : X.N.Nodup) (hi : X.N[i]? = some n := by rfl) (hln : X.env.kindOf n = some .local := by rfl) (hs : X.stack = X.env :: X.outer := by rfl) (hf : X.env.frame = some X.env.locals := by rfl) :
    DS X cl W (.Try body [.ExceptHandler (some (.Name x np)) (some n) [.Return (some e) rp] pos'] [] [] pos) (tryR i cs (fun c => if sub c = true then some (val c) else none) f) :=
  PS.imp (ps_try_as (tb := fun W => tS X.K cl W f) (ts := fun a cls d D σ H => ∃ c ∈ cs, sub c = true ∧ cls = .ref (cl c) ∧ d = none ∧ σ[i]? = some (some (.ref a)) ∧ D.rt (vv c) H) hs hf hN hi hln hcl tk hb fun a oe cls d pn hz hfl => by
      refine ⟨fun pins s σ H D I q => ?_⟩
      obtain ⟨c, hc, _, rfl, rfl, hσ, hq⟩ := q
      exact (pss_one (ps_ret (hsu c hc a oe pn hz hfl))).run pins s σ H D I ⟨hσ, hq⟩) fun σ H D h => by
    obtain ⟨ad, r, m, rm, re, h⟩ := h
    refine ⟨ad, r, m, rm, re, ?_⟩
    show FinS X.K cl _ H ad D (f r m)
    unfold tryR at h
    cases ef : f r m with
    | ok fl r' m' => rw [ef] at h; exact h
    | bad => rw [ef] at h; exact h.elim
    | exc c r' m' =>
      rw [ef] at h
      dsimp only at h
      split at h
      · rename_i hc
        intro ad1 H1 σ1 x1 rm1 re1
        refine ⟨sub c, (hx c hc.1).exm, fun hb a ha => ⟨c, hc.1, hb, rfl, rfl, List.getElem?_set_self (by rw [← re1.1]; exact hc.2), ?_⟩, fun hb => ?_⟩
        · rw [if_pos hb] at h
          exact h ad1 H1 σ1 x1 rm1 re1 (vv c) ((hval c hc.1 hb H1 ad1 _).mpr rfl)
        · rw [if_neg (by rw [hb]; decide)] at h
          exact h ad1 H1 σ1 x1 rm1 re1
      · exact h.elim
theorem stry_only {C : String} {sub : String → Bool} {val : D} {vv : V} {i : Nat} (hcl : Names X x (.ref (cl C))) (tk : Takes X W) (hx : ∀ n ∈ cs, HandC X.K cl n C (sub n)) (hval : ∀ H ad v, RepD X.K H ad val v ↔ v = vv)
    (hb : ∀ (W : WX) (pn : List (Addr × Obj)) (xe : Value → Shared → Prop), Takes (X.tr pn xe) W → PassesOwn (model X.prog X.w) X.A X.env xe → DSs (X.tr pn xe) cl W body f)
    (hsu : ∀ (a : Addr) (oe : Obj) (pn : List (Addr × Obj)), PE (X.suite a ((a, oe) :: pn)) e (tC vv)) (hs : X.stack = X.env :: X.outer := by rfl) (hf : X.env.frame = some X.env.locals := by rfl) :
    DS X cl W (.Try body [.ExceptHandler (some (.Name x np)) none [.Return (some e) rp] pos'] [] [] pos) (tryR i cs (fun c => if sub c = true then some val else none) f) :=
  PS.imp (ps_try_only (tb := fun W => tS X.K cl W f) (ts := fun a cls d D σ H => D.rt vv H) hs hf hcl tk hb fun a oe cls d pn hz hfl => pss_one (ps_ret (hsu a oe pn))) fun σ H D h => by
    obtain ⟨ad, r, m, rm, re, h⟩ := h
    refine ⟨ad, r, m, rm, re, ?_⟩
    show FinS X.K cl _ H ad D (f r m)
    unfold tryR at h
    cases ef : f r m with
    | ok fl r' m' => rw [ef] at h; exact h
    | bad => rw [ef] at h; exact h.elim
    | exc c r' m' =>
      rw [ef] at h
      dsimp only at h
      split at h
      · rename_i hc
        intro ad1 H1 σ1 x1 rm1 re1
        refine ⟨sub c, (hx c hc.1).exm, fun hb a ha => ?_, fun hb => ?_⟩
        · rw [if_pos hb] at h
          exact h ad1 H1 σ1 x1 rm1 re1 vv ((hval H1 ad1 _).mpr rfl)
        · rw [if_neg (by rw [hb]; decide)] at h
          exact h ad1 H1 σ1 x1 rm1 re1
      · exact h.elim
end
end Mi

end

section
set_option Elab.async false
set_option linter.all false
set_option maxRecDepth 100000
set_option maxHeartbeats 4000000
namespace Mi
open PySem PySem.Spec L2
open PyProof.Rows hiding St

/-! ## order -/
def isNon : PyData → Bool
  | .none => true
  | _ => false
def ordOk (p q : PyData) : Bool := PyData.canLay0 p && PyData.canLay0 q && PySem.W.alike p q && !isNon p && decide (p.depth ≤ 64)
def ordG (f : PyData → PyData → Bool) : G2 := fun x y m => if ordOk (pdM m x) (pdM m y) = true then some (.bl (f (pdM m x) (pdM m y)), m) else none
def ltG : G2 := ordG fun p q => PySem.W.dataLt p q
def gtG : G2 := ordG fun p q => PySem.W.dataLt q p
def leG : G2 := ordG fun p q => !PySem.W.dataLt q p
def geG : G2 := ordG fun p q => !PySem.W.dataLt p q
section
variable {X : Cx}
theorem ord_op {op : CmpOp} {f : PyData → PyData → Bool} (hu : X.A.units + 64 < cLine)
    (rule : ∀ (s : Shared) (a b : Value) (da db : PyData) (as bs : List Addr) (Q E : Value → Shared → Prop), Reads s.heap a da as → Reads s.heap b db bs → PySem.W.alike da db = true → da ≠ .none → X.A.units + min da.depth db.depth < cLine → Q (.bool (f da db)) s → wpAny (model X.prog X.w) X.A (compareOp op a b) Q E s) :
    OpR X (compareOp op) (rD2 X.K (ordG f)) := by
  intro pins s σ H x y v u Q I rx ry h
  obtain ⟨ad, m, dx, dy, rm, qx, qy, d, m', e, q⟩ := h
  unfold ordG at e
  split at e
  · rename_i hc
    unfold ordOk at hc
    simp only [Bool.and_eq_true, decide_eq_true_eq, Bool.not_eq_true'] at hc
    obtain ⟨⟨⟨⟨c1, c2⟩, c3⟩, c4⟩, c5⟩ := hc
    cases e
    obtain ⟨as, r1⟩ := Dp.reads I _ x v (qx.dpM rm c1) rx
    obtain ⟨bs, r2⟩ := Dp.reads I _ y u (qy.dpM rm c2) ry
    have hm : min (pdM m dx).depth (pdM m dy).depth ≤ (pdM m dx).depth := Nat.min_le_left _ _
    refine rule s v u _ _ as bs _ _ r1 r2 c3 (fun z => by rw [z] at c4; cases c4) (by omega) ⟨.bl _, H, I, rfl, q ad H _ Ext.refl rm rfl⟩
  · cases e
theorem o_lt (hu : X.A.units + 64 < cLine) : OpR X (compareOp .Lt) (rD2 X.K ltG) := ord_op hu fun s a b da db as bs Q E r1 r2 h hn hu q => PySem.W.lt_data r1 r2 h hn hu q
theorem o_gt (hu : X.A.units + 64 < cLine) : OpR X (compareOp .Gt) (rD2 X.K gtG) := ord_op hu fun s a b da db as bs Q E r1 r2 h hn hu q => PySem.W.gt_data r1 r2 h hn hu q
theorem o_le (hu : X.A.units + 64 < cLine) : OpR X (compareOp .LtE) (rD2 X.K leG) := ord_op hu fun s a b da db as bs Q E r1 r2 h hn hu q => PySem.W.le_data r1 r2 h hn hu q
theorem o_ge (hu : X.A.units + 64 < cLine) : OpR X (compareOp .GtE) (rD2 X.K geG) := ord_op hu fun s a b da db as bs Q E r1 r2 h hn hu q => PySem.W.ge_data r1 r2 h hn hu q
end

/-! ## the text's defs -/
section
variable (P : Program) (w : World) (K : PySem.W.Frag) (mg : Str → Option Value) (base : Heap) (cl : String → Addr)
/-- a def does what its mirror does -/
def Has (x : Str) (k : Nat) (ps : List Str) (G : Fn) : Prop := ∃ f fd, FnOk P w K mg base (L2.CX P w) k f fd ps (spF K cl G) ∧ mg x = some (.ref f) ∧ PySem.W.keepIn K (.ref f) = true ∧ Binds K fd ps [] ∧ ∃ o, K.lookup f = some o ∧ o.data = .func fd
/-- a def stands in the text -/
def Def (x : Str) (st : Stmt) (ps : List Str) : Prop := ∃ f fd, Fun K x x st f fd ∧ mg x = some (.ref f) ∧ Binds K fd ps []
end
section
variable {P : Program} {w : World} {K : PySem.W.Frag} {mg : Str → Option Value} {base : Heap} {cl : String → Addr}
theorem has_of {x : Str} {st : Stmt} {N ps : List Str} {k : Nat} {body : FS} (D : Def K mg x st ps) (S : FnScope N ps (defScope st))
    (hb : ∀ (f : Addr) (cdv : Value) (A : Around) (outer : List PySem.Env) (s : Shared) (H : Hp) (E : XK), Room k (A.deeper (envOfC x (defScope st) s.heap.objs.size f cdv)) →
      DSs (cxOf (L2.CX P w) P w K mg base N x (defScope st) f cdv A outer s H E) cl (fun cls d _ H => E cls d H) (defBody st) body) :
    Has P w K mg base cl x (k + 1) ps (defF N.length ps.length body) := by
  obtain ⟨f, fd, F, hm, bi⟩ := D
  refine ⟨f, fd, fdef F S (hb f), hm, F.kp, bi, ?_⟩
  obtain ⟨oc, od, kV, doc, pm, an, cdv, ct, osl, _, l, _⟩ := F.ex
  exact ⟨_, l, rfl⟩
end
section
variable {X : Cx} {cl : String → Addr} {W : WX} {e : Expr} {es : List Expr} {fs : FA} {pos : Pos}
theorem dcl {k j : Nat} {ps : List Str} {x : Str} {p : Pos} {G : Fn} (F : Has X.prog X.w X.K X.mg X.base cl x k ps G) (hr : Room j X.A) (tk : Takes X W) 
    (ha : DA X cl W (e :: es) fs) (hj : k ≤ j := by decide) (hg : Gl X x := by rfl) (hdb : (x == ("__debug__" : Str)) = false := by decide) (he : starEach (e :: es) X.env = (false, eval e X.env) :: starEach es X.env := by rfl) (hpl : (backTo pos (starEach es X.env)).any (·.1) = false := by rfl) :
    DE X cl W (.Call (.Name x p) (e :: es) [] pos) (callE G fs) := by
  obtain ⟨f, fd, F, hm, hk, bi, _⟩ := F
  exact dcall F (hr.mono hj) tk hm hk bi ha hg hdb he hpl
end
theorem def_mk {K : PySem.W.Frag} {mg : Str → Option Value} {h : Heap} {x : Str} {st : Stmt} {ps : List Str} (X : K.In h) (G : h.Ns mainGlobals mg) {f : Addr} {oc : Value} {od an : Option Addr} {osl : Array (Option Value)} {kV doc pm cdv ct : Value}
    (a : PySem.W.nsIn K mainGlobals x = some (some (.ref f))) (l : K.lookup f = some ⟨oc, od, .func (PySem.W.fnOf x x (defArgs st) (defBody st) (defScope st) .none kV doc pm an cdv ct), osl⟩)
    (c : PySem.W.codeIn K cdv x = true) (k : PySem.W.keepIn K (.ref f) = true)
    (b : ∀ (kV doc pm : Value) (an : Option Addr) (cdv ct : Value) (us : List Value), us.length = ps.length → bindArgs (PySem.W.fnOf x x (defArgs st) (defBody st) (defScope st) .none kV doc pm an cdv ct) ⟨us, []⟩ = pure (ps.zip us)) : Def K mg x st ps :=
  ⟨f, _, fun_mk l c k, PySem.W.mg_of X G a, (fun_mk (st := st) l c k).binds b⟩

/-- the classes' places -/
def clK (K : PySem.W.Frag) (n : String) : Addr := match PySem.W.nsIn K mainGlobals (PySem.Str.ofString n) with
  | some (some (.ref a)) => a
  | _ => 0
theorem clK_eq {K : PySem.W.Frag} {n : String} {C : Addr} (a : PySem.W.nsIn K mainGlobals (PySem.Str.ofString n) = some (some (.ref C))) : clK K n = C := by
  unfold clK
  rw [a]
def isSub (c C : String) : Bool := c == C || C == "HallError"
theorem errC_mk {K : PySem.W.Frag} {mg : Str → Option Value} {h : Heap} {n : String} {C : Addr} (X : K.In h) (G : h.Ns mainGlobals mg) (a : PySem.W.nsIn K mainGlobals (PySem.Str.ofString n) = some (some (.ref C)))
    (ex : PySem.W.excIn K C [.type "ValueError", .type "Exception", .type "BaseException", .type "object"] "ValueError.__new__" = true) (k : PySem.W.keepIn K (.ref C) = true) (b : PySem.W.subIn K (.ref C) (.type "BaseException") = some true) (t : PySem.W.typeIn K (.ref C) = some (.type "type")) : ErrC K mg (clK K) n := by
  have e := clK_eq a
  exact ⟨by rw [e]; exact ex, by rw [e]; exact PySem.W.mg_of X G a, by rw [e]; exact k, by rw [e]; exact b, by rw [e]; exact t⟩
theorem handC_mk {K : PySem.W.Frag} {n c : String} {C D : Addr} {r : Bool} (a : PySem.W.nsIn K mainGlobals (PySem.Str.ofString n) = some (some (.ref D))) (b : PySem.W.nsIn K mainGlobals (PySem.Str.ofString c) = some (some (.ref C)))
    (hs : PySem.W.subIn K (.ref D) (.ref C) = some r) (h1 : PySem.W.subIn K (.ref C) (.type "BaseException") = some true) (hdct : PySem.W.hasDictIn K C = true) (ht : PySem.W.typeIn K (.ref C) = some (.type "type")) (ne : r = true ∨ D ≠ C) (exc : ExcC K D) : HandC K (clK K) n c r := by
  have e := clK_eq a
  have e2 := clK_eq b
  have kc : PySem.W.kitCls K (.ref D) (.ref C) = some r := by
    have x := PySem.W.exm_ref h1 hdct ht hs
    unfold PySem.W.exmOne at x
    rw [if_pos (by rw [h1]; rfl)] at x
    exact x
  refine ⟨by rw [e, e2]; exact PySem.W.exm_ref h1 hdct ht hs, ?_, by rw [e]; exact exc⟩
  rw [e, e2]
  unfold PySem.W.kitOne
  by_cases q : D = C
  · subst q
    rw [if_pos (by simp)]
    rcases ne with rfl | z
    · rfl
    · exact absurd rfl z
  · rw [if_neg (by simpa using q)]
    exact kc

/-! ## a law's end -/
theorem law_sp {K : PySem.W.Frag} {cl : String → Addr} {F : Fn} {ns : List Int} (h : ∃ m', F [.ref 0] [.con (ns.map .int)] = .ok (.bl true) m') {H : Hp} {a : Addr} (ho : Only H) (hs : SqL K H a (ns.map V.int)) :
    spF K cl F [.ref a] H (fun v _ => v = .bl true) fun _ _ _ => False := by
  obtain ⟨m', e⟩ := h
  have ri : ∀ (ns : List Int), RepL K H [a] (ns.map .int) (ns.map V.int) := fun ns => by
    induction ns with
    | nil => rfl
    | cons n ns ih => exact ⟨.int n, _, rfl, rfl, ih⟩
  refine ⟨[a], [.con (ns.map .int)], [.ref 0], ⟨rfl, fun n k b o u e1 e2 e3 e4 ne => ?_, fun n o b e1 e2 => ?_⟩, ⟨.ref a, [], rfl, ⟨a, rfl, rfl⟩, rfl⟩, ?_⟩
  · cases n with
    | zero => cases e3; exact .inl trivial
    | succ n => simp at e3
  · cases n with
    | zero =>
      cases e1
      cases e2
      refine ⟨_, ?_, ri ns⟩
      rcases hs with (q | ⟨ob, q⟩) | q
      · rcases ho a with z | ⟨o, xs, z⟩
        · rw [z] at q; cases q
        · rw [z] at q; cases q
      · exact .inl ⟨ob, q⟩
      · exact .inr q
    | succ n => simp at e1
  · rw [e]
    exact fun ad1 H1 v x rm rd => rd
def spK (F : Fn) (K : PySem.W.Frag) : Sp := spF K (clK K) F
theorem law_spK {K : PySem.W.Frag} {F : Fn} {ns : List Int} (h : ∃ m', F [.ref 0] [.con (ns.map .int)] = .ok (.bl true) m') {H : Hp} {a : Addr} (ho : Only H) (hs : SqL K H a (ns.map V.int)) : spK F K [.ref a] H (fun v _ => v = .bl true) fun _ _ _ => False := law_sp h ho hs
/-- two looks at one def -/
theorem fn_same {P : Program} {w : World} {K : PySem.W.Frag} {mg : Str → Option Value} {base : Heap} {cl : String → Addr} {k : Nat} {f : Addr} {fd : FuncData} {ps : List Str} {G : Fn} {x : Str} {st : Stmt} (F : Fun K x x st f fd) (hm : mg x = some (.ref f)) (h : Has P w K mg base cl x k ps G) : FnOk P w K mg base (L2.CX P w) k f fd ps (spF K cl G) := by
  obtain ⟨f2, fd2, F2, hm2, _, _, o, l2, d2⟩ := h
  have e := hm2.symm.trans hm
  cases e
  obtain ⟨oc, od, kV, doc, pm, an, cdv, ct, osl, _, l, _⟩ := F.ex
  rw [l] at l2
  cases l2
  cases d2
  exact F2
theorem law_cx {P : Program} {w : World} {H : Hp} {s : Shared} {e : Value} {s' : Shared} (h : L2.CX P w [] H s (fun _ _ _ => False) e s') : False := by
  obtain ⟨_, _, _, _, _, _, _, _, _, _, _, _, z⟩ := h
  exact z
end Mi

end

section
set_option Elab.async false
set_option linter.all false
set_option maxRecDepth 100000
set_option maxHeartbeats 4000000
namespace Mi
open PySem PySem.Spec L2
open PyProof.Rows hiding St

/-! ## reckoning with mirrors -/
section
variable {α β : Type} {a : α} {m : Mem} {g : α → Mem → Res β} {c : String} {k : α → Mem → SRes} {r : Env}
theorem bind_ok : Res.bind (.ok a m) g = g a m := rfl
theorem bind_exc : Res.bind (.exc c m : Res α) g = .exc c m := rfl
theorem of_ok : SRes.of (.ok a m) r k = k a m := rfl
theorem of_exc : SRes.of (.exc c m : Res α) r k = .exc c r m := rfl
end
theorem nc0 : ((0 : Nat) : Int) = 0 := rfl
theorem nc1 : ((1 : Nat) : Int) = 1 := rfl
theorem nc2 : ((2 : Nat) : Int) = 2 := rfl
theorem nc3 : ((3 : Nat) : Int) = 3 := rfl
theorem nc4 : ((4 : Nat) : Int) = 4 := rfl
theorem nc5 : ((5 : Nat) : Int) = 5 := rfl
theorem nc6 : ((6 : Nat) : Int) = 6 := rfl
theorem nc7 : ((7 : Nat) : Int) = 7 := rfl
theorem nc8 : ((8 : Nat) : Int) = 8 := rfl
theorem nc9 : ((9 : Nat) : Int) = 9 := rfl
theorem lft_some {d : D} {m : Mem} : lft (some (d, m)) = .ok d m := rfl
/-! ### by value -/
def kseq (x : SRes) (g : FS) : SRes := match x with
  | .ok .nx r' m' => g r' m'
  | x => x
def k1 (x : Res D) (g : G1) : Res D := match x with
  | .ok d m => lft (g d m)
  | .exc c m => .exc c m
  | .bad => .bad
def k2a (x : Res D) (b : FE) (g : G2) (r : Env) : Res D := match x with
  | .ok d m => (b r m).bind fun y m2 => lft (g d y m2)
  | .exc c m => .exc c m
  | .bad => .bad
def k2b (x : D) (y : Res D) (g : G2) : Res D := match y with
  | .ok d m => lft (g x d m)
  | .exc c m => .exc c m
  | .bad => .bad
def kN (x : Res (List D)) (g : GN) : Res D := match x with
  | .ok d m => lft (g d m)
  | .exc c m => .exc c m
  | .bad => .bad
def kca (x : Res D) (b : FA) (r : Env) : Res (List D) := match x with
  | .ok d m => (b r m).bind fun y m2 => .ok (d :: y) m2
  | .exc c m => .exc c m
  | .bad => .bad
def kcb (x : D) (y : Res (List D)) : Res (List D) := match y with
  | .ok d m => .ok (x :: d) m
  | .exc c m => .exc c m
  | .bad => .bad
def kasg (i : Nat) (x : Res D) (r : Env) : SRes := match x with
  | .ok d m => .ok .nx (r.set i (some d)) m
  | .exc c m => .exc c r m
  | .bad => .bad
def kret (x : Res D) (r : Env) : SRes := match x with
  | .ok d m => .ok (.rt d) r m
  | .exc c m => .exc c r m
  | .bad => .bad
def kdrop (x : Res D) (r : Env) : SRes := match x with
  | .ok _ m => .ok .nx r m
  | .exc c m => .exc c r m
  | .bad => .bad
def kif (x : Res Bool) (f g : FS) (r : Env) : SRes := match x with
  | .ok b m => if b then f r m else g r m
  | .exc c m => .exc c r m
  | .bad => .bad
def kife (x : Res Bool) (f g : FE) (r : Env) : Res D := match x with
  | .ok b m => if b then f r m else g r m
  | .exc c m => .exc c m
  | .bad => .bad
def kval (x : Res D) : Res Bool := match x with
  | .ok (.bl b) m => .ok b m
  | .exc c m => .exc c m
  | _ => .bad
def knot (x : Res Bool) : Res Bool := match x with
  | .ok b m => .ok (!b) m
  | .exc c m => .exc c m
  | _ => .bad
def kand (x : Res Bool) (g : FT) (r : Env) : Res Bool := match x with
  | .ok b m => if b then g r m else .ok false m
  | .exc c m => .exc c m
  | _ => .bad
def kor (x : Res Bool) (g : FT) (r : Env) : Res Bool := match x with
  | .ok b m => if b then .ok true m else g r m
  | .exc c m => .exc c m
  | _ => .bad
def kandv (x : Res D) (g : FE) (r : Env) : Res D := match x with
  | .ok (.bl b) m => if b then g r m else .ok (.bl false) m
  | .exc c m => .exc c m
  | _ => .bad
def korv (x : Res D) (g : FE) (r : Env) : Res D := match x with
  | .ok (.bl b) m => if b then .ok (.bl true) m else g r m
  | .exc c m => .exc c m
  | _ => .bad
def knotv (x : Res D) : Res D := match x with
  | .ok (.bl b) m => .ok (.bl (!b)) m
  | .exc c m => .exc c m
  | _ => .bad
def kcall (x : Res (List D)) (G : Fn) : Res D := match x with
  | .ok d m => G d m
  | .exc c m => .exc c m
  | .bad => .bad
def kpar (i j : Nat) (x : Res (List D)) (r : Env) : SRes := match x with
  | .ok [a, b] m => .ok .nx ((r.set i (some a)).set j (some b)) m
  | .exc c m => .exc c r m
  | _ => .bad
def kasgG (g : FG) (x : Res D) (r : Env) : SRes := match x with
  | .ok d m => match g d r with
    | some r' => .ok .nx r' m
    | none => .bad
  | .exc c m => .exc c r m
  | .bad => .bad
def kapp (x : Res D) (e : FE) (r : Env) : Res D := match x with
  | .ok (.ref n) m => match m[n]? with
    | some (.lst _) => (e r m).bind fun d m2 => match m2[n]? with
      | some (.lst xs) => if xs.length < sizeLine then .ok .non (m2.set n (.lst (xs ++ [d]))) else .bad
      | _ => .bad
    | _ => .bad
  | .exc c m => .exc c m
  | _ => .bad
noncomputable def kfor (x : Res Src) (tg : FG) (b : FS) (r : Env) : SRes := match x with
  | .ok s m => forL s tg b s.items r m
  | .exc c m => .exc c r m
  | .bad => .bad
def ksrc (x : Res D) : Res Src := match x with
  | .ok (.tup ds) m => .ok (.fix ds) m
  | .ok (.ref n) m => match itemsOf m n with
    | some ds => .ok (.lst n ds) m
    | none => .bad
  | .ok (.str z) m => .ok (.fix (strItems z)) m
  | .exc c m => .exc c m
  | _ => .bad
def pick (x : Option (Option D)) (m : Mem) : Res D := match x with
  | some (some d) => .ok d m
  | _ => .bad
def finF (x : SRes) : Res D := match x with
  | .ok .nx _ m' => .ok .non m'
  | .ok (.rt d) _ m' => .ok d m'
  | .exc c _ m' => .exc c m'
  | _ => .bad
section
variable {f g : FS} {a b : FE} {h : FA} {c t : FT} {g1 : G1} {g2 : G2} {gn : GN} {r r' : Env} {m m' : Mem} {i j n p : Nat} {G : Fn} {tg : FG} {d x y : D} {ds : List D} {e : String} {k : Bool}
theorem seqS_ap : seqS f g r m = kseq (f r m) g := rfl
theorem kseq_nx : kseq (.ok .nx r m) g = g r m := rfl
theorem kseq_rt : kseq (.ok (.rt d) r m) g = .ok (.rt d) r m := rfl
theorem kseq_bk : kseq (.ok .bk r m) g = .ok .bk r m := rfl
theorem kseq_ct : kseq (.ok .ct r m) g = .ok .ct r m := rfl
theorem kseq_exc : kseq (.exc e r m) g = .exc e r m := rfl
theorem kseq_bad : kseq .bad g = .bad := rfl
theorem nxS_ap : nxS r m = .ok .nx r m := rfl
theorem bkS_ap : bkS r m = .ok .bk r m := rfl
theorem ctS_ap : ctS r m = .ok .ct r m := rfl
theorem raiseS_ap : raiseS e r m = .exc e r m := rfl
theorem retN_ap : retN r m = .ok (.rt .non) r m := rfl
theorem op1_ap : op1 a g1 r m = k1 (a r m) g1 := by unfold op1 k1 Res.bind; cases a r m <;> rfl
theorem k1_ok : k1 (.ok d m) g1 = lft (g1 d m) := rfl
theorem op2_ap : op2 a b g2 r m = k2a (a r m) b g2 r := by unfold op2 k2a Res.bind; cases a r m <;> rfl
theorem k2a_ok : k2a (.ok d m) b g2 r = k2b d (b r m) g2 := by
  show (b r m).bind (fun y m2 => lft (g2 d y m2)) = k2b d (b r m) g2
  cases b r m <;> rfl
theorem k2b_ok : k2b x (.ok d m) g2 = lft (g2 x d m) := rfl
theorem opN_ap : opN h gn r m = kN (h r m) gn := by unfold opN kN Res.bind; cases h r m <;> rfl
theorem kN_ok : kN (.ok ds m) gn = lft (gn ds m) := rfl
theorem nilA_ap : nilA r m = .ok [] m := rfl
theorem consA_ap : consA a h r m = kca (a r m) h r := by unfold consA kca Res.bind; cases a r m <;> rfl
theorem kca_ok : kca (.ok d m) h r = kcb d (h r m) := by
  show (h r m).bind (fun y m2 => .ok (d :: y) m2) = kcb d (h r m)
  cases h r m <;> rfl
theorem kcb_ok : kcb x (.ok ds m) = .ok (x :: ds) m := rfl
theorem varE_ap : varE i r m = pick r[i]? m := rfl
theorem pick_ok : pick (some (some d)) m = .ok d m := rfl
theorem cstE_ap : cstE d r m = .ok d m := rfl
theorem asgS_ap : asgS i a r m = kasg i (a r m) r := by unfold asgS kasg SRes.of; cases a r m <;> rfl
theorem kasg_ok : kasg i (.ok d m) r = .ok .nx (r.set i (some d)) m := rfl
theorem kasg_exc : kasg i (.exc e m) r = .exc e r m := rfl
theorem retS_ap : retS a r m = kret (a r m) r := by unfold retS kret SRes.of; cases a r m <;> rfl
theorem kret_ok : kret (.ok d m) r = .ok (.rt d) r m := rfl
theorem kret_exc : kret (.exc e m) r = .exc e r m := rfl
theorem dropS_ap : dropS a r m = kdrop (a r m) r := by unfold dropS kdrop SRes.of; cases a r m <;> rfl
theorem kdrop_ok : kdrop (.ok d m) r = .ok .nx r m := rfl
theorem kdrop_exc : kdrop (.exc e m) r = .exc e r m := rfl
theorem ifS_ap : ifS c f g r m = kif (c r m) f g r := by unfold ifS kif SRes.of; cases c r m <;> rfl
theorem kif_t : kif (.ok true m) f g r = f r m := rfl
theorem kif_f : kif (.ok false m) f g r = g r m := rfl
theorem ifE_ap : ifE c a b r m = kife (c r m) a b r := by unfold ifE kife Res.bind; cases c r m <;> rfl
theorem kife_t : kife (.ok true m) a b r = a r m := rfl
theorem kife_f : kife (.ok false m) a b r = b r m := rfl
theorem valT_ap : valT a r m = kval (a r m) := by unfold valT kval Res.bind; cases a r m <;> first | rfl | (rename_i d _; cases d <;> rfl)
theorem kval_ok : kval (.ok (.bl k) m) = .ok k m := rfl
theorem notT_ap : notT c r m = knot (c r m) := by unfold notT knot Res.bind; cases c r m <;> rfl
theorem knot_ok : knot (.ok k m) = .ok (!k) m := rfl
theorem andT_ap : andT c t r m = kand (c r m) t r := by unfold andT kand Res.bind; cases c r m <;> rfl
theorem kand_t : kand (.ok true m) t r = t r m := rfl
theorem kand_f : kand (.ok false m) t r = .ok false m := rfl
theorem orT_ap : orT c t r m = kor (c r m) t r := by unfold orT kor Res.bind; cases c r m <;> rfl
theorem kor_t : kor (.ok true m) t r = .ok true m := rfl
theorem kor_f : kor (.ok false m) t r = t r m := rfl
theorem andV_ap : andV a b r m = kandv (a r m) b r := by unfold andV kandv Res.bind; cases a r m <;> first | rfl | (rename_i d _; cases d <;> rfl)
theorem kandv_t : kandv (.ok (.bl true) m) b r = b r m := rfl
theorem kandv_f : kandv (.ok (.bl false) m) b r = .ok (.bl false) m := rfl
theorem orV_ap : orV a b r m = korv (a r m) b r := by unfold orV korv Res.bind; cases a r m <;> first | rfl | (rename_i d _; cases d <;> rfl)
theorem korv_t : korv (.ok (.bl true) m) b r = .ok (.bl true) m := rfl
theorem korv_f : korv (.ok (.bl false) m) b r = b r m := rfl
theorem notV_ap : notV a r m = knotv (a r m) := by unfold notV knotv Res.bind; cases a r m <;> first | rfl | (rename_i d _; cases d <;> rfl)
theorem knotv_ok : knotv (.ok (.bl k) m) = .ok (.bl (!k)) m := rfl
theorem callE_ap : callE G h r m = kcall (h r m) G := by unfold callE kcall Res.bind; cases h r m <;> rfl
theorem kcall_ok : kcall (.ok ds m) G = G ds m := rfl
theorem parS_ap : parS i j h r m = kpar i j (h r m) r := by
  unfold parS kpar SRes.of
  cases h r m with
  | ok ds m1 => match ds with
    | [] => rfl
    | [_] => rfl
    | [_, _] => rfl
    | _ :: _ :: _ :: _ => rfl
  | exc _ _ => rfl
  | bad => rfl
theorem kpar_ok : kpar i j (.ok [x, y] m) r = .ok .nx ((r.set i (some x)).set j (some y)) m := rfl
theorem asgG_ap : asgG tg a r m = kasgG tg (a r m) r := by unfold asgG kasgG SRes.of; cases a r m <;> rfl
theorem kasgG_ok (e : tg d r = some r') : kasgG tg (.ok d m) r = .ok .nx r' m := by unfold kasgG; simp only [e]
theorem appE_ap : appE a b r m = kapp (a r m) b r := by unfold appE kapp Res.bind; cases a r m <;> first | rfl | (rename_i d _; cases d <;> rfl)
theorem kapp_ok {xs xs2 : List D} {m2 : Mem} (h1 : m[n]? = some (.lst xs)) (hb : b r m = .ok d m2) (h2 : m2[n]? = some (.lst xs2)) (hl : xs2.length < sizeLine) : kapp (.ok (.ref n) m) b r = .ok .non (m2.set n (.lst (xs2 ++ [d]))) := by
  unfold kapp
  simp only [h1, hb, bind_ok, h2, hl, if_true]
theorem forS_ap {fi : FI} : forS fi tg f r m = kfor (fi r m) tg f r := by unfold forS kfor SRes.of; cases fi r m <;> rfl
theorem kfor_ok {s : Src} : kfor (.ok s m) tg f r = forL s tg f s.items r m := rfl
theorem srcE_ap : srcE a r m = ksrc (a r m) := by unfold srcE ksrc Res.bind; cases a r m <;> first | rfl | (rename_i d _; cases d <;> rfl)
theorem ksrc_tup : ksrc (.ok (.tup ds) m) = .ok (.fix ds) m := rfl
theorem ksrc_ref (e : itemsOf m n = some ds) : ksrc (.ok (.ref n) m) = .ok (.lst n ds) m := by unfold ksrc; simp only [e]
theorem ksrc_str {z : PySem.Str} : ksrc (.ok (.str z) m) = .ok (.fix (strItems z)) m := rfl
theorem rng1_ap {j : Int} (hj : okI j) (e : h r m = .ok [.int j] m') : rng1 h r m = .ok (.fix (iotaD 0 j.toNat)) m' := by
  unfold rng1
  rw [e, bind_ok]
  simp only [if_pos hj]
theorem rng2_ap {i j : Int} (hi : okI i) (hj : okI j) (e : h r m = .ok [.int i, .int j] m') : rng2 h r m = .ok (.fix (iotaD i (j - i).toNat)) m' := by
  unfold rng2
  rw [e, bind_ok]
  simp only [if_pos (And.intro hi hj)]
theorem defF_ap (hl : ds.length = p) : defF n p f ds m = finF (f (startE n ds) m) := by unfold defF finF; rw [if_pos hl] <;> rfl
theorem defF1 : defF n 1 f [d] m = finF (f (startE n [d]) m) := defF_ap rfl
theorem defF2 : defF n 2 f [d, x] m = finF (f (startE n [d, x]) m) := defF_ap rfl
theorem defF3 : defF n 3 f [d, x, y] m = finF (f (startE n [d, x, y]) m) := defF_ap rfl
theorem defF4 {z : D} : defF n 4 f [d, x, y, z] m = finF (f (startE n [d, x, y, z]) m) := defF_ap rfl
theorem defF5 {z u : D} : defF n 5 f [d, x, y, z, u] m = finF (f (startE n [d, x, y, z, u]) m) := defF_ap rfl
theorem finF_nx : finF (.ok .nx r m) = .ok .non m := rfl
theorem finF_rt : finF (.ok (.rt d) r m) = .ok d m := rfl
theorem finF_exc : finF (.exc e r m) = .exc e m := rfl
/-- o[i] = e -/
theorem setG_ap {o i v : FE} {k : Int} {j : Nat} {xs : List D} {m1 m2 m3 : Mem} (hv : v r m = .ok d m1) (ho : o r m1 = .ok (.ref n) m2) (hi : i r m2 = .ok (.int k) m3) (hm : m3[n]? = some (.lst xs)) (hj : ixN xs.length k = some j) :
    setG o i v r m = .ok .nx r (m3.set n (.lst (xs.set j d))) := by
  unfold setG
  simp only [hv, of_ok, ho, hi, hm, hj]
end
section
variable {i j : Int} {m : Mem}
theorem eqG_int : eqG (.int i) (.int j) m = some (.bl (i == j), m) := rfl
theorem neG_int : neG (.int i) (.int j) m = some (.bl (!(i == j)), m) := rfl
theorem eqG_str {x y : PySem.Str} (hx : PyData.canLay0 (.str x) = true) (hy : PyData.canLay0 (.str y) = true) : eqG (.str x) (.str y) m = some (.bl (x == y), m) := by
  simp [eqG, pdM, D.pd, SeqAt.shaped, hx, hy, PyData.depth, PyData.eqv]
theorem ordOk_int : ordOk (.int i) (.int j) = true := by simp [ordOk, PyData.canLay0, PySem.W.alike, isNon, PyData.depth]
theorem ltG_int : ltG (.int i) (.int j) m = some (.bl (decide (i < j)), m) := by
  simp [ltG, ordG, pdM, D.pd, ordOk_int, PySem.W.dataLt_int]
theorem gtG_int : gtG (.int i) (.int j) m = some (.bl (decide (j < i)), m) := by
  simp [gtG, ordG, pdM, D.pd, ordOk_int, PySem.W.dataLt_int]
theorem leG_int : leG (.int i) (.int j) m = some (.bl (decide (i ≤ j)), m) := by
  simp [leG, ordG, pdM, D.pd, ordOk_int, PySem.W.dataLt_int]
  rw [Bool.eq_iff_iff]; simp
theorem geG_int : geG (.int i) (.int j) m = some (.bl (decide (j ≤ i)), m) := by
  simp [geG, ordG, pdM, D.pd, ordOk_int, PySem.W.dataLt_int]
  rw [Bool.eq_iff_iff]; simp
theorem addG_int : addG (.int i) (.int j) m = some (.int (i + j), m) := rfl
theorem subG_int : subG (.int i) (.int j) m = some (.int (i - j), m) := rfl
theorem mulG_int (h : i.natAbs.log2 + j.natAbs.log2 < 1000000) : mulG (.int i) (.int j) m = some (.int (i * j), m) := by
  simp [mulG, int2, cmul, h]
theorem modG_pos (h : 0 < j) : modG (.int i) (.int j) m = some (.int (i % j), m) := by
  simp only [modG, int2, cmod]
  rw [if_pos (decide_eq_true (by omega)), Int.fmod_eq_emod_of_nonneg i (by omega)]
theorem fdivG_of (h : j ≠ 0) (h2 : j.natAbs.log2 < 9000) : fdivG (.int i) (.int j) m = some (.int (i.fdiv j), m) := by
  simp only [fdivG, int2, cdiv]
  rw [if_pos (by simp [h, PyProof.noPylong_of_log2 h2])]
theorem fdivG_pos (h : 0 < j) (h2 : j.natAbs.log2 < 9000) : fdivG (.int i) (.int j) m = some (.int (i / j), m) := by
  rw [fdivG_of (by omega) h2, Int.fdiv_eq_ediv_of_nonneg i (by omega)]
theorem negG_int : negG (.int i) m = some (.int (-i), m) := rfl
theorem absG_int : absG [.int i] m = some (.int (if i < 0 then -i else i), m) := rfl
theorem intG_int : intG [.int i] m = some (.int i, m) := rfl
theorem gcdG_int : gcdG [.int i, .int j] m = some (.int ((Nat.gcd i.natAbs j.natAbs : Nat) : Int), m) := rfl
theorem idxG_tup {xs : List D} {d : D} (h : atI xs i = some d) : idxG (.tup xs) (.int i) m = some (d, m) := by
  simp [idxG, h, ofI]
theorem idxG_ref {n : Nat} {xs : List D} {d : D} (hm : itemsOf m n = some xs) (h : atI xs i = some d) : idxG (.ref n) (.int i) m = some (d, m) := by
  simp [idxG, hm, h, ofI]
theorem items_lst {n : Nat} {xs : List D} (h : m[n]? = some (.lst xs)) : itemsOf m n = some xs := by simp [itemsOf, h]
theorem items_con {n : Nat} {xs : List D} (h : m[n]? = some (.con xs)) : itemsOf m n = some xs := by simp [itemsOf, h]
theorem tupD_of {xs : List D} (h : xs.length ≤ sizeLine) : tupD xs m = some (.tup xs, m) := by simp [tupD, h]
theorem lstD_of {xs : List D} (h : xs.length ≤ sizeLine) : lstD xs m = some (.ref m.length, m ++ [.lst xs]) := by simp [lstD, h]
theorem tupD0 : tupD [] m = some (.tup [], m) := rfl
theorem tupD1 {a : D} : tupD [a] m = some (.tup [a], m) := tupD_of (by show 1 ≤ sizeLine; decide)
theorem tupD2 {a b : D} : tupD [a, b] m = some (.tup [a, b], m) := tupD_of (by show 2 ≤ sizeLine; decide)
theorem tupD3 {a b c : D} : tupD [a, b, c] m = some (.tup [a, b, c], m) := tupD_of (by show 3 ≤ sizeLine; decide)
theorem tupD4 {a b c d : D} : tupD [a, b, c, d] m = some (.tup [a, b, c, d], m) := tupD_of (by show 4 ≤ sizeLine; decide)
theorem lstD0 : lstD [] m = some (.ref m.length, m ++ [.lst []]) := rfl
theorem lstD1 {a : D} : lstD [a] m = some (.ref m.length, m ++ [.lst [a]]) := lstD_of (by show 1 ≤ sizeLine; decide)
theorem lstD4 {a b c d : D} : lstD [a, b, c, d] m = some (.ref m.length, m ++ [.lst [a, b, c, d]]) := lstD_of (by show 4 ≤ sizeLine; decide)
theorem isi_int_int : isiG "int" (.int i) m = some (.bl true, m) := rfl
theorem isi_bool_int : isiG "bool" (.int i) m = some (.bl false, m) := rfl
theorem isi_tup_tup {xs : List D} : isiG "tuple" (.tup xs) m = some (.bl true, m) := rfl
theorem lenG_tup {xs : List D} : lenG [.tup xs] m = some (.int xs.length, m) := rfl
theorem lenG_ref {n : Nat} {xs : List D} (hm : itemsOf m n = some xs) : lenG [.ref n] m = some (.int xs.length, m) := by simp [lenG, hm]
theorem sl2 : (2 : Nat) ≤ sizeLine := by decide
theorem sl4 : (4 : Nat) ≤ sizeLine := by decide
end
theorem atI_of {α : Type} {xs : List α} {i : Int} {v : α} (h0 : 0 ≤ i) (e : xs[i.toNat]? = some v) : atI xs i = some v := by
  unfold atI ixN
  have hl := (List.getElem?_eq_some_iff.mp e).1
  rw [if_pos h0, if_pos (by omega)]
  exact e
theorem atI_c0 {α : Type} {a : α} {l : List α} : atI (a :: l) 0 = some a := atI_of (by omega) rfl
theorem atI_c1 {α : Type} {a b : α} {l : List α} : atI (a :: b :: l) 1 = some b := atI_of (by omega) rfl
theorem atI_c2 {α : Type} {a b c : α} {l : List α} : atI (a :: b :: c :: l) 2 = some c := atI_of (by omega) rfl
theorem atI_c3 {α : Type} {a b c d : α} {l : List α} : atI (a :: b :: c :: d :: l) 3 = some d := atI_of (by omega) rfl
theorem tupleG_refE {n : Nat} {xs : List D} {m : Mem} (h : itemsOf m n = some xs) : tupleG [.ref n] m = some (.tup xs, m) := by simp [tupleG, h]
/-! ### memory, by value -/
def kit (o : Option MO) : Option (List D) := match o with
  | some (.lst ds) => some ds
  | some (.con ds) => some ds
  | _ => none
def kix (o : Option (List D)) (i : Int) (m : Mem) : Option (D × Mem) := match o with
  | some xs => ofI (atI xs i) m
  | none => none
def klen (o : Option (List D)) (m : Mem) : Option (D × Mem) := match o with
  | some xs => some (.int xs.length, m)
  | none => none
def ksv (x : Res D) (o i : FE) (r : Env) : SRes := SRes.of x r fun d m1 => SRes.of (o r m1) r fun x m2 => SRes.of (i r m2) r fun y m3 => match x, y with
  | .ref n, .int k => match m3[n]? with
    | some (.lst xs) => match ixN xs.length k with
      | some j => .ok .nx r (m3.set n (.lst (xs.set j d)))
      | none => .bad
    | _ => .bad
  | _, _ => .bad
def kso (d : D) (x : Res D) (i : FE) (r : Env) : SRes := SRes.of x r fun x m2 => SRes.of (i r m2) r fun y m3 => match x, y with
  | .ref n, .int k => match m3[n]? with
    | some (.lst xs) => match ixN xs.length k with
      | some j => .ok .nx r (m3.set n (.lst (xs.set j d)))
      | none => .bad
    | _ => .bad
  | _, _ => .bad
def ksi (d x : D) (y : Res D) (r : Env) : SRes := SRes.of y r fun y m3 => match x, y with
  | .ref n, .int k => match m3[n]? with
    | some (.lst xs) => match ixN xs.length k with
      | some j => .ok .nx r (m3.set n (.lst (xs.set j d)))
      | none => .bad
    | _ => .bad
  | _, _ => .bad
def ksx (d : D) (n : Nat) (o : Option MO) (k : Int) (r : Env) (m : Mem) : SRes := match o with
  | some (.lst xs) => match ixN xs.length k with
      | some j => .ok .nx r (m.set n (.lst (xs.set j d)))
      | none => .bad
  | _ => .bad
def ksy (d : D) (n : Nat) (xs : List D) (j : Option Nat) (r : Env) (m : Mem) : SRes := match j with
  | some j => .ok .nx r (m.set n (.lst (xs.set j d)))
  | none => .bad
section
variable {o i v : FE} {r : Env} {m : Mem} {d x y : D} {n j : Nat} {k : Int} {xs : List D}
theorem setG_v : setG o i v r m = ksv (v r m) o i r := rfl
theorem ksv_ok : ksv (.ok d m) o i r = kso d (o r m) i r := rfl
theorem ksv_exc {c : String} : ksv (.exc c m) o i r = .exc c r m := rfl
theorem kso_ok : kso d (.ok x m) i r = ksi d x (i r m) r := rfl
theorem ksi_ok : ksi d (.ref n) (.ok (.int k) m) r = ksx d n m[n]? k r m := rfl
theorem ksx_ok : ksx d n (some (.lst xs)) k r m = ksy d n xs (ixN xs.length k) r m := rfl
theorem ksy_ok : ksy d n xs (some j) r m = .ok .nx r (m.set n (.lst (xs.set j d))) := rfl
theorem items_kit : itemsOf m n = kit m[n]? := rfl
theorem kit_lst : kit (some (.lst xs)) = some xs := rfl
theorem kit_con : kit (some (.con xs)) = some xs := rfl
theorem idxG_refE : idxG (.ref n) (.int k) m = kix (itemsOf m n) k m := by
  simp only [idxG, kix] <;> (cases itemsOf m n <;> rfl)
theorem kix_some : kix (some xs) k m = ofI (atI xs k) m := rfl
theorem idxG_tupE : idxG (.tup xs) (.int k) m = ofI (atI xs k) m := rfl
theorem ofI_some : ofI (some d) m = some (d, m) := rfl
theorem lenG_refE : lenG [.ref n] m = klen (itemsOf m n) m := by
  simp only [lenG, klen] <;> (cases itemsOf m n <;> rfl)
theorem klen_some : klen (some xs) m = some (.int xs.length, m) := rfl
end
/-- the loop: while, by its runs -/
theorem whileN_mono {c : FT} {b : FS} : ∀ {n : Nat} {r : Env} {m : Mem}, whileN c b n r m ≠ .bad → ∀ {k : Nat}, n ≤ k → whileN c b k r m = whileN c b n r m
  | 0, _, _, h, _, _ => absurd rfl h
  | n + 1, r, m, h, 0, hk => absurd hk (by omega)
  | n + 1, r, m, h, k + 1, hk => by
    rw [whileN] at h
    rw [whileN, whileN]
    cases e : c r m with
    | ok t m1 =>
      rw [e] at h
      cases t with
      | false => rfl
      | true =>
        simp only [of_ok, if_true] at h ⊢
        cases e2 : b r m1 with
        | ok f r2 m2 =>
          rw [e2] at h
          cases f with
          | nx => exact whileN_mono (by simpa using h) (by omega)
          | ct => exact whileN_mono (by simpa using h) (by omega)
          | bk => rfl
          | rt d => rfl
        | exc c r2 m2 => rfl
        | bad => rfl
    | exc c m1 => rfl
    | bad => rfl
theorem whileS_eq {c : FT} {b : FS} {n : Nat} {r : Env} {m : Mem} {x : SRes} (h : whileN c b n r m = x) (hx : x ≠ .bad) : whileS c b r m = x := by
  have hn : ∃ n, whileN c b n r m ≠ .bad := ⟨n, by rw [h]; exact hx⟩
  unfold whileS
  rw [dif_pos hn]
  have h2 := Classical.choose_spec hn
  by_cases q : n ≤ Classical.choose hn
  · rw [← h]
    exact whileN_mono (by rw [h]; exact hx) q
  · rw [← h]
    exact (whileN_mono h2 (by omega)).symm
/-- one turn more -/
theorem whileS_step {c : FT} {b : FS} {r r2 : Env} {m m1 m2 : Mem} {x : SRes} (hc : c r m = .ok true m1) (hb : b r m1 = .ok .nx r2 m2) (h : whileS c b r2 m2 = x) (hx : x ≠ .bad) : whileS c b r m = x := by
  have hn : ∃ n, whileN c b n r2 m2 = x := by
    unfold whileS at h
    split at h
    · exact ⟨_, h⟩
    · exact absurd h.symm hx
  obtain ⟨n, hn⟩ := hn
  refine whileS_eq (n := n + 1) ?_ hx
  rw [whileN, hc, of_ok, if_pos rfl, hb]
  exact hn
theorem whileS_end {c : FT} {b : FS} {r : Env} {m m1 : Mem} (hc : c r m = .ok false m1) : whileS c b r m = .ok .nx r m1 := by
  refine whileS_eq (n := 1) ?_ (by intro h; cases h)
  rw [whileN, hc, of_ok]
  rfl
/-- a loop over fixed items, by an invariant -/
theorem forL_fix {s : Src} {tg : FG} {b : FS} (P : List D → Env → Mem → Prop) (hs : ∀ ds r m, P ds r m → s.still m) (step : ∀ d ds r m, P (d :: ds) r m → ∃ r1, tg d r = some r1 ∧ ∃ r2 m2, (b r1 m = .ok .nx r2 m2 ∨ b r1 m = .ok .ct r2 m2) ∧ P ds r2 m2) :
    ∀ (ds : List D) (r : Env) (m : Mem), P ds r m → ∃ r' m', forL s tg b ds r m = .ok .nx r' m' ∧ P [] r' m'
  | [], r, m, h => ⟨r, m, by rw [forL, if_pos (hs _ _ _ h)], h⟩
  | d :: ds, r, m, h => by
    obtain ⟨r1, e1, r2, m2, e2, h2⟩ := step d ds r m h
    obtain ⟨r', m', e3, h3⟩ := forL_fix P hs step ds r2 m2 h2
    refine ⟨r', m', ?_, h3⟩
    rw [forL, if_pos (hs _ _ _ h), e1]
    rcases e2 with e2 | e2
    · simp only [e2]
      exact e3
    · simp only [e2]
      exact e3
end Mi

end

section
set_option Elab.async false
set_option linter.all false
set_option maxRecDepth 100000
set_option maxHeartbeats 4000000
open PySem PySem.Spec L2 Mi
open PyProof.Rows hiding St
namespace Pg
noncomputable def f_fraction : Fn := defF 3 2 (seqS (ifS (valT (op2 (varE 1) (cstE (.int 0)) eqG)) (seqS (raiseS "ZeroDenominator")
  nxS) nxS)
  (seqS (asgS 2 (opN (consA (varE 0) (consA (varE 1) nilA)) gcdG))
  (seqS (ifS (valT (op2 (varE 1) (cstE (.int 0)) ltG)) (seqS (asgS 2 (op1 (varE 2) negG))
  nxS) nxS)
  (seqS (retS (opN (consA (op2 (varE 0) (varE 2) fdivG) (consA (op2 (varE 1) (varE 2) fdivG) nilA)) tupD))
  nxS))))
end Pg
namespace Pg
noncomputable def f_plus : Fn := defF 2 2 (seqS (retS (callE Pg.f_fraction (consA (op2 (op2 (op2 (varE 0) (cstE (.int 0)) idxG) (op2 (varE 1) (cstE (.int 1)) idxG) mulG) (op2 (op2 (varE 1) (cstE (.int 0)) idxG) (op2 (varE 0) (cstE (.int 1)) idxG) mulG) addG) (consA (op2 (op2 (varE 0) (cstE (.int 1)) idxG) (op2 (varE 1) (cstE (.int 1)) idxG) mulG) nilA))))
  nxS)
end Pg
namespace Pg
noncomputable def f_minus : Fn := defF 2 2 (seqS (retS (callE Pg.f_fraction (consA (op2 (op2 (op2 (varE 0) (cstE (.int 0)) idxG) (op2 (varE 1) (cstE (.int 1)) idxG) mulG) (op2 (op2 (varE 1) (cstE (.int 0)) idxG) (op2 (varE 0) (cstE (.int 1)) idxG) mulG) subG) (consA (op2 (op2 (varE 0) (cstE (.int 1)) idxG) (op2 (varE 1) (cstE (.int 1)) idxG) mulG) nilA))))
  nxS)
end Pg
namespace Pg
noncomputable def f_times : Fn := defF 2 2 (seqS (retS (callE Pg.f_fraction (consA (op2 (op2 (varE 0) (cstE (.int 0)) idxG) (op2 (varE 1) (cstE (.int 0)) idxG) mulG) (consA (op2 (op2 (varE 0) (cstE (.int 1)) idxG) (op2 (varE 1) (cstE (.int 1)) idxG) mulG) nilA))))
  nxS)
end Pg
namespace Pg
noncomputable def f_compare : Fn := defF 4 2 (seqS (asgS 2 (op2 (op2 (varE 0) (cstE (.int 0)) idxG) (op2 (varE 1) (cstE (.int 1)) idxG) mulG))
  (seqS (asgS 3 (op2 (op2 (varE 1) (cstE (.int 0)) idxG) (op2 (varE 0) (cstE (.int 1)) idxG) mulG))
  (seqS (ifS (valT (op2 (varE 2) (varE 3) ltG)) (seqS (retS (op1 (cstE (.int 1)) negG))
  nxS) nxS)
  (seqS (ifS (valT (op2 (varE 2) (varE 3) gtG)) (seqS (retS (cstE (.int 1)))
  nxS) nxS)
  (seqS (retS (cstE (.int 0)))
  nxS)))))
end Pg
namespace Pg
noncomputable def f_total : Fn := defF 3 1 (seqS (asgS 1 (opN (consA (cstE (.int 0)) (consA (cstE (.int 1)) nilA)) tupD))
  (seqS (forS (srcE (varE 0)) (nameG 2) (seqS (asgS 1 (callE Pg.f_plus (consA (varE 1) (consA (varE 2) nilA))))
  nxS))
  (seqS (retS (varE 1))
  nxS)))
end Pg
namespace Lw
noncomputable def f__law_begin : Fn := defF 3 1 (seqS (asgS 1 (cstE (.int 1)))
  (seqS (forS (srcE (varE 0)) (nameG 2) (seqS (asgS 1 (op2 (op2 (op2 (op2 (varE 1) (cstE (.int 69621)) mulG) (op2 (opN (consA (varE 2) nilA) intG) (cstE (.int 2147483629)) modG) addG) (cstE (.int 7)) addG) (cstE (.int 2147483647)) modG))
  nxS))
  (seqS (retS (opN (consA (opN (consA (varE 0) nilA) listG) (consA (cstE (.int 0)) (consA (cstE (.int 0)) (consA (varE 1) nilA)))) lstD))
  nxS)))
end Lw
namespace Lw
noncomputable def f__law_take : Fn := defF 4 2 (seqS (ifS (andT (valT (op2 (op2 (varE 0) (cstE (.int 2)) idxG) (cstE (.int 0)) eqG)) (valT (op2 (op2 (varE 0) (cstE (.int 1)) idxG) (opN (consA (op2 (varE 0) (cstE (.int 0)) idxG) nilA) lenG) ltG))) (seqS (setG (varE 0) (cstE (.int 2)) (opN (consA (opN (consA (op2 (op2 (varE 0) (cstE (.int 0)) idxG) (op2 (varE 0) (cstE (.int 1)) idxG) idxG) nilA) intG) nilA) absG))
  (seqS (setG (varE 0) (cstE (.int 1)) (op2 (op2 (varE 0) (cstE (.int 1)) idxG) (cstE (.int 1)) addG))
  (seqS (ifS (valT (op2 (op2 (varE 0) (cstE (.int 2)) idxG) (op2 (cstE (.int 10)) (cstE (.int 18)) powG) ltG)) (seqS (asgS 2 (opN (consA (op2 (varE 0) (cstE (.int 2)) idxG) nilA) intG))
  (seqS (setG (varE 0) (cstE (.int 2)) (cstE (.int 0)))
  (seqS (retS (op2 (varE 2) (varE 1) modG))
  nxS))) nxS)
  nxS))) nxS)
  (seqS (ifS (valT (op2 (op2 (varE 0) (cstE (.int 2)) idxG) (cstE (.int 0)) gtG)) (seqS (asgS 3 (op2 (opN (consA (op2 (varE 0) (cstE (.int 2)) idxG) nilA) intG) (varE 1) modG))
  (seqS (setG (varE 0) (cstE (.int 2)) (op2 (opN (consA (op2 (varE 0) (cstE (.int 2)) idxG) nilA) intG) (varE 1) fdivG))
  (seqS (retS (varE 3))
  nxS))) nxS)
  (seqS (setG (varE 0) (cstE (.int 3)) (op2 (opN (consA (op2 (op2 (op2 (varE 0) (cstE (.int 3)) idxG) (cstE (.int 48271)) mulG) (cstE (.int 11)) addG) nilA) intG) (cstE (.int 2147483647)) modG))
  (seqS (retS (op2 (opN (consA (op2 (op2 (varE 0) (cstE (.int 3)) idxG) (cstE (.int 3)) fdivG) nilA) intG) (varE 1) modG))
  nxS))))
end Lw
namespace Lw
noncomputable def f__law_signed : Fn := defF 2 2 (seqS (retS (op2 (callE Lw.f__law_take (consA (varE 0) (consA (op2 (op2 (cstE (.int 2)) (varE 1) mulG) (cstE (.int 1)) addG) nilA))) (varE 1) subG))
  nxS)
end Lw
namespace Lw
noncomputable def f__law_int : Fn := defF 1 1 (seqS (retS (andV (op1 (varE 0) (isiG "int")) (notV (op1 (varE 0) (isiG "bool")))))
  nxS)
end Lw
namespace Lw
noncomputable def f__law_gcd : Fn := defF 2 2 (seqS (whileS (valT (op2 (varE 1) (cstE (.int 0)) neG)) (seqS (parS 0 1 (consA (varE 1) (consA (op2 (opN (consA (varE 0) nilA) intG) (varE 1) modG) nilA)))
  nxS))
  (seqS (retS (opN (consA (varE 0) nilA) absG))
  nxS))
end Lw
namespace Lw
noncomputable def f__law_f : Fn := defF 3 2 (seqS (ifS (valT (op2 (varE 1) (cstE (.int 0)) ltG)) (seqS (asgS 0 (op2 (cstE (.int 0)) (varE 0) subG))
  (seqS (asgS 1 (op2 (cstE (.int 0)) (varE 1) subG))
  nxS)) nxS)
  (seqS (asgS 2 (callE Lw.f__law_gcd (consA (opN (consA (varE 0) nilA) absG) (consA (varE 1) nilA))))
  (seqS (retS (opN (consA (op2 (varE 0) (varE 2) fdivG) (consA (op2 (varE 1) (varE 2) fdivG) nilA)) tupD))
  nxS)))
end Lw
namespace Lw
noncomputable def f__law_plus : Fn := defF 2 2 (seqS (retS (callE Lw.f__law_f (consA (op2 (op2 (op2 (varE 0) (cstE (.int 0)) idxG) (op2 (varE 1) (cstE (.int 1)) idxG) mulG) (op2 (op2 (varE 1) (cstE (.int 0)) idxG) (op2 (varE 0) (cstE (.int 1)) idxG) mulG) addG) (consA (op2 (op2 (varE 0) (cstE (.int 1)) idxG) (op2 (varE 1) (cstE (.int 1)) idxG) mulG) nilA))))
  nxS)
end Lw
namespace Lw
noncomputable def f__law_less : Fn := defF 2 2 (seqS (retS (op2 (op2 (op2 (varE 0) (cstE (.int 0)) idxG) (op2 (varE 1) (cstE (.int 1)) idxG) mulG) (op2 (op2 (varE 1) (cstE (.int 0)) idxG) (op2 (varE 0) (cstE (.int 1)) idxG) mulG) ltG))
  nxS)
end Lw

end

section
set_option Elab.async false
set_option linter.all false
set_option maxRecDepth 100000
set_option maxHeartbeats 4000000
open PySem PySem.Spec L2 Mi
open PyProof.Rows hiding St
/-! ## fractions -/
namespace Pg
theorem fraction_zero (n : Int) (m : Mem) : f_fraction [.int n, .int 0] m = .exc "ZeroDenominator" m := by
  unfold f_fraction
  simp only [atI_c0, atI_c1, atI_c2, atI_c3, nc0, nc1, nc2, nc3, nc4, nc5, nc6, nc7, nc8, nc9, setG_v, ksv_ok, kso_ok, ksi_ok, ksx_ok, ksy_ok, items_kit, kit_lst, kit_con, idxG_refE, kix_some, idxG_tupE, ofI_some, lenG_refE, klen_some, defF1, defF2, defF3, defF4, defF5, seqS_ap, kseq_nx, kseq_rt, kseq_bk, kseq_ct, kseq_exc, kseq_bad, nxS_ap, bkS_ap, ctS_ap, raiseS_ap, retN_ap, op1_ap, k1_ok, op2_ap, k2a_ok, k2b_ok, opN_ap, kN_ok, nilA_ap, consA_ap, kca_ok, kcb_ok, varE_ap, pick_ok, cstE_ap, asgS_ap, kasg_ok, kasg_exc, retS_ap, kret_ok, kret_exc, dropS_ap, kdrop_ok, kdrop_exc, ifS_ap, kif_t, kif_f, ifE_ap, kife_t, kife_f, valT_ap, kval_ok, notT_ap, knot_ok, andT_ap, kand_t, kand_f, orT_ap, kor_t, kor_f, andV_ap, kandv_t, kandv_f, orV_ap, korv_t, korv_f, notV_ap, knotv_ok, callE_ap, kcall_ok, parS_ap, kpar_ok, asgG_ap, forS_ap, kfor_ok, srcE_ap, ksrc_tup, ksrc_str, finF_nx, finF_rt, finF_exc, startE, lft_some, List.length_cons, List.length_nil, List.map_cons, List.map_nil, List.getElem?_cons_succ, List.getElem?_cons_zero, List.set_cons_zero, List.set_cons_succ, List.cons_append, List.nil_append, List.replicate_succ, List.replicate_zero, Nat.reduceAdd, Nat.reduceSub, Nat.sub_self, Nat.zero_add, eqG_int, neG_int, ltG_int, gtG_int, leG_int, geG_int, addG_int, subG_int, negG_int, absG_int, intG_int, gcdG_int, lenG_tup, tupD0, tupD1, tupD2, tupD3, tupD4, lstD0, lstD1, lstD4, isi_int_int, isi_bool_int, isi_tup_tup, decide_true, decide_false, Bool.not_true, Bool.not_false, beq_self_eq_true, Int.reduceBEq, Int.reduceLT, Int.reduceLE, Int.reduceNeg]
def gd (n d : Int) : Int := ((Nat.gcd n.natAbs d.natAbs : Nat) : Int)
def dv (n d : Int) : Int := if d < 0 then -gd n d else gd n d
theorem gd_pos {n d : Int} (h : d ≠ 0) : 0 < gd n d := by
  unfold gd
  have := Nat.gcd_pos_of_pos_right n.natAbs (show 0 < d.natAbs by omega)
  omega
theorem dv_abs {n d : Int} : (dv n d).natAbs = Nat.gcd n.natAbs d.natAbs := by
  unfold dv gd
  split <;> omega
theorem dv_ne {n d : Int} (h : d ≠ 0) : dv n d ≠ 0 := by
  have := gd_pos (n := n) h
  unfold dv
  split <;> omega
theorem fraction_of (n d : Int) (m : Mem) (h : d ≠ 0) (hz : (dv n d).natAbs.log2 < 9000) : f_fraction [.int n, .int d] m = .ok (.tup [.int (n.fdiv (dv n d)), .int (d.fdiv (dv n d))]) m := by
  have hg := dv_ne (n := n) h
  have e0 : (d == 0) = false := by simpa using h
  unfold f_fraction
  by_cases hd : d < 0
  · have e : dv n d = -(Nat.gcd n.natAbs d.natAbs : Nat) := by unfold dv gd; rw [if_pos hd]
    rw [e] at hg hz ⊢
    simp only [atI_c0, atI_c1, atI_c2, atI_c3, nc0, nc1, nc2, nc3, nc4, nc5, nc6, nc7, nc8, nc9, setG_v, ksv_ok, kso_ok, ksi_ok, ksx_ok, ksy_ok, items_kit, kit_lst, kit_con, idxG_refE, kix_some, idxG_tupE, ofI_some, lenG_refE, klen_some, defF1, defF2, defF3, defF4, defF5, seqS_ap, kseq_nx, kseq_rt, kseq_bk, kseq_ct, kseq_exc, kseq_bad, nxS_ap, bkS_ap, ctS_ap, raiseS_ap, retN_ap, op1_ap, k1_ok, op2_ap, k2a_ok, k2b_ok, opN_ap, kN_ok, nilA_ap, consA_ap, kca_ok, kcb_ok, varE_ap, pick_ok, cstE_ap, asgS_ap, kasg_ok, kasg_exc, retS_ap, kret_ok, kret_exc, dropS_ap, kdrop_ok, kdrop_exc, ifS_ap, kif_t, kif_f, ifE_ap, kife_t, kife_f, valT_ap, kval_ok, notT_ap, knot_ok, andT_ap, kand_t, kand_f, orT_ap, kor_t, kor_f, andV_ap, kandv_t, kandv_f, orV_ap, korv_t, korv_f, notV_ap, knotv_ok, callE_ap, kcall_ok, parS_ap, kpar_ok, asgG_ap, forS_ap, kfor_ok, srcE_ap, ksrc_tup, ksrc_str, finF_nx, finF_rt, finF_exc, startE, lft_some, List.length_cons, List.length_nil, List.map_cons, List.map_nil, List.getElem?_cons_succ, List.getElem?_cons_zero, List.set_cons_zero, List.set_cons_succ, List.cons_append, List.nil_append, List.replicate_succ, List.replicate_zero, Nat.reduceAdd, Nat.reduceSub, Nat.sub_self, Nat.zero_add, eqG_int, neG_int, ltG_int, gtG_int, leG_int, geG_int, addG_int, subG_int, negG_int, absG_int, intG_int, gcdG_int, lenG_tup, tupD0, tupD1, tupD2, tupD3, tupD4, lstD0, lstD1, lstD4, isi_int_int, isi_bool_int, isi_tup_tup, decide_true, decide_false, Bool.not_true, Bool.not_false, beq_self_eq_true, Int.reduceBEq, Int.reduceLT, Int.reduceLE, Int.reduceNeg, e0, decide_eq_true hd, fdivG_of hg hz]
  · have e : dv n d = (Nat.gcd n.natAbs d.natAbs : Nat) := by unfold dv gd; rw [if_neg hd]
    rw [e] at hg hz ⊢
    simp only [atI_c0, atI_c1, atI_c2, atI_c3, nc0, nc1, nc2, nc3, nc4, nc5, nc6, nc7, nc8, nc9, setG_v, ksv_ok, kso_ok, ksi_ok, ksx_ok, ksy_ok, items_kit, kit_lst, kit_con, idxG_refE, kix_some, idxG_tupE, ofI_some, lenG_refE, klen_some, defF1, defF2, defF3, defF4, defF5, seqS_ap, kseq_nx, kseq_rt, kseq_bk, kseq_ct, kseq_exc, kseq_bad, nxS_ap, bkS_ap, ctS_ap, raiseS_ap, retN_ap, op1_ap, k1_ok, op2_ap, k2a_ok, k2b_ok, opN_ap, kN_ok, nilA_ap, consA_ap, kca_ok, kcb_ok, varE_ap, pick_ok, cstE_ap, asgS_ap, kasg_ok, kasg_exc, retS_ap, kret_ok, kret_exc, dropS_ap, kdrop_ok, kdrop_exc, ifS_ap, kif_t, kif_f, ifE_ap, kife_t, kife_f, valT_ap, kval_ok, notT_ap, knot_ok, andT_ap, kand_t, kand_f, orT_ap, kor_t, kor_f, andV_ap, kandv_t, kandv_f, orV_ap, korv_t, korv_f, notV_ap, knotv_ok, callE_ap, kcall_ok, parS_ap, kpar_ok, asgG_ap, forS_ap, kfor_ok, srcE_ap, ksrc_tup, ksrc_str, finF_nx, finF_rt, finF_exc, startE, lft_some, List.length_cons, List.length_nil, List.map_cons, List.map_nil, List.getElem?_cons_succ, List.getElem?_cons_zero, List.set_cons_zero, List.set_cons_succ, List.cons_append, List.nil_append, List.replicate_succ, List.replicate_zero, Nat.reduceAdd, Nat.reduceSub, Nat.sub_self, Nat.zero_add, eqG_int, neG_int, ltG_int, gtG_int, leG_int, geG_int, addG_int, subG_int, negG_int, absG_int, intG_int, gcdG_int, lenG_tup, tupD0, tupD1, tupD2, tupD3, tupD4, lstD0, lstD1, lstD4, isi_int_int, isi_bool_int, isi_tup_tup, decide_true, decide_false, Bool.not_true, Bool.not_false, beq_self_eq_true, Int.reduceBEq, Int.reduceLT, Int.reduceLE, Int.reduceNeg, e0, decide_eq_false hd, fdivG_of hg hz]
/-- what the fraction is -/
theorem frac_spec {n d : Int} (h : d ≠ 0) : n = dv n d * n.fdiv (dv n d) ∧ d = dv n d * d.fdiv (dv n d) ∧ 0 < d.fdiv (dv n d) ∧ Nat.gcd (n.fdiv (dv n d)).natAbs (d.fdiv (dv n d)).natAbs = 1 := by
  have hg := dv_ne (n := n) h
  have d1 : dv n d ∣ n := Int.natAbs_dvd_natAbs.mp (by rw [dv_abs]; exact Nat.gcd_dvd_left _ _)
  have d2 : dv n d ∣ d := Int.natAbs_dvd_natAbs.mp (by rw [dv_abs]; exact Nat.gcd_dvd_right _ _)
  rw [Int.fdiv_eq_ediv_of_dvd d1, Int.fdiv_eq_ediv_of_dvd d2]
  have e1 : n = dv n d * (n / dv n d) := (Int.mul_ediv_cancel' d1).symm
  have e2 : d = dv n d * (d / dv n d) := (Int.mul_ediv_cancel' d2).symm
  refine ⟨e1, e2, ?_, ?_⟩
  · generalize hq : d / dv n d = q at e2
    by_cases hd : d < 0
    · have hs : dv n d < 0 := by
        have := gd_pos (n := n) h
        unfold dv
        rw [if_pos hd]
        omega
      rw [e2] at hd
      exact Int.pos_of_mul_neg_left (by first | exact hd | (rw [Int.mul_comm]; exact hd)) hs
    · have hs : 0 < dv n d := by
        have := gd_pos (n := n) h
        unfold dv
        rw [if_neg hd]
        omega
      have hd' : 0 < dv n d * q := by omega
      exact Int.pos_of_mul_pos_left (by rw [Int.mul_comm]; exact hd') hs
  · have a1 : n.natAbs = (dv n d).natAbs * (n / dv n d).natAbs := by rw [← Int.natAbs_mul, ← e1]
    have a2 : d.natAbs = (dv n d).natAbs * (d / dv n d).natAbs := by rw [← Int.natAbs_mul, ← e2]
    have a3 := dv_abs (n := n) (d := d)
    have a4 : (dv n d).natAbs * Nat.gcd (n / dv n d).natAbs (d / dv n d).natAbs = (dv n d).natAbs * 1 := by
      rw [← Nat.gcd_mul_left, ← a1, ← a2, ← a3, Nat.mul_one]
    exact Nat.eq_of_mul_eq_mul_left (by omega) a4
/-- a fraction -/
def FrOk (p q : Int) : Prop := 0 < q ∧ Nat.gcd p.natAbs q.natAbs = 1
def frD (x : Int × Int) : D := .tup [.int x.1, .int x.2]
theorem log_of {x : Int} {k : Nat} (h : x.natAbs < 2 ^ k) (hk : 0 < k) : x.natAbs.log2 < k := PySem.Flt.log2_lt_of hk h
theorem dv_log {n d : Int} {k : Nat} (h : d ≠ 0) (hb : d.natAbs < 2 ^ k) (hk : 0 < k) (hk2 : k ≤ 9000) : (dv n d).natAbs.log2 < 9000 := by
  refine Nat.lt_of_lt_of_le (log_of (k := k) ?_ hk) hk2
  rw [dv_abs]
  exact Nat.lt_of_le_of_lt (Nat.gcd_le_right _ (by omega)) hb
/-- the fraction of two ints -/
theorem fraction_ok {n d : Int} {k : Nat} (m : Mem) (h : d ≠ 0) (hb : d.natAbs < 2 ^ k) (hk : 0 < k) (hk2 : k ≤ 9000) :
    ∃ p q g : Int, f_fraction [.int n, .int d] m = .ok (frD (p, q)) m ∧ FrOk p q ∧ n = g * p ∧ d = g * q ∧ g ≠ 0 ∧ p.natAbs ≤ n.natAbs ∧ q.natAbs ≤ d.natAbs := by
  obtain ⟨e1, e2, e3, e4⟩ := frac_spec (n := n) h
  have hg := dv_ne (n := n) h
  refine ⟨n.fdiv (dv n d), d.fdiv (dv n d), dv n d, fraction_of n d m h (dv_log h hb hk hk2), ⟨e3, e4⟩, e1, e2, hg, ?_, ?_⟩
  · generalize n.fdiv (dv n d) = p at e1
    have : n.natAbs = (dv n d).natAbs * p.natAbs := by rw [← Int.natAbs_mul, ← e1]
    rw [this]
    exact Nat.le_mul_of_pos_left _ (by omega)
  · generalize d.fdiv (dv n d) = p at e2
    have : d.natAbs = (dv n d).natAbs * p.natAbs := by rw [← Int.natAbs_mul, ← e2]
    rw [this]
    exact Nat.le_mul_of_pos_left _ (by omega)
theorem at0 {a b : D} : atI [a, b] 0 = some a := rfl
theorem at1 {a b : D} : atI [a, b] 1 = some b := rfl
theorem mul_bound {a b : Int} {k l : Nat} (ha : a.natAbs < 2 ^ k) (hb : b.natAbs < 2 ^ l) (hk : 0 < k) (hl : 0 < l) (h : k + l ≤ 1000000) : a.natAbs.log2 + b.natAbs.log2 < 1000000 := by
  have h1 := log_of ha hk
  have h2 := log_of hb hl
  omega
theorem plus_eq {a b c d : Int} {k l : Nat} (m : Mem) (ha : a.natAbs < 2 ^ k) (hb : b.natAbs < 2 ^ k) (hc : c.natAbs < 2 ^ l) (hd : d.natAbs < 2 ^ l) (hk : 0 < k) (hl : 0 < l) (h : k + l ≤ 1000000) :
    f_plus [frD (a, b), frD (c, d)] m = f_fraction [.int (a * d + c * b), .int (b * d)] m := by
  unfold f_plus frD
  simp only [atI_c0, atI_c1, atI_c2, atI_c3, nc0, nc1, nc2, nc3, nc4, nc5, nc6, nc7, nc8, nc9, setG_v, ksv_ok, kso_ok, ksi_ok, ksx_ok, ksy_ok, items_kit, kit_lst, kit_con, idxG_refE, kix_some, idxG_tupE, ofI_some, lenG_refE, klen_some, defF1, defF2, defF3, defF4, defF5, seqS_ap, kseq_nx, kseq_rt, kseq_bk, kseq_ct, kseq_exc, kseq_bad, nxS_ap, bkS_ap, ctS_ap, raiseS_ap, retN_ap, op1_ap, k1_ok, op2_ap, k2a_ok, k2b_ok, opN_ap, kN_ok, nilA_ap, consA_ap, kca_ok, kcb_ok, varE_ap, pick_ok, cstE_ap, asgS_ap, kasg_ok, kasg_exc, retS_ap, kret_ok, kret_exc, dropS_ap, kdrop_ok, kdrop_exc, ifS_ap, kif_t, kif_f, ifE_ap, kife_t, kife_f, valT_ap, kval_ok, notT_ap, knot_ok, andT_ap, kand_t, kand_f, orT_ap, kor_t, kor_f, andV_ap, kandv_t, kandv_f, orV_ap, korv_t, korv_f, notV_ap, knotv_ok, callE_ap, kcall_ok, parS_ap, kpar_ok, asgG_ap, forS_ap, kfor_ok, srcE_ap, ksrc_tup, ksrc_str, finF_nx, finF_rt, finF_exc, startE, lft_some, List.length_cons, List.length_nil, List.map_cons, List.map_nil, List.getElem?_cons_succ, List.getElem?_cons_zero, List.set_cons_zero, List.set_cons_succ, List.cons_append, List.nil_append, List.replicate_succ, List.replicate_zero, Nat.reduceAdd, Nat.reduceSub, Nat.sub_self, Nat.zero_add, eqG_int, neG_int, ltG_int, gtG_int, leG_int, geG_int, addG_int, subG_int, negG_int, absG_int, intG_int, gcdG_int, lenG_tup, tupD0, tupD1, tupD2, tupD3, tupD4, lstD0, lstD1, lstD4, isi_int_int, isi_bool_int, isi_tup_tup, decide_true, decide_false, Bool.not_true, Bool.not_false, beq_self_eq_true, Int.reduceBEq, Int.reduceLT, Int.reduceLE, Int.reduceNeg, idxG_tup at0, idxG_tup at1, mulG_int (mul_bound ha hd hk hl h), mulG_int (mul_bound hc hb hl hk (by omega)), mulG_int (mul_bound hb hd hk hl h)]
  cases f_fraction [.int (a * d + c * b), .int (b * d)] m <;> rfl
theorem minus_eq {a b c d : Int} {k l : Nat} (m : Mem) (ha : a.natAbs < 2 ^ k) (hb : b.natAbs < 2 ^ k) (hc : c.natAbs < 2 ^ l) (hd : d.natAbs < 2 ^ l) (hk : 0 < k) (hl : 0 < l) (h : k + l ≤ 1000000) :
    f_minus [frD (a, b), frD (c, d)] m = f_fraction [.int (a * d - c * b), .int (b * d)] m := by
  unfold f_minus frD
  simp only [atI_c0, atI_c1, atI_c2, atI_c3, nc0, nc1, nc2, nc3, nc4, nc5, nc6, nc7, nc8, nc9, setG_v, ksv_ok, kso_ok, ksi_ok, ksx_ok, ksy_ok, items_kit, kit_lst, kit_con, idxG_refE, kix_some, idxG_tupE, ofI_some, lenG_refE, klen_some, defF1, defF2, defF3, defF4, defF5, seqS_ap, kseq_nx, kseq_rt, kseq_bk, kseq_ct, kseq_exc, kseq_bad, nxS_ap, bkS_ap, ctS_ap, raiseS_ap, retN_ap, op1_ap, k1_ok, op2_ap, k2a_ok, k2b_ok, opN_ap, kN_ok, nilA_ap, consA_ap, kca_ok, kcb_ok, varE_ap, pick_ok, cstE_ap, asgS_ap, kasg_ok, kasg_exc, retS_ap, kret_ok, kret_exc, dropS_ap, kdrop_ok, kdrop_exc, ifS_ap, kif_t, kif_f, ifE_ap, kife_t, kife_f, valT_ap, kval_ok, notT_ap, knot_ok, andT_ap, kand_t, kand_f, orT_ap, kor_t, kor_f, andV_ap, kandv_t, kandv_f, orV_ap, korv_t, korv_f, notV_ap, knotv_ok, callE_ap, kcall_ok, parS_ap, kpar_ok, asgG_ap, forS_ap, kfor_ok, srcE_ap, ksrc_tup, ksrc_str, finF_nx, finF_rt, finF_exc, startE, lft_some, List.length_cons, List.length_nil, List.map_cons, List.map_nil, List.getElem?_cons_succ, List.getElem?_cons_zero, List.set_cons_zero, List.set_cons_succ, List.cons_append, List.nil_append, List.replicate_succ, List.replicate_zero, Nat.reduceAdd, Nat.reduceSub, Nat.sub_self, Nat.zero_add, eqG_int, neG_int, ltG_int, gtG_int, leG_int, geG_int, addG_int, subG_int, negG_int, absG_int, intG_int, gcdG_int, lenG_tup, tupD0, tupD1, tupD2, tupD3, tupD4, lstD0, lstD1, lstD4, isi_int_int, isi_bool_int, isi_tup_tup, decide_true, decide_false, Bool.not_true, Bool.not_false, beq_self_eq_true, Int.reduceBEq, Int.reduceLT, Int.reduceLE, Int.reduceNeg, idxG_tup at0, idxG_tup at1, mulG_int (mul_bound ha hd hk hl h), mulG_int (mul_bound hc hb hl hk (by omega)), mulG_int (mul_bound hb hd hk hl h)]
  cases f_fraction [.int (a * d - c * b), .int (b * d)] m <;> rfl
theorem times_eq {a b c d : Int} {k l : Nat} (m : Mem) (ha : a.natAbs < 2 ^ k) (hb : b.natAbs < 2 ^ k) (hc : c.natAbs < 2 ^ l) (hd : d.natAbs < 2 ^ l) (hk : 0 < k) (hl : 0 < l) (h : k + l ≤ 1000000) :
    f_times [frD (a, b), frD (c, d)] m = f_fraction [.int (a * c), .int (b * d)] m := by
  unfold f_times frD
  simp only [atI_c0, atI_c1, atI_c2, atI_c3, nc0, nc1, nc2, nc3, nc4, nc5, nc6, nc7, nc8, nc9, setG_v, ksv_ok, kso_ok, ksi_ok, ksx_ok, ksy_ok, items_kit, kit_lst, kit_con, idxG_refE, kix_some, idxG_tupE, ofI_some, lenG_refE, klen_some, defF1, defF2, defF3, defF4, defF5, seqS_ap, kseq_nx, kseq_rt, kseq_bk, kseq_ct, kseq_exc, kseq_bad, nxS_ap, bkS_ap, ctS_ap, raiseS_ap, retN_ap, op1_ap, k1_ok, op2_ap, k2a_ok, k2b_ok, opN_ap, kN_ok, nilA_ap, consA_ap, kca_ok, kcb_ok, varE_ap, pick_ok, cstE_ap, asgS_ap, kasg_ok, kasg_exc, retS_ap, kret_ok, kret_exc, dropS_ap, kdrop_ok, kdrop_exc, ifS_ap, kif_t, kif_f, ifE_ap, kife_t, kife_f, valT_ap, kval_ok, notT_ap, knot_ok, andT_ap, kand_t, kand_f, orT_ap, kor_t, kor_f, andV_ap, kandv_t, kandv_f, orV_ap, korv_t, korv_f, notV_ap, knotv_ok, callE_ap, kcall_ok, parS_ap, kpar_ok, asgG_ap, forS_ap, kfor_ok, srcE_ap, ksrc_tup, ksrc_str, finF_nx, finF_rt, finF_exc, startE, lft_some, List.length_cons, List.length_nil, List.map_cons, List.map_nil, List.getElem?_cons_succ, List.getElem?_cons_zero, List.set_cons_zero, List.set_cons_succ, List.cons_append, List.nil_append, List.replicate_succ, List.replicate_zero, Nat.reduceAdd, Nat.reduceSub, Nat.sub_self, Nat.zero_add, eqG_int, neG_int, ltG_int, gtG_int, leG_int, geG_int, addG_int, subG_int, negG_int, absG_int, intG_int, gcdG_int, lenG_tup, tupD0, tupD1, tupD2, tupD3, tupD4, lstD0, lstD1, lstD4, isi_int_int, isi_bool_int, isi_tup_tup, decide_true, decide_false, Bool.not_true, Bool.not_false, beq_self_eq_true, Int.reduceBEq, Int.reduceLT, Int.reduceLE, Int.reduceNeg, idxG_tup at0, idxG_tup at1, mulG_int (mul_bound ha hc hk hl h), mulG_int (mul_bound hb hd hk hl h)]
  cases f_fraction [.int (a * c), .int (b * d)] m <;> rfl
def cmpZ (x y : Int) : Int := if x < y then -1 else if y < x then 1 else 0
theorem compare_eq {a b c d : Int} {k l : Nat} (m : Mem) (ha : a.natAbs < 2 ^ k) (hb : b.natAbs < 2 ^ k) (hc : c.natAbs < 2 ^ l) (hd : d.natAbs < 2 ^ l) (hk : 0 < k) (hl : 0 < l) (h : k + l ≤ 1000000) :
    f_compare [frD (a, b), frD (c, d)] m = .ok (.int (cmpZ (a * d) (c * b))) m := by
  unfold f_compare frD cmpZ
  by_cases h1 : a * d < c * b
  · rw [if_pos h1]
    simp only [atI_c0, atI_c1, atI_c2, atI_c3, nc0, nc1, nc2, nc3, nc4, nc5, nc6, nc7, nc8, nc9, setG_v, ksv_ok, kso_ok, ksi_ok, ksx_ok, ksy_ok, items_kit, kit_lst, kit_con, idxG_refE, kix_some, idxG_tupE, ofI_some, lenG_refE, klen_some, defF1, defF2, defF3, defF4, defF5, seqS_ap, kseq_nx, kseq_rt, kseq_bk, kseq_ct, kseq_exc, kseq_bad, nxS_ap, bkS_ap, ctS_ap, raiseS_ap, retN_ap, op1_ap, k1_ok, op2_ap, k2a_ok, k2b_ok, opN_ap, kN_ok, nilA_ap, consA_ap, kca_ok, kcb_ok, varE_ap, pick_ok, cstE_ap, asgS_ap, kasg_ok, kasg_exc, retS_ap, kret_ok, kret_exc, dropS_ap, kdrop_ok, kdrop_exc, ifS_ap, kif_t, kif_f, ifE_ap, kife_t, kife_f, valT_ap, kval_ok, notT_ap, knot_ok, andT_ap, kand_t, kand_f, orT_ap, kor_t, kor_f, andV_ap, kandv_t, kandv_f, orV_ap, korv_t, korv_f, notV_ap, knotv_ok, callE_ap, kcall_ok, parS_ap, kpar_ok, asgG_ap, forS_ap, kfor_ok, srcE_ap, ksrc_tup, ksrc_str, finF_nx, finF_rt, finF_exc, startE, lft_some, List.length_cons, List.length_nil, List.map_cons, List.map_nil, List.getElem?_cons_succ, List.getElem?_cons_zero, List.set_cons_zero, List.set_cons_succ, List.cons_append, List.nil_append, List.replicate_succ, List.replicate_zero, Nat.reduceAdd, Nat.reduceSub, Nat.sub_self, Nat.zero_add, eqG_int, neG_int, ltG_int, gtG_int, leG_int, geG_int, addG_int, subG_int, negG_int, absG_int, intG_int, gcdG_int, lenG_tup, tupD0, tupD1, tupD2, tupD3, tupD4, lstD0, lstD1, lstD4, isi_int_int, isi_bool_int, isi_tup_tup, decide_true, decide_false, Bool.not_true, Bool.not_false, beq_self_eq_true, Int.reduceBEq, Int.reduceLT, Int.reduceLE, Int.reduceNeg, idxG_tup at0, idxG_tup at1, mulG_int (mul_bound ha hd hk hl h), mulG_int (mul_bound hc hb hl hk (by omega)), decide_eq_true h1]
  · rw [if_neg h1]
    by_cases h2 : c * b < a * d
    · rw [if_pos h2]
      simp only [atI_c0, atI_c1, atI_c2, atI_c3, nc0, nc1, nc2, nc3, nc4, nc5, nc6, nc7, nc8, nc9, setG_v, ksv_ok, kso_ok, ksi_ok, ksx_ok, ksy_ok, items_kit, kit_lst, kit_con, idxG_refE, kix_some, idxG_tupE, ofI_some, lenG_refE, klen_some, defF1, defF2, defF3, defF4, defF5, seqS_ap, kseq_nx, kseq_rt, kseq_bk, kseq_ct, kseq_exc, kseq_bad, nxS_ap, bkS_ap, ctS_ap, raiseS_ap, retN_ap, op1_ap, k1_ok, op2_ap, k2a_ok, k2b_ok, opN_ap, kN_ok, nilA_ap, consA_ap, kca_ok, kcb_ok, varE_ap, pick_ok, cstE_ap, asgS_ap, kasg_ok, kasg_exc, retS_ap, kret_ok, kret_exc, dropS_ap, kdrop_ok, kdrop_exc, ifS_ap, kif_t, kif_f, ifE_ap, kife_t, kife_f, valT_ap, kval_ok, notT_ap, knot_ok, andT_ap, kand_t, kand_f, orT_ap, kor_t, kor_f, andV_ap, kandv_t, kandv_f, orV_ap, korv_t, korv_f, notV_ap, knotv_ok, callE_ap, kcall_ok, parS_ap, kpar_ok, asgG_ap, forS_ap, kfor_ok, srcE_ap, ksrc_tup, ksrc_str, finF_nx, finF_rt, finF_exc, startE, lft_some, List.length_cons, List.length_nil, List.map_cons, List.map_nil, List.getElem?_cons_succ, List.getElem?_cons_zero, List.set_cons_zero, List.set_cons_succ, List.cons_append, List.nil_append, List.replicate_succ, List.replicate_zero, Nat.reduceAdd, Nat.reduceSub, Nat.sub_self, Nat.zero_add, eqG_int, neG_int, ltG_int, gtG_int, leG_int, geG_int, addG_int, subG_int, negG_int, absG_int, intG_int, gcdG_int, lenG_tup, tupD0, tupD1, tupD2, tupD3, tupD4, lstD0, lstD1, lstD4, isi_int_int, isi_bool_int, isi_tup_tup, decide_true, decide_false, Bool.not_true, Bool.not_false, beq_self_eq_true, Int.reduceBEq, Int.reduceLT, Int.reduceLE, Int.reduceNeg, idxG_tup at0, idxG_tup at1, mulG_int (mul_bound ha hd hk hl h), mulG_int (mul_bound hc hb hl hk (by omega)), decide_eq_false h1, decide_eq_true h2]
    · rw [if_neg h2]
      simp only [atI_c0, atI_c1, atI_c2, atI_c3, nc0, nc1, nc2, nc3, nc4, nc5, nc6, nc7, nc8, nc9, setG_v, ksv_ok, kso_ok, ksi_ok, ksx_ok, ksy_ok, items_kit, kit_lst, kit_con, idxG_refE, kix_some, idxG_tupE, ofI_some, lenG_refE, klen_some, defF1, defF2, defF3, defF4, defF5, seqS_ap, kseq_nx, kseq_rt, kseq_bk, kseq_ct, kseq_exc, kseq_bad, nxS_ap, bkS_ap, ctS_ap, raiseS_ap, retN_ap, op1_ap, k1_ok, op2_ap, k2a_ok, k2b_ok, opN_ap, kN_ok, nilA_ap, consA_ap, kca_ok, kcb_ok, varE_ap, pick_ok, cstE_ap, asgS_ap, kasg_ok, kasg_exc, retS_ap, kret_ok, kret_exc, dropS_ap, kdrop_ok, kdrop_exc, ifS_ap, kif_t, kif_f, ifE_ap, kife_t, kife_f, valT_ap, kval_ok, notT_ap, knot_ok, andT_ap, kand_t, kand_f, orT_ap, kor_t, kor_f, andV_ap, kandv_t, kandv_f, orV_ap, korv_t, korv_f, notV_ap, knotv_ok, callE_ap, kcall_ok, parS_ap, kpar_ok, asgG_ap, forS_ap, kfor_ok, srcE_ap, ksrc_tup, ksrc_str, finF_nx, finF_rt, finF_exc, startE, lft_some, List.length_cons, List.length_nil, List.map_cons, List.map_nil, List.getElem?_cons_succ, List.getElem?_cons_zero, List.set_cons_zero, List.set_cons_succ, List.cons_append, List.nil_append, List.replicate_succ, List.replicate_zero, Nat.reduceAdd, Nat.reduceSub, Nat.sub_self, Nat.zero_add, eqG_int, neG_int, ltG_int, gtG_int, leG_int, geG_int, addG_int, subG_int, negG_int, absG_int, intG_int, gcdG_int, lenG_tup, tupD0, tupD1, tupD2, tupD3, tupD4, lstD0, lstD1, lstD4, isi_int_int, isi_bool_int, isi_tup_tup, decide_true, decide_false, Bool.not_true, Bool.not_false, beq_self_eq_true, Int.reduceBEq, Int.reduceLT, Int.reduceLE, Int.reduceNeg, idxG_tup at0, idxG_tup at1, mulG_int (mul_bound ha hd hk hl h), mulG_int (mul_bound hc hb hl hk (by omega)), decide_eq_false h1, decide_eq_false h2]
end Pg

end

section
set_option Elab.async false
set_option linter.all false
set_option maxRecDepth 100000
set_option maxHeartbeats 4000000
open PySem PySem.Spec L2 Mi
open PyProof.Rows hiding St
namespace Lw
open Pg (frD FrOk at0 at1 mul_bound log_of)
theorem gcd_loop (m : Mem) : ∀ (k : Nat) (a b : Int), 0 ≤ a → 0 ≤ b → b.toNat ≤ k → ∃ g, g = ((Nat.gcd a.natAbs b.natAbs : Nat) : Int) ∧
    whileS (valT (op2 (varE 1) (cstE (.int 0)) neG)) (seqS (parS 0 1 (consA (varE 1) (consA (op2 (opN (consA (varE 0) nilA) intG) (varE 1) modG) nilA))) nxS) [some (.int a), some (.int b)] m = .ok .nx [some (.int g), some (.int 0)] m
  | k, a, b, ha, hb, hk => by
    by_cases h0 : b = 0
    · subst h0
      refine ⟨a, ?_, whileS_end ?_⟩
      · simp; omega
      · simp only [atI_c0, atI_c1, atI_c2, atI_c3, nc0, nc1, nc2, nc3, nc4, nc5, nc6, nc7, nc8, nc9, setG_v, ksv_ok, kso_ok, ksi_ok, ksx_ok, ksy_ok, items_kit, kit_lst, kit_con, idxG_refE, kix_some, idxG_tupE, ofI_some, lenG_refE, klen_some, defF1, defF2, defF3, defF4, defF5, seqS_ap, kseq_nx, kseq_rt, kseq_bk, kseq_ct, kseq_exc, kseq_bad, nxS_ap, bkS_ap, ctS_ap, raiseS_ap, retN_ap, op1_ap, k1_ok, op2_ap, k2a_ok, k2b_ok, opN_ap, kN_ok, nilA_ap, consA_ap, kca_ok, kcb_ok, varE_ap, pick_ok, cstE_ap, asgS_ap, kasg_ok, kasg_exc, retS_ap, kret_ok, kret_exc, dropS_ap, kdrop_ok, kdrop_exc, ifS_ap, kif_t, kif_f, ifE_ap, kife_t, kife_f, valT_ap, kval_ok, notT_ap, knot_ok, andT_ap, kand_t, kand_f, orT_ap, kor_t, kor_f, andV_ap, kandv_t, kandv_f, orV_ap, korv_t, korv_f, notV_ap, knotv_ok, callE_ap, kcall_ok, parS_ap, kpar_ok, asgG_ap, forS_ap, kfor_ok, srcE_ap, ksrc_tup, ksrc_str, finF_nx, finF_rt, finF_exc, startE, lft_some, List.length_cons, List.length_nil, List.map_cons, List.map_nil, List.getElem?_cons_succ, List.getElem?_cons_zero, List.set_cons_zero, List.set_cons_succ, List.cons_append, List.nil_append, List.replicate_succ, List.replicate_zero, Nat.reduceAdd, Nat.reduceSub, Nat.sub_self, Nat.zero_add, eqG_int, neG_int, ltG_int, gtG_int, leG_int, geG_int, addG_int, subG_int, negG_int, absG_int, intG_int, gcdG_int, lenG_tup, tupD0, tupD1, tupD2, tupD3, tupD4, lstD0, lstD1, lstD4, isi_int_int, isi_bool_int, isi_tup_tup, decide_true, decide_false, Bool.not_true, Bool.not_false, beq_self_eq_true, Int.reduceBEq, Int.reduceLT, Int.reduceLE, Int.reduceNeg]
    · have hp : 0 < b := by omega
      have e0 : (b == 0) = false := by simpa using h0
      have h1 : 0 ≤ a % b := Int.emod_nonneg a h0
      have h2 : a % b < b := Int.emod_lt_of_pos a hp
      match k, hk with
      | 0, hk => omega
      | k + 1, hk =>
        obtain ⟨g, eg, h⟩ := gcd_loop m k b (a % b) (by omega) h1 (by omega)
        refine ⟨g, ?_, whileS_step (r2 := [some (.int b), some (.int (a % b))]) (m1 := m) (m2 := m) ?_ ?_ h (by intro q; cases q)⟩
        · rw [eg]
          have e1 : (a % b).natAbs = a.natAbs % b.natAbs := by
            have : ((a % b).natAbs : Int) = ((a.natAbs % b.natAbs : Nat) : Int) := by
              rw [Int.natCast_emod]
              rw [show ((a.natAbs : Nat) : Int) = a by omega, show ((b.natAbs : Nat) : Int) = b by omega]
              omega
            exact Int.ofNat.inj this
          rw [e1, Nat.gcd_comm a.natAbs b.natAbs, Nat.gcd_rec b.natAbs a.natAbs, Nat.gcd_comm]
        · simp only [atI_c0, atI_c1, atI_c2, atI_c3, nc0, nc1, nc2, nc3, nc4, nc5, nc6, nc7, nc8, nc9, setG_v, ksv_ok, kso_ok, ksi_ok, ksx_ok, ksy_ok, items_kit, kit_lst, kit_con, idxG_refE, kix_some, idxG_tupE, ofI_some, lenG_refE, klen_some, defF1, defF2, defF3, defF4, defF5, seqS_ap, kseq_nx, kseq_rt, kseq_bk, kseq_ct, kseq_exc, kseq_bad, nxS_ap, bkS_ap, ctS_ap, raiseS_ap, retN_ap, op1_ap, k1_ok, op2_ap, k2a_ok, k2b_ok, opN_ap, kN_ok, nilA_ap, consA_ap, kca_ok, kcb_ok, varE_ap, pick_ok, cstE_ap, asgS_ap, kasg_ok, kasg_exc, retS_ap, kret_ok, kret_exc, dropS_ap, kdrop_ok, kdrop_exc, ifS_ap, kif_t, kif_f, ifE_ap, kife_t, kife_f, valT_ap, kval_ok, notT_ap, knot_ok, andT_ap, kand_t, kand_f, orT_ap, kor_t, kor_f, andV_ap, kandv_t, kandv_f, orV_ap, korv_t, korv_f, notV_ap, knotv_ok, callE_ap, kcall_ok, parS_ap, kpar_ok, asgG_ap, forS_ap, kfor_ok, srcE_ap, ksrc_tup, ksrc_str, finF_nx, finF_rt, finF_exc, startE, lft_some, List.length_cons, List.length_nil, List.map_cons, List.map_nil, List.getElem?_cons_succ, List.getElem?_cons_zero, List.set_cons_zero, List.set_cons_succ, List.cons_append, List.nil_append, List.replicate_succ, List.replicate_zero, Nat.reduceAdd, Nat.reduceSub, Nat.sub_self, Nat.zero_add, eqG_int, neG_int, ltG_int, gtG_int, leG_int, geG_int, addG_int, subG_int, negG_int, absG_int, intG_int, gcdG_int, lenG_tup, tupD0, tupD1, tupD2, tupD3, tupD4, lstD0, lstD1, lstD4, isi_int_int, isi_bool_int, isi_tup_tup, decide_true, decide_false, Bool.not_true, Bool.not_false, beq_self_eq_true, Int.reduceBEq, Int.reduceLT, Int.reduceLE, Int.reduceNeg, e0]
        · simp only [atI_c0, atI_c1, atI_c2, atI_c3, nc0, nc1, nc2, nc3, nc4, nc5, nc6, nc7, nc8, nc9, setG_v, ksv_ok, kso_ok, ksi_ok, ksx_ok, ksy_ok, items_kit, kit_lst, kit_con, idxG_refE, kix_some, idxG_tupE, ofI_some, lenG_refE, klen_some, defF1, defF2, defF3, defF4, defF5, seqS_ap, kseq_nx, kseq_rt, kseq_bk, kseq_ct, kseq_exc, kseq_bad, nxS_ap, bkS_ap, ctS_ap, raiseS_ap, retN_ap, op1_ap, k1_ok, op2_ap, k2a_ok, k2b_ok, opN_ap, kN_ok, nilA_ap, consA_ap, kca_ok, kcb_ok, varE_ap, pick_ok, cstE_ap, asgS_ap, kasg_ok, kasg_exc, retS_ap, kret_ok, kret_exc, dropS_ap, kdrop_ok, kdrop_exc, ifS_ap, kif_t, kif_f, ifE_ap, kife_t, kife_f, valT_ap, kval_ok, notT_ap, knot_ok, andT_ap, kand_t, kand_f, orT_ap, kor_t, kor_f, andV_ap, kandv_t, kandv_f, orV_ap, korv_t, korv_f, notV_ap, knotv_ok, callE_ap, kcall_ok, parS_ap, kpar_ok, asgG_ap, forS_ap, kfor_ok, srcE_ap, ksrc_tup, ksrc_str, finF_nx, finF_rt, finF_exc, startE, lft_some, List.length_cons, List.length_nil, List.map_cons, List.map_nil, List.getElem?_cons_succ, List.getElem?_cons_zero, List.set_cons_zero, List.set_cons_succ, List.cons_append, List.nil_append, List.replicate_succ, List.replicate_zero, Nat.reduceAdd, Nat.reduceSub, Nat.sub_self, Nat.zero_add, eqG_int, neG_int, ltG_int, gtG_int, leG_int, geG_int, addG_int, subG_int, negG_int, absG_int, intG_int, gcdG_int, lenG_tup, tupD0, tupD1, tupD2, tupD3, tupD4, lstD0, lstD1, lstD4, isi_int_int, isi_bool_int, isi_tup_tup, decide_true, decide_false, Bool.not_true, Bool.not_false, beq_self_eq_true, Int.reduceBEq, Int.reduceLT, Int.reduceLE, Int.reduceNeg, modG_pos hp]
theorem gcd_eq {a b : Int} (m : Mem) (ha : 0 ≤ a) (hb : 0 ≤ b) : f__law_gcd [.int a, .int b] m = .ok (.int ((Nat.gcd a.natAbs b.natAbs : Nat) : Int)) m := by
  obtain ⟨g, eg, h⟩ := gcd_loop m b.toNat a b ha hb (Nat.le_refl _)
  unfold f__law_gcd
  have hg : ¬ g < 0 := by omega
  simp only [atI_c0, atI_c1, atI_c2, atI_c3, nc0, nc1, nc2, nc3, nc4, nc5, nc6, nc7, nc8, nc9, setG_v, ksv_ok, kso_ok, ksi_ok, ksx_ok, ksy_ok, items_kit, kit_lst, kit_con, idxG_refE, kix_some, idxG_tupE, ofI_some, lenG_refE, klen_some, defF1, defF2, defF3, defF4, defF5, seqS_ap, kseq_nx, kseq_rt, kseq_bk, kseq_ct, kseq_exc, kseq_bad, nxS_ap, bkS_ap, ctS_ap, raiseS_ap, retN_ap, op1_ap, k1_ok, op2_ap, k2a_ok, k2b_ok, opN_ap, kN_ok, nilA_ap, consA_ap, kca_ok, kcb_ok, varE_ap, pick_ok, cstE_ap, asgS_ap, kasg_ok, kasg_exc, retS_ap, kret_ok, kret_exc, dropS_ap, kdrop_ok, kdrop_exc, ifS_ap, kif_t, kif_f, ifE_ap, kife_t, kife_f, valT_ap, kval_ok, notT_ap, knot_ok, andT_ap, kand_t, kand_f, orT_ap, kor_t, kor_f, andV_ap, kandv_t, kandv_f, orV_ap, korv_t, korv_f, notV_ap, knotv_ok, callE_ap, kcall_ok, parS_ap, kpar_ok, asgG_ap, forS_ap, kfor_ok, srcE_ap, ksrc_tup, ksrc_str, finF_nx, finF_rt, finF_exc, startE, lft_some, List.length_cons, List.length_nil, List.map_cons, List.map_nil, List.getElem?_cons_succ, List.getElem?_cons_zero, List.set_cons_zero, List.set_cons_succ, List.cons_append, List.nil_append, List.replicate_succ, List.replicate_zero, Nat.reduceAdd, Nat.reduceSub, Nat.sub_self, Nat.zero_add, eqG_int, neG_int, ltG_int, gtG_int, leG_int, geG_int, addG_int, subG_int, negG_int, absG_int, intG_int, gcdG_int, lenG_tup, tupD0, tupD1, tupD2, tupD3, tupD4, lstD0, lstD1, lstD4, isi_int_int, isi_bool_int, isi_tup_tup, decide_true, decide_false, Bool.not_true, Bool.not_false, beq_self_eq_true, Int.reduceBEq, Int.reduceLT, Int.reduceLE, Int.reduceNeg, h]
  rw [if_neg hg, eg]
theorem f_eq {a b : Int} {k : Nat} (m : Mem) (hb : 0 < b) (hk : b.natAbs < 2 ^ k) (h0 : 0 < k) (h9 : k ≤ 9000) : f__law_f [.int a, .int b] m = Pg.f_fraction [.int a, .int b] m := by
  rw [Pg.fraction_of a b m (by omega) (Pg.dv_log (by omega) hk h0 h9)]
  have hz := Pg.dv_log (n := a) (d := b) (by omega) hk h0 h9
  have hp := Pg.gd_pos (n := a) (d := b) (by omega)
  have e : Pg.dv a b = Pg.gd a b := by unfold Pg.dv; rw [if_neg (by omega)]
  rw [e] at hz ⊢
  have eg : ((Nat.gcd (if a < 0 then -a else a).natAbs b.natAbs : Nat) : Int) = Pg.gd a b := by
    unfold Pg.gd
    congr 2
    split <;> omega
  unfold f__law_f
  have h1 : ¬ b < 0 := by omega
  simp only [atI_c0, atI_c1, atI_c2, atI_c3, nc0, nc1, nc2, nc3, nc4, nc5, nc6, nc7, nc8, nc9, setG_v, ksv_ok, kso_ok, ksi_ok, ksx_ok, ksy_ok, items_kit, kit_lst, kit_con, idxG_refE, kix_some, idxG_tupE, ofI_some, lenG_refE, klen_some, defF1, defF2, defF3, defF4, defF5, seqS_ap, kseq_nx, kseq_rt, kseq_bk, kseq_ct, kseq_exc, kseq_bad, nxS_ap, bkS_ap, ctS_ap, raiseS_ap, retN_ap, op1_ap, k1_ok, op2_ap, k2a_ok, k2b_ok, opN_ap, kN_ok, nilA_ap, consA_ap, kca_ok, kcb_ok, varE_ap, pick_ok, cstE_ap, asgS_ap, kasg_ok, kasg_exc, retS_ap, kret_ok, kret_exc, dropS_ap, kdrop_ok, kdrop_exc, ifS_ap, kif_t, kif_f, ifE_ap, kife_t, kife_f, valT_ap, kval_ok, notT_ap, knot_ok, andT_ap, kand_t, kand_f, orT_ap, kor_t, kor_f, andV_ap, kandv_t, kandv_f, orV_ap, korv_t, korv_f, notV_ap, knotv_ok, callE_ap, kcall_ok, parS_ap, kpar_ok, asgG_ap, forS_ap, kfor_ok, srcE_ap, ksrc_tup, ksrc_str, finF_nx, finF_rt, finF_exc, startE, lft_some, List.length_cons, List.length_nil, List.map_cons, List.map_nil, List.getElem?_cons_succ, List.getElem?_cons_zero, List.set_cons_zero, List.set_cons_succ, List.cons_append, List.nil_append, List.replicate_succ, List.replicate_zero, Nat.reduceAdd, Nat.reduceSub, Nat.sub_self, Nat.zero_add, eqG_int, neG_int, ltG_int, gtG_int, leG_int, geG_int, addG_int, subG_int, negG_int, absG_int, intG_int, gcdG_int, lenG_tup, tupD0, tupD1, tupD2, tupD3, tupD4, lstD0, lstD1, lstD4, isi_int_int, isi_bool_int, isi_tup_tup, decide_true, decide_false, Bool.not_true, Bool.not_false, beq_self_eq_true, Int.reduceBEq, Int.reduceLT, Int.reduceLE, Int.reduceNeg, decide_eq_false h1, gcd_eq m (show 0 ≤ (if a < 0 then -a else a) by split <;> omega) (show 0 ≤ b by omega), eg, fdivG_of (show Pg.gd a b ≠ 0 by omega) hz]
theorem plus_eq {a b c d : Int} {k l : Nat} (m : Mem) (ha : a.natAbs < 2 ^ k) (hb : b.natAbs < 2 ^ k) (hc : c.natAbs < 2 ^ l) (hd : d.natAbs < 2 ^ l) (hk : 0 < k) (hl : 0 < l) (h : k + l ≤ 9000) (b0 : 0 < b) (d0 : 0 < d) :
    f__law_plus [frD (a, b), frD (c, d)] m = Pg.f_plus [frD (a, b), frD (c, d)] m := by
  rw [Pg.plus_eq m ha hb hc hd hk hl (by omega)]
  have hbd : (b * d).natAbs < 2 ^ (k + l) := wide_lt hb hd
  rw [← f_eq m (Int.mul_pos b0 d0) hbd (by omega) h]
  unfold f__law_plus frD
  simp only [atI_c0, atI_c1, atI_c2, atI_c3, nc0, nc1, nc2, nc3, nc4, nc5, nc6, nc7, nc8, nc9, setG_v, ksv_ok, kso_ok, ksi_ok, ksx_ok, ksy_ok, items_kit, kit_lst, kit_con, idxG_refE, kix_some, idxG_tupE, ofI_some, lenG_refE, klen_some, defF1, defF2, defF3, defF4, defF5, seqS_ap, kseq_nx, kseq_rt, kseq_bk, kseq_ct, kseq_exc, kseq_bad, nxS_ap, bkS_ap, ctS_ap, raiseS_ap, retN_ap, op1_ap, k1_ok, op2_ap, k2a_ok, k2b_ok, opN_ap, kN_ok, nilA_ap, consA_ap, kca_ok, kcb_ok, varE_ap, pick_ok, cstE_ap, asgS_ap, kasg_ok, kasg_exc, retS_ap, kret_ok, kret_exc, dropS_ap, kdrop_ok, kdrop_exc, ifS_ap, kif_t, kif_f, ifE_ap, kife_t, kife_f, valT_ap, kval_ok, notT_ap, knot_ok, andT_ap, kand_t, kand_f, orT_ap, kor_t, kor_f, andV_ap, kandv_t, kandv_f, orV_ap, korv_t, korv_f, notV_ap, knotv_ok, callE_ap, kcall_ok, parS_ap, kpar_ok, asgG_ap, forS_ap, kfor_ok, srcE_ap, ksrc_tup, ksrc_str, finF_nx, finF_rt, finF_exc, startE, lft_some, List.length_cons, List.length_nil, List.map_cons, List.map_nil, List.getElem?_cons_succ, List.getElem?_cons_zero, List.set_cons_zero, List.set_cons_succ, List.cons_append, List.nil_append, List.replicate_succ, List.replicate_zero, Nat.reduceAdd, Nat.reduceSub, Nat.sub_self, Nat.zero_add, eqG_int, neG_int, ltG_int, gtG_int, leG_int, geG_int, addG_int, subG_int, negG_int, absG_int, intG_int, gcdG_int, lenG_tup, tupD0, tupD1, tupD2, tupD3, tupD4, lstD0, lstD1, lstD4, isi_int_int, isi_bool_int, isi_tup_tup, decide_true, decide_false, Bool.not_true, Bool.not_false, beq_self_eq_true, Int.reduceBEq, Int.reduceLT, Int.reduceLE, Int.reduceNeg, idxG_tup at0, idxG_tup at1, mulG_int (mul_bound ha hd hk hl (by omega)), mulG_int (mul_bound hc hb hl hk (by omega)), mulG_int (mul_bound hb hd hk hl (by omega))]
  cases f__law_f [.int (a * d + c * b), .int (b * d)] m <;> rfl
theorem less_eq {a b c d : Int} {k l : Nat} (m : Mem) (ha : a.natAbs < 2 ^ k) (hb : b.natAbs < 2 ^ k) (hc : c.natAbs < 2 ^ l) (hd : d.natAbs < 2 ^ l) (hk : 0 < k) (hl : 0 < l) (h : k + l ≤ 1000000) :
    f__law_less [frD (a, b), frD (c, d)] m = .ok (.bl (decide (a * d < c * b))) m := by
  unfold f__law_less frD
  simp only [atI_c0, atI_c1, atI_c2, atI_c3, nc0, nc1, nc2, nc3, nc4, nc5, nc6, nc7, nc8, nc9, setG_v, ksv_ok, kso_ok, ksi_ok, ksx_ok, ksy_ok, items_kit, kit_lst, kit_con, idxG_refE, kix_some, idxG_tupE, ofI_some, lenG_refE, klen_some, defF1, defF2, defF3, defF4, defF5, seqS_ap, kseq_nx, kseq_rt, kseq_bk, kseq_ct, kseq_exc, kseq_bad, nxS_ap, bkS_ap, ctS_ap, raiseS_ap, retN_ap, op1_ap, k1_ok, op2_ap, k2a_ok, k2b_ok, opN_ap, kN_ok, nilA_ap, consA_ap, kca_ok, kcb_ok, varE_ap, pick_ok, cstE_ap, asgS_ap, kasg_ok, kasg_exc, retS_ap, kret_ok, kret_exc, dropS_ap, kdrop_ok, kdrop_exc, ifS_ap, kif_t, kif_f, ifE_ap, kife_t, kife_f, valT_ap, kval_ok, notT_ap, knot_ok, andT_ap, kand_t, kand_f, orT_ap, kor_t, kor_f, andV_ap, kandv_t, kandv_f, orV_ap, korv_t, korv_f, notV_ap, knotv_ok, callE_ap, kcall_ok, parS_ap, kpar_ok, asgG_ap, forS_ap, kfor_ok, srcE_ap, ksrc_tup, ksrc_str, finF_nx, finF_rt, finF_exc, startE, lft_some, List.length_cons, List.length_nil, List.map_cons, List.map_nil, List.getElem?_cons_succ, List.getElem?_cons_zero, List.set_cons_zero, List.set_cons_succ, List.cons_append, List.nil_append, List.replicate_succ, List.replicate_zero, Nat.reduceAdd, Nat.reduceSub, Nat.sub_self, Nat.zero_add, eqG_int, neG_int, ltG_int, gtG_int, leG_int, geG_int, addG_int, subG_int, negG_int, absG_int, intG_int, gcdG_int, lenG_tup, tupD0, tupD1, tupD2, tupD3, tupD4, lstD0, lstD1, lstD4, isi_int_int, isi_bool_int, isi_tup_tup, decide_true, decide_false, Bool.not_true, Bool.not_false, beq_self_eq_true, Int.reduceBEq, Int.reduceLT, Int.reduceLE, Int.reduceNeg, idxG_tup at0, idxG_tup at1, mulG_int (mul_bound ha hd hk hl h), mulG_int (mul_bound hc hb hl hk (by omega))]
theorem int_eq (i : Int) (m : Mem) : f__law_int [.int i] m = .ok (.bl true) m := by
  unfold f__law_int
  simp only [atI_c0, atI_c1, atI_c2, atI_c3, nc0, nc1, nc2, nc3, nc4, nc5, nc6, nc7, nc8, nc9, setG_v, ksv_ok, kso_ok, ksi_ok, ksx_ok, ksy_ok, items_kit, kit_lst, kit_con, idxG_refE, kix_some, idxG_tupE, ofI_some, lenG_refE, klen_some, defF1, defF2, defF3, defF4, defF5, seqS_ap, kseq_nx, kseq_rt, kseq_bk, kseq_ct, kseq_exc, kseq_bad, nxS_ap, bkS_ap, ctS_ap, raiseS_ap, retN_ap, op1_ap, k1_ok, op2_ap, k2a_ok, k2b_ok, opN_ap, kN_ok, nilA_ap, consA_ap, kca_ok, kcb_ok, varE_ap, pick_ok, cstE_ap, asgS_ap, kasg_ok, kasg_exc, retS_ap, kret_ok, kret_exc, dropS_ap, kdrop_ok, kdrop_exc, ifS_ap, kif_t, kif_f, ifE_ap, kife_t, kife_f, valT_ap, kval_ok, notT_ap, knot_ok, andT_ap, kand_t, kand_f, orT_ap, kor_t, kor_f, andV_ap, kandv_t, kandv_f, orV_ap, korv_t, korv_f, notV_ap, knotv_ok, callE_ap, kcall_ok, parS_ap, kpar_ok, asgG_ap, forS_ap, kfor_ok, srcE_ap, ksrc_tup, ksrc_str, finF_nx, finF_rt, finF_exc, startE, lft_some, List.length_cons, List.length_nil, List.map_cons, List.map_nil, List.getElem?_cons_succ, List.getElem?_cons_zero, List.set_cons_zero, List.set_cons_succ, List.cons_append, List.nil_append, List.replicate_succ, List.replicate_zero, Nat.reduceAdd, Nat.reduceSub, Nat.sub_self, Nat.zero_add, eqG_int, neG_int, ltG_int, gtG_int, leG_int, geG_int, addG_int, subG_int, negG_int, absG_int, intG_int, gcdG_int, lenG_tup, tupD0, tupD1, tupD2, tupD3, tupD4, lstD0, lstD1, lstD4, isi_int_int, isi_bool_int, isi_tup_tup, decide_true, decide_false, Bool.not_true, Bool.not_false, beq_self_eq_true, Int.reduceBEq, Int.reduceLT, Int.reduceLE, Int.reduceNeg]

/-! ## the drawer -/
/-- at k stands a drawer -/
def Drw (m : Mem) (k : Nat) : Prop := ∃ (j : Nat) (ns : List Int) (p c s : Int), m[k]? = some (.lst [.ref j, .int p, .int c, .int s]) ∧ m[j]? = some (.lst (ns.map .int)) ∧ j < k ∧ 0 ≤ p ∧ 0 ≤ c ∧ 0 ≤ s ∧ s < 2147483647
/-- all but what stands at k is as it was -/
def But (k : Nat) (m m' : Mem) : Prop := ∃ o, m' = m.set k o
theorem But.get {k : Nat} {m m' : Mem} (h : But k m m') {i : Nat} (hi : i ≠ k) : m'[i]? = m[i]? := by
  obtain ⟨o, rfl⟩ := h
  exact List.getElem?_set_ne (Ne.symm hi)
theorem But.len {k : Nat} {m m' : Mem} (h : But k m m') : m'.length = m.length := by
  obtain ⟨o, rfl⟩ := h
  simp
theorem But.trans {k : Nat} {m m1 m2 : Mem} (a : But k m m1) (b : But k m1 m2) : But k m m2 := by
  obtain ⟨o, rfl⟩ := a
  obtain ⟨u, rfl⟩ := b
  exact ⟨u, by simp⟩
theorem But.refl {k : Nat} {m : Mem} (h : ∃ o, m[k]? = some o) : But k m m := by
  obtain ⟨o, h⟩ := h
  refine ⟨o, ?_⟩
  obtain ⟨hl, e⟩ := List.getElem?_eq_some_iff.mp h
  rw [← e, List.set_getElem_self]
theorem Drw.at {m : Mem} {k : Nat} (h : Drw m k) : ∃ o, m[k]? = some o := by
  obtain ⟨j, ns, p, c, s, h1, _⟩ := h
  exact ⟨_, h1⟩
/-- what grows leaves the drawer -/
theorem Drw.app {m : Mem} {k : Nat} (h : Drw m k) (g : Mem) : Drw (m ++ g) k := by
  obtain ⟨j, ns, p, c, s, h1, h2, h3⟩ := h
  refine ⟨j, ns, p, c, s, ?_, ?_, h3⟩
  · rw [List.getElem?_append_left (List.getElem?_eq_some_iff.mp h1).1]; exact h1
  · rw [List.getElem?_append_left (List.getElem?_eq_some_iff.mp h2).1]; exact h2
theorem Drw.set {m : Mem} {k : Nat} (h : Drw m k) {i : Nat} (hi : k < i) (o : MO) : Drw (m.set i o) k := by
  obtain ⟨j, ns, p, c, s, h1, h2, h3, h4⟩ := h
  refine ⟨j, ns, p, c, s, ?_, ?_, h3, h4⟩
  · rw [List.getElem?_set_ne (by omega)]; exact h1
  · rw [List.getElem?_set_ne (by omega)]; exact h2
theorem q0 {a b c d : D} : atI [a, b, c, d] 0 = some a := rfl
theorem q1 {a b c d : D} : atI [a, b, c, d] 1 = some b := rfl
theorem q2 {a b c d : D} : atI [a, b, c, d] 2 = some c := rfl
theorem q3 {a b c d : D} : atI [a, b, c, d] 3 = some d := rfl
theorem x1 : ixN 4 1 = some 1 := rfl
theorem x2 : ixN 4 2 = some 2 := rfl
theorem x3 : ixN 4 3 = some 3 := rfl
theorem log_small {x : Int} (h0 : 0 ≤ x) (h : x < 2147483648) : x.natAbs.log2 < 31 := log_of (k := 31) (by omega) (by omega)
theorem take_eq {m : Mem} {k : Nat} (h : Drw m k) {n : Int} (hn : 0 < n) (hn2 : n.natAbs.log2 < 9000) : ∃ r m', f__law_take [.ref k, .int n] m = .ok (.int r) m' ∧ 0 ≤ r ∧ r < n ∧ Drw m' k ∧ But k m m' := by
  obtain ⟨j, ns, p, c, s, h1, h2, h3, hp, hc, hs, hs2⟩ := h
  have hl : k < m.length := (List.getElem?_eq_some_iff.mp h1).1
  have hj : ∀ o, (m.set k o)[j]? = some (.lst (ns.map .int)) := fun o => by rw [List.getElem?_set_ne (by omega)]; exact h2
  have hk : ∀ o, (m.set k o)[k]? = some o := fun o => List.getElem?_set_self hl
  have r0 : ∀ x : Int, 0 ≤ x % n ∧ x % n < n := fun x => ⟨Int.emod_nonneg x (by omega), Int.emod_lt_of_pos x hn⟩
  have r1 : ∀ x : Int, 0 ≤ x → 0 ≤ x / n := fun x hx => Int.ediv_nonneg hx (by omega)
  have dw : ∀ p c s : Int, 0 ≤ p → 0 ≤ c → 0 ≤ s → s < 2147483647 → Drw (m.set k (.lst [.ref j, .int p, .int c, .int s])) k := fun p c s a b d e => ⟨j, ns, p, c, s, hk _, hj _, h3, a, b, d, e⟩
  have pw : powG (.int 10) (.int 18) m = some (.int 1000000000000000000, m) := rfl
  have pw2 : ∀ o, powG (.int 10) (.int 18) (m.set k o) = some (.int 1000000000000000000, m.set k o) := fun o => rfl
  unfold f__law_take
  by_cases hA : c = 0 ∧ p < ns.length
  · obtain ⟨hc0, hpl⟩ := hA
    subst hc0
    obtain ⟨z, hz⟩ : ∃ z, ns[p.toNat]? = some z := ⟨_, List.getElem?_eq_getElem (by omega)⟩
    have ez : atI (ns.map D.int) p = some (.int z) := atI_of hp (by rw [List.getElem?_map, hz]; rfl)
    generalize hx : (if z < 0 then -z else z) = x
    have hx0 : 0 ≤ x := by rw [← hx]; split <;> omega
    by_cases hb : x < 1000000000000000000
    · refine ⟨x % n, m.set k (.lst [.ref j, .int (p + 1), .int 0, .int s]), ?_, (r0 x).1, (r0 x).2, dw _ _ _ (by omega) (by omega) hs hs2, ⟨_, rfl⟩⟩
      simp only [atI_c0, atI_c1, atI_c2, atI_c3, nc0, nc1, nc2, nc3, nc4, nc5, nc6, nc7, nc8, nc9, setG_v, ksv_ok, kso_ok, ksi_ok, ksx_ok, ksy_ok, items_kit, kit_lst, kit_con, idxG_refE, kix_some, idxG_tupE, ofI_some, lenG_refE, klen_some, defF1, defF2, defF3, defF4, defF5, seqS_ap, kseq_nx, kseq_rt, kseq_bk, kseq_ct, kseq_exc, kseq_bad, nxS_ap, bkS_ap, ctS_ap, raiseS_ap, retN_ap, op1_ap, k1_ok, op2_ap, k2a_ok, k2b_ok, opN_ap, kN_ok, nilA_ap, consA_ap, kca_ok, kcb_ok, varE_ap, pick_ok, cstE_ap, asgS_ap, kasg_ok, kasg_exc, retS_ap, kret_ok, kret_exc, dropS_ap, kdrop_ok, kdrop_exc, ifS_ap, kif_t, kif_f, ifE_ap, kife_t, kife_f, valT_ap, kval_ok, notT_ap, knot_ok, andT_ap, kand_t, kand_f, orT_ap, kor_t, kor_f, andV_ap, kandv_t, kandv_f, orV_ap, korv_t, korv_f, notV_ap, knotv_ok, callE_ap, kcall_ok, parS_ap, kpar_ok, asgG_ap, forS_ap, kfor_ok, srcE_ap, ksrc_tup, ksrc_str, finF_nx, finF_rt, finF_exc, startE, lft_some, List.length_cons, List.length_nil, List.map_cons, List.map_nil, List.getElem?_cons_succ, List.getElem?_cons_zero, List.set_cons_zero, List.set_cons_succ, List.cons_append, List.nil_append, List.replicate_succ, List.replicate_zero, Nat.reduceAdd, Nat.reduceSub, Nat.sub_self, Nat.zero_add, eqG_int, neG_int, ltG_int, gtG_int, leG_int, geG_int, addG_int, subG_int, negG_int, absG_int, intG_int, gcdG_int, lenG_tup, tupD0, tupD1, tupD2, tupD3, tupD4, lstD0, lstD1, lstD4, isi_int_int, isi_bool_int, isi_tup_tup, decide_true, decide_false, Bool.not_true, Bool.not_false, beq_self_eq_true, Int.reduceBEq, Int.reduceLT, Int.reduceLE, Int.reduceNeg, h1, h2, hk, hj, q0, q1, q2, q3, x1, x2, x3, List.length_map, decide_eq_true hpl, ez, hx, List.set_set, pw2, decide_eq_true hb, modG_pos hn]
    · refine ⟨x % n, m.set k (.lst [.ref j, .int (p + 1), .int (x / n), .int s]), ?_, (r0 x).1, (r0 x).2, dw _ _ _ (by omega) (r1 x hx0) hs hs2, ⟨_, rfl⟩⟩
      have hgt : decide (0 < x) = true := decide_eq_true (by omega)
      simp only [atI_c0, atI_c1, atI_c2, atI_c3, nc0, nc1, nc2, nc3, nc4, nc5, nc6, nc7, nc8, nc9, setG_v, ksv_ok, kso_ok, ksi_ok, ksx_ok, ksy_ok, items_kit, kit_lst, kit_con, idxG_refE, kix_some, idxG_tupE, ofI_some, lenG_refE, klen_some, defF1, defF2, defF3, defF4, defF5, seqS_ap, kseq_nx, kseq_rt, kseq_bk, kseq_ct, kseq_exc, kseq_bad, nxS_ap, bkS_ap, ctS_ap, raiseS_ap, retN_ap, op1_ap, k1_ok, op2_ap, k2a_ok, k2b_ok, opN_ap, kN_ok, nilA_ap, consA_ap, kca_ok, kcb_ok, varE_ap, pick_ok, cstE_ap, asgS_ap, kasg_ok, kasg_exc, retS_ap, kret_ok, kret_exc, dropS_ap, kdrop_ok, kdrop_exc, ifS_ap, kif_t, kif_f, ifE_ap, kife_t, kife_f, valT_ap, kval_ok, notT_ap, knot_ok, andT_ap, kand_t, kand_f, orT_ap, kor_t, kor_f, andV_ap, kandv_t, kandv_f, orV_ap, korv_t, korv_f, notV_ap, knotv_ok, callE_ap, kcall_ok, parS_ap, kpar_ok, asgG_ap, forS_ap, kfor_ok, srcE_ap, ksrc_tup, ksrc_str, finF_nx, finF_rt, finF_exc, startE, lft_some, List.length_cons, List.length_nil, List.map_cons, List.map_nil, List.getElem?_cons_succ, List.getElem?_cons_zero, List.set_cons_zero, List.set_cons_succ, List.cons_append, List.nil_append, List.replicate_succ, List.replicate_zero, Nat.reduceAdd, Nat.reduceSub, Nat.sub_self, Nat.zero_add, eqG_int, neG_int, ltG_int, gtG_int, leG_int, geG_int, addG_int, subG_int, negG_int, absG_int, intG_int, gcdG_int, lenG_tup, tupD0, tupD1, tupD2, tupD3, tupD4, lstD0, lstD1, lstD4, isi_int_int, isi_bool_int, isi_tup_tup, decide_true, decide_false, Bool.not_true, Bool.not_false, beq_self_eq_true, Int.reduceBEq, Int.reduceLT, Int.reduceLE, Int.reduceNeg, h1, h2, hk, hj, q0, q1, q2, q3, x1, x2, x3, List.length_map, decide_eq_true hpl, ez, hx, List.set_set, pw2, decide_eq_false hb, hgt, modG_pos hn, fdivG_pos hn hn2]
  · have hq : ((c == 0) && decide (p < ns.length)) = false := by
      simp only [Bool.and_eq_false_iff, beq_eq_false_iff_ne, decide_eq_false_iff_not]
      omega
    have pre : ∀ (f g : FS) (r : Mi.Env), kif (kand (.ok (c == 0) m) (valT (op2 (op2 (varE 0) (cstE (.int 1)) idxG) (opN (consA (op2 (varE 0) (cstE (.int 0)) idxG) nilA) lenG) ltG)) [some (.ref k), some (.int n), none, none]) f g r = g r m := by
      intro f g r
      by_cases h0 : c = 0
      · have e0 : (c == 0) = true := by simpa using h0
        have e1 : ¬ p < ns.length := fun z => hA ⟨h0, z⟩
        simp only [atI_c0, atI_c1, atI_c2, atI_c3, nc0, nc1, nc2, nc3, nc4, nc5, nc6, nc7, nc8, nc9, setG_v, ksv_ok, kso_ok, ksi_ok, ksx_ok, ksy_ok, items_kit, kit_lst, kit_con, idxG_refE, kix_some, idxG_tupE, ofI_some, lenG_refE, klen_some, defF1, defF2, defF3, defF4, defF5, seqS_ap, kseq_nx, kseq_rt, kseq_bk, kseq_ct, kseq_exc, kseq_bad, nxS_ap, bkS_ap, ctS_ap, raiseS_ap, retN_ap, op1_ap, k1_ok, op2_ap, k2a_ok, k2b_ok, opN_ap, kN_ok, nilA_ap, consA_ap, kca_ok, kcb_ok, varE_ap, pick_ok, cstE_ap, asgS_ap, kasg_ok, kasg_exc, retS_ap, kret_ok, kret_exc, dropS_ap, kdrop_ok, kdrop_exc, ifS_ap, kif_t, kif_f, ifE_ap, kife_t, kife_f, valT_ap, kval_ok, notT_ap, knot_ok, andT_ap, kand_t, kand_f, orT_ap, kor_t, kor_f, andV_ap, kandv_t, kandv_f, orV_ap, korv_t, korv_f, notV_ap, knotv_ok, callE_ap, kcall_ok, parS_ap, kpar_ok, asgG_ap, forS_ap, kfor_ok, srcE_ap, ksrc_tup, ksrc_str, finF_nx, finF_rt, finF_exc, startE, lft_some, List.length_cons, List.length_nil, List.map_cons, List.map_nil, List.getElem?_cons_succ, List.getElem?_cons_zero, List.set_cons_zero, List.set_cons_succ, List.cons_append, List.nil_append, List.replicate_succ, List.replicate_zero, Nat.reduceAdd, Nat.reduceSub, Nat.sub_self, Nat.zero_add, eqG_int, neG_int, ltG_int, gtG_int, leG_int, geG_int, addG_int, subG_int, negG_int, absG_int, intG_int, gcdG_int, lenG_tup, tupD0, tupD1, tupD2, tupD3, tupD4, lstD0, lstD1, lstD4, isi_int_int, isi_bool_int, isi_tup_tup, decide_true, decide_false, Bool.not_true, Bool.not_false, beq_self_eq_true, Int.reduceBEq, Int.reduceLT, Int.reduceLE, Int.reduceNeg, e0, h1, h2, q0, q1, List.length_map, decide_eq_false e1]
      · have e0 : (c == 0) = false := by simpa using h0
        simp only [atI_c0, atI_c1, atI_c2, atI_c3, nc0, nc1, nc2, nc3, nc4, nc5, nc6, nc7, nc8, nc9, setG_v, ksv_ok, kso_ok, ksi_ok, ksx_ok, ksy_ok, items_kit, kit_lst, kit_con, idxG_refE, kix_some, idxG_tupE, ofI_some, lenG_refE, klen_some, defF1, defF2, defF3, defF4, defF5, seqS_ap, kseq_nx, kseq_rt, kseq_bk, kseq_ct, kseq_exc, kseq_bad, nxS_ap, bkS_ap, ctS_ap, raiseS_ap, retN_ap, op1_ap, k1_ok, op2_ap, k2a_ok, k2b_ok, opN_ap, kN_ok, nilA_ap, consA_ap, kca_ok, kcb_ok, varE_ap, pick_ok, cstE_ap, asgS_ap, kasg_ok, kasg_exc, retS_ap, kret_ok, kret_exc, dropS_ap, kdrop_ok, kdrop_exc, ifS_ap, kif_t, kif_f, ifE_ap, kife_t, kife_f, valT_ap, kval_ok, notT_ap, knot_ok, andT_ap, kand_t, kand_f, orT_ap, kor_t, kor_f, andV_ap, kandv_t, kandv_f, orV_ap, korv_t, korv_f, notV_ap, knotv_ok, callE_ap, kcall_ok, parS_ap, kpar_ok, asgG_ap, forS_ap, kfor_ok, srcE_ap, ksrc_tup, ksrc_str, finF_nx, finF_rt, finF_exc, startE, lft_some, List.length_cons, List.length_nil, List.map_cons, List.map_nil, List.getElem?_cons_succ, List.getElem?_cons_zero, List.set_cons_zero, List.set_cons_succ, List.cons_append, List.nil_append, List.replicate_succ, List.replicate_zero, Nat.reduceAdd, Nat.reduceSub, Nat.sub_self, Nat.zero_add, eqG_int, neG_int, ltG_int, gtG_int, leG_int, geG_int, addG_int, subG_int, negG_int, absG_int, intG_int, gcdG_int, lenG_tup, tupD0, tupD1, tupD2, tupD3, tupD4, lstD0, lstD1, lstD4, isi_int_int, isi_bool_int, isi_tup_tup, decide_true, decide_false, Bool.not_true, Bool.not_false, beq_self_eq_true, Int.reduceBEq, Int.reduceLT, Int.reduceLE, Int.reduceNeg, e0]
    by_cases hc0 : 0 < c
    · refine ⟨c % n, m.set k (.lst [.ref j, .int p, .int (c / n), .int s]), ?_, (r0 c).1, (r0 c).2, dw _ _ _ hp (r1 c hc) hs hs2, ⟨_, rfl⟩⟩
      simp only [atI_c0, atI_c1, atI_c2, atI_c3, nc0, nc1, nc2, nc3, nc4, nc5, nc6, nc7, nc8, nc9, setG_v, ksv_ok, kso_ok, ksi_ok, ksx_ok, ksy_ok, items_kit, kit_lst, kit_con, idxG_refE, kix_some, idxG_tupE, ofI_some, lenG_refE, klen_some, defF1, defF2, defF3, defF4, defF5, seqS_ap, kseq_nx, kseq_rt, kseq_bk, kseq_ct, kseq_exc, kseq_bad, nxS_ap, bkS_ap, ctS_ap, raiseS_ap, retN_ap, op1_ap, k1_ok, op2_ap, k2a_ok, k2b_ok, opN_ap, kN_ok, nilA_ap, consA_ap, kca_ok, kcb_ok, varE_ap, pick_ok, cstE_ap, asgS_ap, kasg_ok, kasg_exc, retS_ap, kret_ok, kret_exc, dropS_ap, kdrop_ok, kdrop_exc, ifS_ap, kif_t, kif_f, ifE_ap, kife_t, kife_f, valT_ap, kval_ok, notT_ap, knot_ok, andT_ap, kand_t, kand_f, orT_ap, kor_t, kor_f, andV_ap, kandv_t, kandv_f, orV_ap, korv_t, korv_f, notV_ap, knotv_ok, callE_ap, kcall_ok, parS_ap, kpar_ok, asgG_ap, forS_ap, kfor_ok, srcE_ap, ksrc_tup, ksrc_str, finF_nx, finF_rt, finF_exc, startE, lft_some, List.length_cons, List.length_nil, List.map_cons, List.map_nil, List.getElem?_cons_succ, List.getElem?_cons_zero, List.set_cons_zero, List.set_cons_succ, List.cons_append, List.nil_append, List.replicate_succ, List.replicate_zero, Nat.reduceAdd, Nat.reduceSub, Nat.sub_self, Nat.zero_add, eqG_int, neG_int, ltG_int, gtG_int, leG_int, geG_int, addG_int, subG_int, negG_int, absG_int, intG_int, gcdG_int, lenG_tup, tupD0, tupD1, tupD2, tupD3, tupD4, lstD0, lstD1, lstD4, isi_int_int, isi_bool_int, isi_tup_tup, decide_true, decide_false, Bool.not_true, Bool.not_false, beq_self_eq_true, Int.reduceBEq, Int.reduceLT, Int.reduceLE, Int.reduceNeg, h1, h2, hk, hj, q0, q1, q2, q3, x1, x2, x3, pre, decide_eq_true hc0, List.set_set, modG_pos hn, fdivG_pos hn hn2]
    · have m0 : 0 ≤ (s * 48271 + 11) % 2147483647 ∧ (s * 48271 + 11) % 2147483647 < 2147483647 := ⟨Int.emod_nonneg _ (by omega), Int.emod_lt_of_pos _ (by omega)⟩
      generalize hs3 : (s * 48271 + 11) % 2147483647 = s3 at m0
      have mm : (s.natAbs.log2 + (48271 : Int).natAbs.log2 < 1000000) := by
        have := log_small hs (by omega)
        have e : (48271 : Int).natAbs.log2 = 15 := by decide +kernel
        omega
      refine ⟨s3 / 3 % n, m.set k (.lst [.ref j, .int p, .int c, .int s3]), ?_, (r0 _).1, (r0 _).2, dw _ _ _ hp hc m0.1 m0.2, ⟨_, rfl⟩⟩
      have l3 : (3 : Int).natAbs.log2 < 9000 := by decide +kernel
      simp only [atI_c0, atI_c1, atI_c2, atI_c3, nc0, nc1, nc2, nc3, nc4, nc5, nc6, nc7, nc8, nc9, setG_v, ksv_ok, kso_ok, ksi_ok, ksx_ok, ksy_ok, items_kit, kit_lst, kit_con, idxG_refE, kix_some, idxG_tupE, ofI_some, lenG_refE, klen_some, defF1, defF2, defF3, defF4, defF5, seqS_ap, kseq_nx, kseq_rt, kseq_bk, kseq_ct, kseq_exc, kseq_bad, nxS_ap, bkS_ap, ctS_ap, raiseS_ap, retN_ap, op1_ap, k1_ok, op2_ap, k2a_ok, k2b_ok, opN_ap, kN_ok, nilA_ap, consA_ap, kca_ok, kcb_ok, varE_ap, pick_ok, cstE_ap, asgS_ap, kasg_ok, kasg_exc, retS_ap, kret_ok, kret_exc, dropS_ap, kdrop_ok, kdrop_exc, ifS_ap, kif_t, kif_f, ifE_ap, kife_t, kife_f, valT_ap, kval_ok, notT_ap, knot_ok, andT_ap, kand_t, kand_f, orT_ap, kor_t, kor_f, andV_ap, kandv_t, kandv_f, orV_ap, korv_t, korv_f, notV_ap, knotv_ok, callE_ap, kcall_ok, parS_ap, kpar_ok, asgG_ap, forS_ap, kfor_ok, srcE_ap, ksrc_tup, ksrc_str, finF_nx, finF_rt, finF_exc, startE, lft_some, List.length_cons, List.length_nil, List.map_cons, List.map_nil, List.getElem?_cons_succ, List.getElem?_cons_zero, List.set_cons_zero, List.set_cons_succ, List.cons_append, List.nil_append, List.replicate_succ, List.replicate_zero, Nat.reduceAdd, Nat.reduceSub, Nat.sub_self, Nat.zero_add, eqG_int, neG_int, ltG_int, gtG_int, leG_int, geG_int, addG_int, subG_int, negG_int, absG_int, intG_int, gcdG_int, lenG_tup, tupD0, tupD1, tupD2, tupD3, tupD4, lstD0, lstD1, lstD4, isi_int_int, isi_bool_int, isi_tup_tup, decide_true, decide_false, Bool.not_true, Bool.not_false, beq_self_eq_true, Int.reduceBEq, Int.reduceLT, Int.reduceLE, Int.reduceNeg, h1, h2, hk, hj, q0, q1, q2, q3, x1, x2, x3, pre, decide_eq_false hc0, List.set_set, mulG_int mm, modG_pos (show (0 : Int) < 2147483647 by decide), hs3, fdivG_pos (show (0 : Int) < 3 by decide) l3, modG_pos hn]
end Lw

end

section
set_option Elab.async false
set_option linter.all false
set_option maxRecDepth 100000
set_option maxHeartbeats 4000000
open PySem PySem.Spec L2 Mi
open PyProof.Rows hiding St
namespace Lw
open Pg (log_of mul_bound)
theorem begin_eq (ns : List Int) : ∃ seed, f__law_begin [.ref 0] [.con (ns.map .int)] = .ok (.ref 2) [.con (ns.map .int), .lst (ns.map .int), .lst [.ref 1, .int 0, .int 0, .int seed]] ∧ 0 ≤ seed ∧ seed < 2147483647 := by
  have hi : itemsOf [MO.con (ns.map D.int)] 0 = some (ns.map D.int) := rfl
  obtain ⟨r', m', e, em, seed, x, er, h0, h1, _⟩ := forL_fix (s := .lst 0 (ns.map .int)) (tg := nameG 2) (b := seqS (asgS 1 (op2 (op2 (op2 (op2 (varE 1) (cstE (.int 69621)) mulG) (op2 (opN (consA (varE 2) nilA) intG) (cstE (.int 2147483629)) modG) addG) (cstE (.int 7)) addG) (cstE (.int 2147483647)) modG)) nxS)
    (fun ds r m => m = [MO.con (ns.map D.int)] ∧ ∃ seed x, r = [some (.ref 0), some (.int seed), x] ∧ 0 ≤ seed ∧ seed < 2147483647 ∧ ∀ d ∈ ds, ∃ z, d = D.int z)
    (fun ds r m h => by rw [h.1]; exact hi)
    (fun d ds r m h => by
      obtain ⟨rfl, seed, x, rfl, h0, h1, hd⟩ := h
      obtain ⟨z, rfl⟩ := hd d List.mem_cons_self
      refine ⟨_, rfl, ?_⟩
      have mm : seed.natAbs.log2 + (69621 : Int).natAbs.log2 < 1000000 := by
        have := log_small h0 (by omega)
        have e : (69621 : Int).natAbs.log2 = 16 := by decide +kernel
        omega
      refine ⟨_, _, .inl ?_, rfl, (seed * 69621 + z % 2147483629 + 7) % 2147483647, some (.int z), rfl, Int.emod_nonneg _ (by omega), Int.emod_lt_of_pos _ (by omega), fun d hd' => hd d (List.mem_cons_of_mem _ hd')⟩
      simp only [atI_c0, atI_c1, atI_c2, atI_c3, nc0, nc1, nc2, nc3, nc4, nc5, nc6, nc7, nc8, nc9, setG_v, ksv_ok, kso_ok, ksi_ok, ksx_ok, ksy_ok, items_kit, kit_lst, kit_con, idxG_refE, kix_some, idxG_tupE, ofI_some, lenG_refE, klen_some, defF1, defF2, defF3, defF4, defF5, seqS_ap, kseq_nx, kseq_rt, kseq_bk, kseq_ct, kseq_exc, kseq_bad, nxS_ap, bkS_ap, ctS_ap, raiseS_ap, retN_ap, op1_ap, k1_ok, op2_ap, k2a_ok, k2b_ok, opN_ap, kN_ok, nilA_ap, consA_ap, kca_ok, kcb_ok, varE_ap, pick_ok, cstE_ap, asgS_ap, kasg_ok, kasg_exc, retS_ap, kret_ok, kret_exc, dropS_ap, kdrop_ok, kdrop_exc, ifS_ap, kif_t, kif_f, ifE_ap, kife_t, kife_f, valT_ap, kval_ok, notT_ap, knot_ok, andT_ap, kand_t, kand_f, orT_ap, kor_t, kor_f, andV_ap, kandv_t, kandv_f, orV_ap, korv_t, korv_f, notV_ap, knotv_ok, callE_ap, kcall_ok, parS_ap, kpar_ok, asgG_ap, forS_ap, kfor_ok, srcE_ap, ksrc_tup, ksrc_str, finF_nx, finF_rt, finF_exc, startE, lft_some, List.length_cons, List.length_nil, List.map_cons, List.map_nil, List.getElem?_cons_succ, List.getElem?_cons_zero, List.set_cons_zero, List.set_cons_succ, List.cons_append, List.nil_append, List.replicate_succ, List.replicate_zero, Nat.reduceAdd, Nat.reduceSub, Nat.sub_self, Nat.zero_add, eqG_int, neG_int, ltG_int, gtG_int, leG_int, geG_int, addG_int, subG_int, negG_int, absG_int, intG_int, gcdG_int, lenG_tup, tupD0, tupD1, tupD2, tupD3, tupD4, lstD0, lstD1, lstD4, isi_int_int, isi_bool_int, isi_tup_tup, decide_true, decide_false, Bool.not_true, Bool.not_false, beq_self_eq_true, Int.reduceBEq, Int.reduceLT, Int.reduceLE, Int.reduceNeg, mulG_int mm, modG_pos (show (0 : Int) < 2147483629 by decide), modG_pos (show (0 : Int) < 2147483647 by decide)])
    (ns.map .int) [some (.ref 0), some (.int 1), none] [MO.con (ns.map D.int)] ⟨rfl, 1, none, rfl, by omega, by omega, fun d hd => by
      obtain ⟨z, _, rfl⟩ := List.mem_map.mp hd
      exact ⟨z, rfl⟩⟩
  subst em er
  refine ⟨seed, ?_, h0, h1⟩
  have lg : listG [.ref 0] [MO.con (ns.map D.int)] = some (.ref 1, [MO.con (ns.map D.int), .lst (ns.map D.int)]) := rfl
  unfold f__law_begin
  simp only [atI_c0, atI_c1, atI_c2, atI_c3, nc0, nc1, nc2, nc3, nc4, nc5, nc6, nc7, nc8, nc9, setG_v, ksv_ok, kso_ok, ksi_ok, ksx_ok, ksy_ok, items_kit, kit_lst, kit_con, idxG_refE, kix_some, idxG_tupE, ofI_some, lenG_refE, klen_some, defF1, defF2, defF3, defF4, defF5, seqS_ap, kseq_nx, kseq_rt, kseq_bk, kseq_ct, kseq_exc, kseq_bad, nxS_ap, bkS_ap, ctS_ap, raiseS_ap, retN_ap, op1_ap, k1_ok, op2_ap, k2a_ok, k2b_ok, opN_ap, kN_ok, nilA_ap, consA_ap, kca_ok, kcb_ok, varE_ap, pick_ok, cstE_ap, asgS_ap, kasg_ok, kasg_exc, retS_ap, kret_ok, kret_exc, dropS_ap, kdrop_ok, kdrop_exc, ifS_ap, kif_t, kif_f, ifE_ap, kife_t, kife_f, valT_ap, kval_ok, notT_ap, knot_ok, andT_ap, kand_t, kand_f, orT_ap, kor_t, kor_f, andV_ap, kandv_t, kandv_f, orV_ap, korv_t, korv_f, notV_ap, knotv_ok, callE_ap, kcall_ok, parS_ap, kpar_ok, asgG_ap, forS_ap, kfor_ok, srcE_ap, ksrc_tup, ksrc_str, finF_nx, finF_rt, finF_exc, startE, lft_some, List.length_cons, List.length_nil, List.map_cons, List.map_nil, List.getElem?_cons_succ, List.getElem?_cons_zero, List.set_cons_zero, List.set_cons_succ, List.cons_append, List.nil_append, List.replicate_succ, List.replicate_zero, Nat.reduceAdd, Nat.reduceSub, Nat.sub_self, Nat.zero_add, eqG_int, neG_int, ltG_int, gtG_int, leG_int, geG_int, addG_int, subG_int, negG_int, absG_int, intG_int, gcdG_int, lenG_tup, tupD0, tupD1, tupD2, tupD3, tupD4, lstD0, lstD1, lstD4, isi_int_int, isi_bool_int, isi_tup_tup, decide_true, decide_false, Bool.not_true, Bool.not_false, beq_self_eq_true, Int.reduceBEq, Int.reduceLT, Int.reduceLE, Int.reduceNeg, ksrc_ref hi, Src.items, e, lg]
theorem begin_drw (ns : List Int) {seed : Int} (h0 : 0 ≤ seed) (h1 : seed < 2147483647) : Drw [.con (ns.map .int), .lst (ns.map .int), .lst [.ref 1, .int 0, .int 0, .int seed]] 2 :=
  ⟨1, ns, 0, 0, seed, rfl, rfl, by omega, by omega, by omega, h0, h1⟩
/-- the law's drawer -/
theorem begin_ok (ns : List Int) : ∃ m, f__law_begin [.ref 0] [.con (ns.map .int)] = .ok (.ref 2) m ∧ m.length = 3 ∧ Drw m 2 := by
  obtain ⟨seed, e, h0, h1⟩ := begin_eq ns
  exact ⟨_, e, rfl, begin_drw ns h0 h1⟩
theorem signed_eq {m : Mem} {k : Nat} (h : Drw m k) {n : Int} (hn : 0 ≤ n) (hn2 : n.natAbs < 2 ^ 8000) : ∃ r m', f__law_signed [.ref k, .int n] m = .ok (.int r) m' ∧ -n ≤ r ∧ r ≤ n ∧ Drw m' k ∧ But k m m' := by
  have l2 : (2 : Int).natAbs.log2 + n.natAbs.log2 < 1000000 := by
    have := log_of (k := 8000) hn2 (by omega)
    have e : (2 : Int).natAbs.log2 = 1 := by decide +kernel
    omega
  have l3 : (2 * n + 1).natAbs.log2 < 9000 := by
    refine log_of (k := 9000) ?_ (by omega)
    have h1 : (2 * n + 1).natAbs = 2 * n.natAbs + 1 := by omega
    have h2 : 2 * n.natAbs + 1 < 2 * 2 ^ 8000 := by omega
    have h3 : 2 * 2 ^ 8000 ≤ 2 ^ 9000 := by rw [← Nat.pow_succ']; exact Nat.pow_le_pow_right (by omega) (by omega)
    omega
  obtain ⟨r, m', e, h0, h1, h2, h3⟩ := take_eq h (n := 2 * n + 1) (by omega) l3
  refine ⟨r - n, m', ?_, by omega, by omega, h2, h3⟩
  unfold f__law_signed
  simp only [atI_c0, atI_c1, atI_c2, atI_c3, nc0, nc1, nc2, nc3, nc4, nc5, nc6, nc7, nc8, nc9, setG_v, ksv_ok, kso_ok, ksi_ok, ksx_ok, ksy_ok, items_kit, kit_lst, kit_con, idxG_refE, kix_some, idxG_tupE, ofI_some, lenG_refE, klen_some, defF1, defF2, defF3, defF4, defF5, seqS_ap, kseq_nx, kseq_rt, kseq_bk, kseq_ct, kseq_exc, kseq_bad, nxS_ap, bkS_ap, ctS_ap, raiseS_ap, retN_ap, op1_ap, k1_ok, op2_ap, k2a_ok, k2b_ok, opN_ap, kN_ok, nilA_ap, consA_ap, kca_ok, kcb_ok, varE_ap, pick_ok, cstE_ap, asgS_ap, kasg_ok, kasg_exc, retS_ap, kret_ok, kret_exc, dropS_ap, kdrop_ok, kdrop_exc, ifS_ap, kif_t, kif_f, ifE_ap, kife_t, kife_f, valT_ap, kval_ok, notT_ap, knot_ok, andT_ap, kand_t, kand_f, orT_ap, kor_t, kor_f, andV_ap, kandv_t, kandv_f, orV_ap, korv_t, korv_f, notV_ap, knotv_ok, callE_ap, kcall_ok, parS_ap, kpar_ok, asgG_ap, forS_ap, kfor_ok, srcE_ap, ksrc_tup, ksrc_str, finF_nx, finF_rt, finF_exc, startE, lft_some, List.length_cons, List.length_nil, List.map_cons, List.map_nil, List.getElem?_cons_succ, List.getElem?_cons_zero, List.set_cons_zero, List.set_cons_succ, List.cons_append, List.nil_append, List.replicate_succ, List.replicate_zero, Nat.reduceAdd, Nat.reduceSub, Nat.sub_self, Nat.zero_add, eqG_int, neG_int, ltG_int, gtG_int, leG_int, geG_int, addG_int, subG_int, negG_int, absG_int, intG_int, gcdG_int, lenG_tup, tupD0, tupD1, tupD2, tupD3, tupD4, lstD0, lstD1, lstD4, isi_int_int, isi_bool_int, isi_tup_tup, decide_true, decide_false, Bool.not_true, Bool.not_false, beq_self_eq_true, Int.reduceBEq, Int.reduceLT, Int.reduceLE, Int.reduceNeg, mulG_int l2, e]
end Lw

end

section
set_option Elab.async false
set_option linter.all false
set_option maxRecDepth 100000
set_option maxHeartbeats 4000000
namespace K01
open PySem PySem.Spec L2 Mi
open PyProof.Rows hiding St
abbrev errs : List String := ["HallError", "ZeroDenominator"]
abbrev hands : List String := ["HallError", "ZeroDenominator"]
noncomputable def f__law_is : Fn := defF 3 3 (seqS (ifS (orT (notT (valT (op1 (varE 0) (isiG "tuple")))) (orT (valT (op2 (opN (consA (varE 0) nilA) lenG) (cstE (.int 2)) neG)) (orT (notT (valT (callE Lw.f__law_int (consA (op2 (varE 0) (cstE (.int 0)) idxG) nilA)))) (notT (valT (callE Lw.f__law_int (consA (op2 (varE 0) (cstE (.int 1)) idxG) nilA))))))) (seqS (retS (cstE (.bl false)))
  nxS) nxS)
  (seqS (retS (andV (op2 (op2 (varE 0) (cstE (.int 1)) idxG) (cstE (.int 0)) gtG) (andV (op2 (op2 (op2 (varE 0) (cstE (.int 0)) idxG) (varE 2) mulG) (op2 (varE 1) (op2 (varE 0) (cstE (.int 1)) idxG) mulG) eqG) (op2 (callE Lw.f__law_gcd (consA (opN (consA (op2 (varE 0) (cstE (.int 0)) idxG) nilA) absG) (consA (op2 (varE 0) (cstE (.int 1)) idxG) nilA))) (cstE (.int 1)) eqG))))
  nxS))
noncomputable def f__law_number : Fn := defF 2 1 (seqS (asgS 1 (callE Lw.f__law_signed (consA (varE 0) (consA (cstE (.int 60)) nilA))))
  (seqS (retS (ifE (valT (op2 (callE Lw.f__law_take (consA (varE 0) (consA (cstE (.int 4)) nilA))) (cstE (.int 1)) eqG)) (op2 (op2 (varE 1) (op2 (cstE (.int 10)) (cstE (.int 38)) powG) mulG) (callE Lw.f__law_signed (consA (varE 0) (consA (op2 (cstE (.int 10)) (cstE (.int 38)) powG) nilA))) addG) (varE 1)))
  nxS))
noncomputable def f__law_refused : Fn := defF 4 2 (seqS (tryR 3 errs (fun c => if isSub c "HallError" = true then some (.bl (isSub c "ZeroDenominator")) else none) (seqS (asgS 2 (callE Pg.f_fraction (consA (varE 0) (consA (varE 1) nilA))))
  nxS))
  (seqS (retS (cstE (.bl false)))
  nxS))
noncomputable def f_law : Fn := defF 13 1 (seqS (asgS 1 (callE Lw.f__law_begin (consA (varE 0) nilA)))
  (seqS (asgS 2 (opN nilA lstD))
  (seqS (forS (rng1 (consA (op2 (cstE (.int 2)) (callE Lw.f__law_take (consA (varE 1) (consA (cstE (.int 5)) nilA))) addG) nilA)) (nameG 3) (seqS (asgS 4 (callE f__law_number (consA (varE 1) nilA)))
  (seqS (asgS 5 (callE f__law_number (consA (varE 1) nilA)))
  (seqS (ifS (valT (op2 (varE 5) (cstE (.int 0)) eqG)) (seqS (ifS (notT (valT (callE f__law_refused (consA (varE 4) (consA (varE 5) nilA))))) (seqS (retS (cstE (.bl false)))
  nxS) nxS)
  (seqS (asgS 5 (cstE (.int 1)))
  nxS)) nxS)
  (seqS (asgS 6 (callE Pg.f_fraction (consA (varE 4) (consA (varE 5) nilA))))
  (seqS (ifS (notT (valT (callE f__law_is (consA (varE 6) (consA (varE 4) (consA (varE 5) nilA)))))) (seqS (retS (cstE (.bl false)))
  nxS) nxS)
  (seqS (dropS (appE (varE 2) (varE 6)))
  nxS)))))))
  (seqS (parS 7 8 (consA (op2 (varE 2) (cstE (.int 0)) idxG) (consA (op2 (varE 2) (cstE (.int 1)) idxG) nilA)))
  (seqS (ifS (orT (notT (valT (callE f__law_is (consA (callE Pg.f_plus (consA (varE 7) (consA (varE 8) nilA))) (consA (op2 (op2 (op2 (varE 7) (cstE (.int 0)) idxG) (op2 (varE 8) (cstE (.int 1)) idxG) mulG) (op2 (op2 (varE 8) (cstE (.int 0)) idxG) (op2 (varE 7) (cstE (.int 1)) idxG) mulG) addG) (consA (op2 (op2 (varE 7) (cstE (.int 1)) idxG) (op2 (varE 8) (cstE (.int 1)) idxG) mulG) nilA)))))) (notT (valT (callE f__law_is (consA (callE Pg.f_minus (consA (varE 7) (consA (varE 8) nilA))) (consA (op2 (op2 (op2 (varE 7) (cstE (.int 0)) idxG) (op2 (varE 8) (cstE (.int 1)) idxG) mulG) (op2 (op2 (varE 8) (cstE (.int 0)) idxG) (op2 (varE 7) (cstE (.int 1)) idxG) mulG) subG) (consA (op2 (op2 (varE 7) (cstE (.int 1)) idxG) (op2 (varE 8) (cstE (.int 1)) idxG) mulG) nilA))))))) (seqS (retS (cstE (.bl false)))
  nxS) nxS)
  (seqS (ifS (notT (valT (callE f__law_is (consA (callE Pg.f_times (consA (varE 7) (consA (varE 8) nilA))) (consA (op2 (op2 (varE 7) (cstE (.int 0)) idxG) (op2 (varE 8) (cstE (.int 0)) idxG) mulG) (consA (op2 (op2 (varE 7) (cstE (.int 1)) idxG) (op2 (varE 8) (cstE (.int 1)) idxG) mulG) nilA)))))) (seqS (retS (cstE (.bl false)))
  nxS) nxS)
  (seqS (asgS 9 (op2 (ifE (valT (callE Lw.f__law_less (consA (varE 8) (consA (varE 7) nilA)))) (cstE (.int 1)) (cstE (.int 0))) (ifE (valT (callE Lw.f__law_less (consA (varE 7) (consA (varE 8) nilA)))) (cstE (.int 1)) (cstE (.int 0))) subG))
  (seqS (asgS 10 (callE Pg.f_compare (consA (varE 7) (consA (varE 8) nilA))))
  (seqS (ifS (orT (notT (valT (callE Lw.f__law_int (consA (varE 10) nilA)))) (orT (valT (op2 (varE 10) (varE 9) neG)) (valT (op2 (callE Pg.f_compare (consA (varE 7) (consA (varE 7) nilA))) (cstE (.int 0)) neG)))) (seqS (retS (cstE (.bl false)))
  nxS) nxS)
  (seqS (asgS 11 (opN (consA (cstE (.int 0)) (consA (cstE (.int 1)) nilA)) tupD))
  (seqS (forS (srcE (varE 2)) (nameG 12) (seqS (asgS 11 (callE Lw.f__law_plus (consA (varE 11) (consA (varE 12) nilA))))
  nxS))
  (seqS (retS (andV (op2 (callE Pg.f_total (consA (opN (consA (varE 2) nilA) tupleG) nilA)) (varE 11) eqG) (op2 (callE Pg.f_total (consA (opN nilA tupD) nilA)) (opN (consA (cstE (.int 0)) (consA (cstE (.int 1)) nilA)) tupD) eqG)))
  nxS))))))))))))
end K01

end

section
set_option Elab.async false
set_option linter.all false
set_option maxRecDepth 100000
set_option maxHeartbeats 4000000
namespace K01
open PySem PySem.Spec L2 Mi
open PyProof.Rows hiding St
def topS (i : Nat) : Stmt := PySem.Challenge.pw_joinhall_k01_fractions.main.body.getD i (.Pass ⟨0, 0, 0, 0⟩)
abbrev s_fraction : Stmt := topS 5
abbrev N_fraction : List Str := ["numerator", "denominator", "divisor"]
theorem sc_fraction : FnScope N_fraction ["numerator", "denominator"] (defScope s_fraction) := ⟨rfl, rfl, rfl, by decide +kernel, rfl, by decide +kernel, by decide +kernel⟩
abbrev s_plus : Stmt := topS 6
abbrev N_plus : List Str := ["a", "b"]
theorem sc_plus : FnScope N_plus ["a", "b"] (defScope s_plus) := ⟨rfl, rfl, rfl, by decide +kernel, rfl, by decide +kernel, by decide +kernel⟩
abbrev s_minus : Stmt := topS 7
abbrev N_minus : List Str := ["a", "b"]
theorem sc_minus : FnScope N_minus ["a", "b"] (defScope s_minus) := ⟨rfl, rfl, rfl, by decide +kernel, rfl, by decide +kernel, by decide +kernel⟩
abbrev s_times : Stmt := topS 8
abbrev N_times : List Str := ["a", "b"]
theorem sc_times : FnScope N_times ["a", "b"] (defScope s_times) := ⟨rfl, rfl, rfl, by decide +kernel, rfl, by decide +kernel, by decide +kernel⟩
abbrev s_compare : Stmt := topS 9
abbrev N_compare : List Str := ["a", "b", "left", "right"]
theorem sc_compare : FnScope N_compare ["a", "b"] (defScope s_compare) := ⟨rfl, rfl, rfl, by decide +kernel, rfl, by decide +kernel, by decide +kernel⟩
abbrev s_total : Stmt := topS 10
abbrev N_total : List Str := ["items", "whole", "item"]
theorem sc_total : FnScope N_total ["items"] (defScope s_total) := ⟨rfl, rfl, rfl, by decide +kernel, rfl, by decide +kernel, by decide +kernel⟩
abbrev s__law_begin : Stmt := topS 12
abbrev N__law_begin : List Str := ["script", "seed", "cell"]
theorem sc__law_begin : FnScope N__law_begin ["script"] (defScope s__law_begin) := ⟨rfl, rfl, rfl, by decide +kernel, rfl, by decide +kernel, by decide +kernel⟩
abbrev s__law_take : Stmt := topS 13
abbrev N__law_take : List Str := ["d", "many", "small", "digit"]
theorem sc__law_take : FnScope N__law_take ["d", "many"] (defScope s__law_take) := ⟨rfl, rfl, rfl, by decide +kernel, rfl, by decide +kernel, by decide +kernel⟩
abbrev s__law_signed : Stmt := topS 14
abbrev N__law_signed : List Str := ["d", "most"]
theorem sc__law_signed : FnScope N__law_signed ["d", "most"] (defScope s__law_signed) := ⟨rfl, rfl, rfl, by decide +kernel, rfl, by decide +kernel, by decide +kernel⟩
abbrev s__law_int : Stmt := topS 15
abbrev N__law_int : List Str := ["actual"]
theorem sc__law_int : FnScope N__law_int ["actual"] (defScope s__law_int) := ⟨rfl, rfl, rfl, by decide +kernel, rfl, by decide +kernel, by decide +kernel⟩
abbrev s__law_gcd : Stmt := topS 16
abbrev N__law_gcd : List Str := ["a", "b"]
theorem sc__law_gcd : FnScope N__law_gcd ["a", "b"] (defScope s__law_gcd) := ⟨rfl, rfl, rfl, by decide +kernel, rfl, by decide +kernel, by decide +kernel⟩
abbrev s__law_f : Stmt := topS 17
abbrev N__law_f : List Str := ["a", "b", "c"]
theorem sc__law_f : FnScope N__law_f ["a", "b"] (defScope s__law_f) := ⟨rfl, rfl, rfl, by decide +kernel, rfl, by decide +kernel, by decide +kernel⟩
abbrev s__law_plus : Stmt := topS 18
abbrev N__law_plus : List Str := ["a", "b"]
theorem sc__law_plus : FnScope N__law_plus ["a", "b"] (defScope s__law_plus) := ⟨rfl, rfl, rfl, by decide +kernel, rfl, by decide +kernel, by decide +kernel⟩
abbrev s__law_less : Stmt := topS 19
abbrev N__law_less : List Str := ["a", "b"]
theorem sc__law_less : FnScope N__law_less ["a", "b"] (defScope s__law_less) := ⟨rfl, rfl, rfl, by decide +kernel, rfl, by decide +kernel, by decide +kernel⟩
abbrev s__law_is : Stmt := topS 20
abbrev N__law_is : List Str := ["actual", "top", "bottom"]
theorem sc__law_is : FnScope N__law_is ["actual", "top", "bottom"] (defScope s__law_is) := ⟨rfl, rfl, rfl, by decide +kernel, rfl, by decide +kernel, by decide +kernel⟩
abbrev s__law_number : Stmt := topS 21
abbrev N__law_number : List Str := ["d", "n"]
theorem sc__law_number : FnScope N__law_number ["d"] (defScope s__law_number) := ⟨rfl, rfl, rfl, by decide +kernel, rfl, by decide +kernel, by decide +kernel⟩
abbrev s__law_refused : Stmt := topS 22
abbrev N__law_refused : List Str := ["a", "b", "found", "e"]
theorem sc__law_refused : FnScope N__law_refused ["a", "b"] (defScope s__law_refused) := ⟨rfl, rfl, rfl, by decide +kernel, rfl, by decide +kernel, by decide +kernel⟩
abbrev s_law : Stmt := topS 23
abbrev N_law : List Str := ["script", "d", "row", "k", "top", "bottom", "found", "a", "b", "due", "told", "whole", "item"]
theorem sc_law : FnScope N_law ["script"] (defScope s_law) := ⟨rfl, rfl, rfl, by decide +kernel, rfl, by decide +kernel, by decide +kernel⟩
section
variable {P : Program} {w : World} {K : PySem.W.Frag} {mg : Str → Option Value} {base : Heap} {cl : String → Addr}
theorem t_fraction (D_fraction : Def K mg "fraction" s_fraction ["numerator", "denominator"]) (E_ZeroDenominator : ErrC K mg cl "ZeroDenominator") (M_gcd : mg "gcd" = some (.builtin "math.gcd")) : Has P w K mg base cl "fraction" 1 ["numerator", "denominator"] Pg.f_fraction := has_of D_fraction sc_fraction fun f cdv A outer s H E hr => (scons (sif (dtcmp (o_eq hr.units) (dvar 1) dint) (scons (sraise rfl (takes_of rfl rfl rfl rfl) E_ZeroDenominator)
  snil) snil)
  (scons (sset sc_fraction.nd (dcallF c_gcd (by rfl) M_gcd (dcons (dvar 0) (dcons (dvar 1) dnil))))
  (scons (sif (dtcmp (o_lt hr.units) (dvar 1) dint) (scons (sset sc_fraction.nd (dun o_neg (dvar 2)))
  snil) snil)
  (scons (sret (dtup (dcons (dop o_fdiv (dvar 0) (dvar 2)) (dcons (dop o_fdiv (dvar 1) (dvar 2)) dnil))))
  snil))))
theorem t_plus (D_plus : Def K mg "plus" s_plus ["a", "b"]) (h_fraction : Has P w K mg base cl "fraction" 1 ["numerator", "denominator"] Pg.f_fraction) : Has P w K mg base cl "plus" 2 ["a", "b"] Pg.f_plus := has_of D_plus sc_plus fun f cdv A outer s H E hr => (scons (sret (dcl h_fraction hr (takes_of rfl rfl rfl rfl) (dcons (dop o_add (dop o_mul (dix (dvar 0) dint) (dix (dvar 1) dint)) (dop o_mul (dix (dvar 1) dint) (dix (dvar 0) dint))) (dcons (dop o_mul (dix (dvar 0) dint) (dix (dvar 1) dint)) dnil))))
  snil)
theorem t_minus (D_minus : Def K mg "minus" s_minus ["a", "b"]) (h_fraction : Has P w K mg base cl "fraction" 1 ["numerator", "denominator"] Pg.f_fraction) : Has P w K mg base cl "minus" 2 ["a", "b"] Pg.f_minus := has_of D_minus sc_minus fun f cdv A outer s H E hr => (scons (sret (dcl h_fraction hr (takes_of rfl rfl rfl rfl) (dcons (dop o_sub (dop o_mul (dix (dvar 0) dint) (dix (dvar 1) dint)) (dop o_mul (dix (dvar 1) dint) (dix (dvar 0) dint))) (dcons (dop o_mul (dix (dvar 0) dint) (dix (dvar 1) dint)) dnil))))
  snil)
theorem t_times (D_times : Def K mg "times" s_times ["a", "b"]) (h_fraction : Has P w K mg base cl "fraction" 1 ["numerator", "denominator"] Pg.f_fraction) : Has P w K mg base cl "times" 2 ["a", "b"] Pg.f_times := has_of D_times sc_times fun f cdv A outer s H E hr => (scons (sret (dcl h_fraction hr (takes_of rfl rfl rfl rfl) (dcons (dop o_mul (dix (dvar 0) dint) (dix (dvar 1) dint)) (dcons (dop o_mul (dix (dvar 0) dint) (dix (dvar 1) dint)) dnil))))
  snil)
theorem t_compare (D_compare : Def K mg "compare" s_compare ["a", "b"]) : Has P w K mg base cl "compare" 1 ["a", "b"] Pg.f_compare := has_of D_compare sc_compare fun f cdv A outer s H E hr => (scons (sset sc_compare.nd (dop o_mul (dix (dvar 0) dint) (dix (dvar 1) dint)))
  (scons (sset sc_compare.nd (dop o_mul (dix (dvar 1) dint) (dix (dvar 0) dint)))
  (scons (sif (dtcmp (o_lt hr.units) (dvar 2) (dvar 3)) (scons (sret (dun o_neg dint))
  snil) snil)
  (scons (sif (dtcmp (o_gt hr.units) (dvar 2) (dvar 3)) (scons (sret dint)
  snil) snil)
  (scons (sret dint)
  snil)))))
theorem t_total (D_total : Def K mg "total" s_total ["items"]) (h_plus : Has P w K mg base cl "plus" 2 ["a", "b"] Pg.f_plus) : Has P w K mg base cl "total" 3 ["items"] Pg.f_total := has_of D_total sc_total fun f cdv A outer s H E hr => (scons (sset sc_total.nd (dtup (dcons dint (dcons dint dnil))))
  (scons (sfor (passes_of rfl) rfl (ival (dvar 0)) (gname 2 sc_total.nd) (scons (sset sc_total.nd (dcl h_plus hr (takes_of rfl rfl rfl rfl) (dcons (dvar 1) (dcons (dvar 2) dnil))))
  snil))
  (scons (sret (dvar 1))
  snil)))
theorem t__law_begin (D__law_begin : Def K mg "_law_begin" s__law_begin ["script"]) (Z_int : mg "int" = none) (Z_list : mg "list" = none) : Has P w K mg base cl "_law_begin" 1 ["script"] Lw.f__law_begin := has_of D__law_begin sc__law_begin fun f cdv A outer s H E hr => (scons (sset sc__law_begin.nd dint)
  (scons (sfor (passes_of rfl) rfl (ival (dvar 0)) (gname 2 sc__law_begin.nd) (scons (sset sc__law_begin.nd (dop o_mod (dop o_add (dop o_add (dop o_mul (dvar 1) dint) (dop o_mod (dcallTy c_int (by rfl) Z_int (by decide +kernel) (dcons (dvar 2) dnil)) dint)) dint) dint))
  snil))
  (scons (sret (dlst (dcons (dcallTy c_list (by rfl) Z_list (by decide +kernel) (dcons (dvar 0) dnil)) (dcons dint (dcons dint (dcons (dvar 1) dnil))))))
  snil)))
theorem t__law_take (D__law_take : Def K mg "_law_take" s__law_take ["d", "many"]) (Z_len : mg "len" = none) (Z_int : mg "int" = none) (Z_abs : mg "abs" = none) : Has P w K mg base cl "_law_take" 1 ["d", "many"] Lw.f__law_take := has_of D__law_take sc__law_take fun f cdv A outer s H E hr => (scons (sif (dtw (dwand (dtcmp (o_eq hr.units) (dix (dvar 0) dint) dint) (dwand1 (dtcmp (o_lt hr.units) (dix (dvar 0) dint) (dcallB c_len (by rfl) Z_len (by decide +kernel) (dcons (dix (dvar 0) dint) dnil)))))) (scons (ssub (dcallB c_abs (by rfl) Z_abs (by decide +kernel) (dcons (dcallTy c_int (by rfl) Z_int (by decide +kernel) (dcons (dix (dix (dvar 0) dint) (dix (dvar 0) dint)) dnil)) dnil)) (dvar 0) dint)
  (scons (ssub (dop o_add (dix (dvar 0) dint) dint) (dvar 0) dint)
  (scons (sif (dtcmp (o_lt hr.units) (dix (dvar 0) dint) (dop o_pow dint dint)) (scons (sset sc__law_take.nd (dcallTy c_int (by rfl) Z_int (by decide +kernel) (dcons (dix (dvar 0) dint) dnil)))
  (scons (ssub dint (dvar 0) dint)
  (scons (sret (dop o_mod (dvar 2) (dvar 1)))
  snil))) snil)
  snil))) snil)
  (scons (sif (dtcmp (o_gt hr.units) (dix (dvar 0) dint) dint) (scons (sset sc__law_take.nd (dop o_mod (dcallTy c_int (by rfl) Z_int (by decide +kernel) (dcons (dix (dvar 0) dint) dnil)) (dvar 1)))
  (scons (ssub (dop o_fdiv (dcallTy c_int (by rfl) Z_int (by decide +kernel) (dcons (dix (dvar 0) dint) dnil)) (dvar 1)) (dvar 0) dint)
  (scons (sret (dvar 3))
  snil))) snil)
  (scons (ssub (dop o_mod (dcallTy c_int (by rfl) Z_int (by decide +kernel) (dcons (dop o_add (dop o_mul (dix (dvar 0) dint) dint) dint) dnil)) dint) (dvar 0) dint)
  (scons (sret (dop o_mod (dcallTy c_int (by rfl) Z_int (by decide +kernel) (dcons (dop o_fdiv (dix (dvar 0) dint) dint) dnil)) (dvar 1)))
  snil))))
theorem t__law_signed (D__law_signed : Def K mg "_law_signed" s__law_signed ["d", "most"]) (h__law_take : Has P w K mg base cl "_law_take" 1 ["d", "many"] Lw.f__law_take) : Has P w K mg base cl "_law_signed" 2 ["d", "most"] Lw.f__law_signed := has_of D__law_signed sc__law_signed fun f cdv A outer s H E hr => (scons (sret (dop o_sub (dcl h__law_take hr (takes_of rfl rfl rfl rfl) (dcons (dvar 0) (dcons (dop o_add (dop o_mul dint (dvar 1)) dint) dnil))) (dvar 1)))
  snil)
theorem t__law_int (D__law_int : Def K mg "_law_int" s__law_int ["actual"]) (Z_isinstance : mg "isinstance" = none) (Z_int : mg "int" = none) (Z_bool : mg "bool" = none) : Has P w K mg base cl "_law_int" 1 ["actual"] Lw.f__law_int := has_of D__law_int sc__law_int fun f cdv A outer s H E hr => (scons (sret (dvand (disi (by rfl) Z_isinstance (by rfl) Z_int (by decide +kernel) (dvar 0)) (dvone (dvnot (disi (by rfl) Z_isinstance (by rfl) Z_bool (by decide +kernel) (dvar 0))))))
  snil)
theorem t__law_gcd (D__law_gcd : Def K mg "_law_gcd" s__law_gcd ["a", "b"]) (Z_int : mg "int" = none) (Z_abs : mg "abs" = none) : Has P w K mg base cl "_law_gcd" 1 ["a", "b"] Lw.f__law_gcd := has_of D__law_gcd sc__law_gcd fun f cdv A outer s H E hr => (scons (swhile (passes_of rfl) (dtcmp (o_ne hr.units) (dvar 1) dint) (scons (spar rfl sc__law_gcd.nd (dcons (dvar 1) (dcons (dop o_mod (dcallTy c_int (by rfl) Z_int (by decide +kernel) (dcons (dvar 0) dnil)) (dvar 1)) dnil)))
  snil))
  (scons (sret (dcallB c_abs (by rfl) Z_abs (by decide +kernel) (dcons (dvar 0) dnil)))
  snil))
theorem t__law_f (D__law_f : Def K mg "_law_f" s__law_f ["a", "b"]) (Z_abs : mg "abs" = none) (h__law_gcd : Has P w K mg base cl "_law_gcd" 1 ["a", "b"] Lw.f__law_gcd) : Has P w K mg base cl "_law_f" 2 ["a", "b"] Lw.f__law_f := has_of D__law_f sc__law_f fun f cdv A outer s H E hr => (scons (sif (dtcmp (o_lt hr.units) (dvar 1) dint) (scons (sset sc__law_f.nd (dop o_sub dint (dvar 0)))
  (scons (sset sc__law_f.nd (dop o_sub dint (dvar 1)))
  snil)) snil)
  (scons (sset sc__law_f.nd (dcl h__law_gcd hr (takes_of rfl rfl rfl rfl) (dcons (dcallB c_abs (by rfl) Z_abs (by decide +kernel) (dcons (dvar 0) dnil)) (dcons (dvar 1) dnil))))
  (scons (sret (dtup (dcons (dop o_fdiv (dvar 0) (dvar 2)) (dcons (dop o_fdiv (dvar 1) (dvar 2)) dnil))))
  snil)))
theorem t__law_plus (D__law_plus : Def K mg "_law_plus" s__law_plus ["a", "b"]) (h__law_f : Has P w K mg base cl "_law_f" 2 ["a", "b"] Lw.f__law_f) : Has P w K mg base cl "_law_plus" 3 ["a", "b"] Lw.f__law_plus := has_of D__law_plus sc__law_plus fun f cdv A outer s H E hr => (scons (sret (dcl h__law_f hr (takes_of rfl rfl rfl rfl) (dcons (dop o_add (dop o_mul (dix (dvar 0) dint) (dix (dvar 1) dint)) (dop o_mul (dix (dvar 1) dint) (dix (dvar 0) dint))) (dcons (dop o_mul (dix (dvar 0) dint) (dix (dvar 1) dint)) dnil))))
  snil)
theorem t__law_less (D__law_less : Def K mg "_law_less" s__law_less ["a", "b"]) : Has P w K mg base cl "_law_less" 1 ["a", "b"] Lw.f__law_less := has_of D__law_less sc__law_less fun f cdv A outer s H E hr => (scons (sret (dcmp (o_lt hr.units) (dop o_mul (dix (dvar 0) dint) (dix (dvar 1) dint)) (dop o_mul (dix (dvar 1) dint) (dix (dvar 0) dint))))
  snil)
theorem t__law_is (D__law_is : Def K mg "_law_is" s__law_is ["actual", "top", "bottom"]) (Z_isinstance : mg "isinstance" = none) (Z_tuple : mg "tuple" = none) (Z_len : mg "len" = none) (h__law_int : Has P w K mg base cl "_law_int" 1 ["actual"] Lw.f__law_int) (Z_abs : mg "abs" = none) (h__law_gcd : Has P w K mg base cl "_law_gcd" 1 ["a", "b"] Lw.f__law_gcd) : Has P w K mg base cl "_law_is" 2 ["actual", "top", "bottom"] f__law_is := has_of D__law_is sc__law_is fun f cdv A outer s H E hr => (scons (sif (dtw (dwor (dtnot (dtval (disi (by rfl) Z_isinstance (by rfl) Z_tuple (by decide +kernel) (dvar 0)))) (dwor (dtcmp (o_ne hr.units) (dcallB c_len (by rfl) Z_len (by decide +kernel) (dcons (dvar 0) dnil)) dint) (dwor (dtnot (dtval (dcl h__law_int hr (takes_of rfl rfl rfl rfl) (dcons (dix (dvar 0) dint) dnil)))) (dwor1 (dtnot (dtval (dcl h__law_int hr (takes_of rfl rfl rfl rfl) (dcons (dix (dvar 0) dint) dnil))))))))) (scons (sret dbl)
  snil) snil)
  (scons (sret (dvand (dcmp (o_gt hr.units) (dix (dvar 0) dint) dint) (dvand (dcmp (o_eq hr.units) (dop o_mul (dix (dvar 0) dint) (dvar 2)) (dop o_mul (dvar 1) (dix (dvar 0) dint))) (dvone (dcmp (o_eq hr.units) (dcl h__law_gcd hr (takes_of rfl rfl rfl rfl) (dcons (dcallB c_abs (by rfl) Z_abs (by decide +kernel) (dcons (dix (dvar 0) dint) dnil)) (dcons (dix (dvar 0) dint) dnil))) dint)))))
  snil))
theorem t__law_number (D__law_number : Def K mg "_law_number" s__law_number ["d"]) (h__law_signed : Has P w K mg base cl "_law_signed" 2 ["d", "most"] Lw.f__law_signed) (h__law_take : Has P w K mg base cl "_law_take" 1 ["d", "many"] Lw.f__law_take) : Has P w K mg base cl "_law_number" 3 ["d"] f__law_number := has_of D__law_number sc__law_number fun f cdv A outer s H E hr => (scons (sset sc__law_number.nd (dcl h__law_signed hr (takes_of rfl rfl rfl rfl) (dcons (dvar 0) (dcons dint dnil))))
  (scons (sret (dife (dtcmp (o_eq hr.units) (dcl h__law_take hr (takes_of rfl rfl rfl rfl) (dcons (dvar 0) (dcons dint dnil))) dint) (dop o_add (dop o_mul (dvar 1) (dop o_pow dint dint)) (dcl h__law_signed hr (takes_of rfl rfl rfl rfl) (dcons (dvar 0) (dcons (dop o_pow dint dint) dnil)))) (dvar 1)))
  snil))
theorem t__law_refused (D__law_refused : Def K mg "_law_refused" s__law_refused ["a", "b"]) (h_fraction : Has P w K mg base cl "fraction" 1 ["numerator", "denominator"] Pg.f_fraction) (T_err : ∀ n, n ∈ errs → mg (PySem.Str.ofString n) = some (.ref (cl n))) (T_hand : ∀ n, n ∈ errs → ∀ c, c ∈ hands → HandC K cl n c (isSub n c)) (Z_isinstance : mg "isinstance" = none) : Has P w K mg base cl "_law_refused" 2 ["a", "b"] f__law_refused := has_of D__law_refused sc__law_refused fun f cdv A outer s H E hr => (scons (stry_as (val := fun c => (.bl (isSub c "ZeroDenominator"))) (vv := fun c => (.bl (isSub c "ZeroDenominator"))) ⟨by rfl, by decide, .inl (T_err "HallError" (by decide))⟩ (takes_of rfl rfl rfl rfl) (fun n hn => T_hand n hn "HallError" (by decide)) (fun n hn _ H ad v => by (have hn := hn; simp only [errs, List.mem_cons, List.not_mem_nil, or_false] at hn; (try rcases hn with rfl | rfl) <;> exact Iff.rfl)) (fun W pn xe tk ps => (scons (sset sc__law_refused.nd (dcl h_fraction hr tk (dcons (dvar 0) (dcons (dvar 1) dnil))))
  snil)) (fun c hc a oe pn hz hf => (se_isi (T_hand c hc "ZeroDenominator" (by decide)) hz hf Z_isinstance (T_err "ZeroDenominator" (by decide)))) sc__law_refused.nd)
  (scons (sret dbl)
  snil))
theorem t_law (D_law : Def K mg "law" s_law ["script"]) (h__law_begin : Has P w K mg base cl "_law_begin" 1 ["script"] Lw.f__law_begin) (h__law_take : Has P w K mg base cl "_law_take" 1 ["d", "many"] Lw.f__law_take) (Z_range : mg "range" = none) (h__law_number : Has P w K mg base cl "_law_number" 3 ["d"] f__law_number) (h__law_refused : Has P w K mg base cl "_law_refused" 2 ["a", "b"] f__law_refused) (h_fraction : Has P w K mg base cl "fraction" 1 ["numerator", "denominator"] Pg.f_fraction) (h__law_is : Has P w K mg base cl "_law_is" 2 ["actual", "top", "bottom"] f__law_is) (h_plus : Has P w K mg base cl "plus" 2 ["a", "b"] Pg.f_plus) (h_minus : Has P w K mg base cl "minus" 2 ["a", "b"] Pg.f_minus) (h_times : Has P w K mg base cl "times" 2 ["a", "b"] Pg.f_times) (h__law_less : Has P w K mg base cl "_law_less" 1 ["a", "b"] Lw.f__law_less) (h_compare : Has P w K mg base cl "compare" 1 ["a", "b"] Pg.f_compare) (h__law_int : Has P w K mg base cl "_law_int" 1 ["actual"] Lw.f__law_int) (h__law_plus : Has P w K mg base cl "_law_plus" 3 ["a", "b"] Lw.f__law_plus) (Z_tuple : mg "tuple" = none) (h_total : Has P w K mg base cl "total" 3 ["items"] Pg.f_total) : Has P w K mg base cl "law" 4 ["script"] f_law := has_of D_law sc_law fun f cdv A outer s H E hr => (scons (sset sc_law.nd (dcl h__law_begin hr (takes_of rfl rfl rfl rfl) (dcons (dvar 0) dnil)))
  (scons (sset sc_law.nd (dlst dnil))
  (scons (sfor (passes_of rfl) rfl (irng1 (by rfl) Z_range (dcons (dop o_add dint (dcl h__law_take hr (takes_of rfl rfl rfl rfl) (dcons (dvar 1) (dcons dint dnil)))) dnil)) (gname 3 sc_law.nd) (scons (sset sc_law.nd (dcl h__law_number hr (takes_of rfl rfl rfl rfl) (dcons (dvar 1) dnil)))
  (scons (sset sc_law.nd (dcl h__law_number hr (takes_of rfl rfl rfl rfl) (dcons (dvar 1) dnil)))
  (scons (sif (dtcmp (o_eq hr.units) (dvar 5) dint) (scons (sif (dtnot (dtval (dcl h__law_refused hr (takes_of rfl rfl rfl rfl) (dcons (dvar 4) (dcons (dvar 5) dnil))))) (scons (sret dbl)
  snil) snil)
  (scons (sset sc_law.nd dint)
  snil)) snil)
  (scons (sset sc_law.nd (dcl h_fraction hr (takes_of rfl rfl rfl rfl) (dcons (dvar 4) (dcons (dvar 5) dnil))))
  (scons (sif (dtnot (dtval (dcl h__law_is hr (takes_of rfl rfl rfl rfl) (dcons (dvar 6) (dcons (dvar 4) (dcons (dvar 5) dnil)))))) (scons (sret dbl)
  snil) snil)
  (scons (sdrop (dapp (dvar 2) (dvar 6)))
  snil)))))))
  (scons (spar rfl sc_law.nd (dcons (dix (dvar 2) dint) (dcons (dix (dvar 2) dint) dnil)))
  (scons (sif (dtw (dwor (dtnot (dtval (dcl h__law_is hr (takes_of rfl rfl rfl rfl) (dcons (dcl h_plus hr (takes_of rfl rfl rfl rfl) (dcons (dvar 7) (dcons (dvar 8) dnil))) (dcons (dop o_add (dop o_mul (dix (dvar 7) dint) (dix (dvar 8) dint)) (dop o_mul (dix (dvar 8) dint) (dix (dvar 7) dint))) (dcons (dop o_mul (dix (dvar 7) dint) (dix (dvar 8) dint)) dnil)))))) (dwor1 (dtnot (dtval (dcl h__law_is hr (takes_of rfl rfl rfl rfl) (dcons (dcl h_minus hr (takes_of rfl rfl rfl rfl) (dcons (dvar 7) (dcons (dvar 8) dnil))) (dcons (dop o_sub (dop o_mul (dix (dvar 7) dint) (dix (dvar 8) dint)) (dop o_mul (dix (dvar 8) dint) (dix (dvar 7) dint))) (dcons (dop o_mul (dix (dvar 7) dint) (dix (dvar 8) dint)) dnil))))))))) (scons (sret dbl)
  snil) snil)
  (scons (sif (dtnot (dtval (dcl h__law_is hr (takes_of rfl rfl rfl rfl) (dcons (dcl h_times hr (takes_of rfl rfl rfl rfl) (dcons (dvar 7) (dcons (dvar 8) dnil))) (dcons (dop o_mul (dix (dvar 7) dint) (dix (dvar 8) dint)) (dcons (dop o_mul (dix (dvar 7) dint) (dix (dvar 8) dint)) dnil)))))) (scons (sret dbl)
  snil) snil)
  (scons (sset sc_law.nd (dop o_sub (dife (dtval (dcl h__law_less hr (takes_of rfl rfl rfl rfl) (dcons (dvar 8) (dcons (dvar 7) dnil)))) dint dint) (dife (dtval (dcl h__law_less hr (takes_of rfl rfl rfl rfl) (dcons (dvar 7) (dcons (dvar 8) dnil)))) dint dint)))
  (scons (sset sc_law.nd (dcl h_compare hr (takes_of rfl rfl rfl rfl) (dcons (dvar 7) (dcons (dvar 8) dnil))))
  (scons (sif (dtw (dwor (dtnot (dtval (dcl h__law_int hr (takes_of rfl rfl rfl rfl) (dcons (dvar 10) dnil)))) (dwor (dtcmp (o_ne hr.units) (dvar 10) (dvar 9)) (dwor1 (dtcmp (o_ne hr.units) (dcl h_compare hr (takes_of rfl rfl rfl rfl) (dcons (dvar 7) (dcons (dvar 7) dnil))) dint))))) (scons (sret dbl)
  snil) snil)
  (scons (sset sc_law.nd (dtup (dcons dint (dcons dint dnil))))
  (scons (sfor (passes_of rfl) rfl (ival (dvar 2)) (gname 12 sc_law.nd) (scons (sset sc_law.nd (dcl h__law_plus hr (takes_of rfl rfl rfl rfl) (dcons (dvar 11) (dcons (dvar 12) dnil))))
  snil))
  (scons (sret (dvand (dcmp (o_eq hr.units) (dcl h_total hr (takes_of rfl rfl rfl rfl) (dcons (dcallTy c_tuple (by rfl) Z_tuple (by decide +kernel) (dcons (dvar 2) dnil)) dnil)) (dvar 11)) (dvone (dcmp (o_eq hr.units) (dcl h_total hr (takes_of rfl rfl rfl rfl) (dcons (dtup dnil) dnil)) (dtup (dcons dint (dcons dint dnil)))))))
  snil))))))))))))
end
theorem all_mk {l : PySem.W.OpenLaw} {w : World} {K : PySem.W.Frag} {h : Heap} {mg : Str → Option Value} {fa : Addr} (X : K.In h) (G : h.Ns mainGlobals mg) (hfa : mg "law" = some (.ref fa))
  {f5 : Addr} {oc5 kV5 dc5 pm5 cd5 ct5 : Value} {od5 an5 : Option Addr} {sl5 : Array (Option Value)}
  {f6 : Addr} {oc6 kV6 dc6 pm6 cd6 ct6 : Value} {od6 an6 : Option Addr} {sl6 : Array (Option Value)}
  {f7 : Addr} {oc7 kV7 dc7 pm7 cd7 ct7 : Value} {od7 an7 : Option Addr} {sl7 : Array (Option Value)}
  {f8 : Addr} {oc8 kV8 dc8 pm8 cd8 ct8 : Value} {od8 an8 : Option Addr} {sl8 : Array (Option Value)}
  {f9 : Addr} {oc9 kV9 dc9 pm9 cd9 ct9 : Value} {od9 an9 : Option Addr} {sl9 : Array (Option Value)}
  {f10 : Addr} {oc10 kV10 dc10 pm10 cd10 ct10 : Value} {od10 an10 : Option Addr} {sl10 : Array (Option Value)}
  {f12 : Addr} {oc12 kV12 dc12 pm12 cd12 ct12 : Value} {od12 an12 : Option Addr} {sl12 : Array (Option Value)}
  {f13 : Addr} {oc13 kV13 dc13 pm13 cd13 ct13 : Value} {od13 an13 : Option Addr} {sl13 : Array (Option Value)}
  {f14 : Addr} {oc14 kV14 dc14 pm14 cd14 ct14 : Value} {od14 an14 : Option Addr} {sl14 : Array (Option Value)}
  {f15 : Addr} {oc15 kV15 dc15 pm15 cd15 ct15 : Value} {od15 an15 : Option Addr} {sl15 : Array (Option Value)}
  {f16 : Addr} {oc16 kV16 dc16 pm16 cd16 ct16 : Value} {od16 an16 : Option Addr} {sl16 : Array (Option Value)}
  {f17 : Addr} {oc17 kV17 dc17 pm17 cd17 ct17 : Value} {od17 an17 : Option Addr} {sl17 : Array (Option Value)}
  {f18 : Addr} {oc18 kV18 dc18 pm18 cd18 ct18 : Value} {od18 an18 : Option Addr} {sl18 : Array (Option Value)}
  {f19 : Addr} {oc19 kV19 dc19 pm19 cd19 ct19 : Value} {od19 an19 : Option Addr} {sl19 : Array (Option Value)}
  {f20 : Addr} {oc20 kV20 dc20 pm20 cd20 ct20 : Value} {od20 an20 : Option Addr} {sl20 : Array (Option Value)}
  {f21 : Addr} {oc21 kV21 dc21 pm21 cd21 ct21 : Value} {od21 an21 : Option Addr} {sl21 : Array (Option Value)}
  {f22 : Addr} {oc22 kV22 dc22 pm22 cd22 ct22 : Value} {od22 an22 : Option Addr} {sl22 : Array (Option Value)}
  {f23 : Addr} {oc23 kV23 dc23 pm23 cd23 ct23 : Value} {od23 an23 : Option Addr} {sl23 : Array (Option Value)}
  {C0 : Addr}
  {C1 : Addr}
  (a5 : PySem.W.nsIn K mainGlobals "fraction" = some (some (.ref f5)))
  (l5 : K.lookup f5 = some ⟨oc5, od5, .func (PySem.W.fnOf "fraction" "fraction" (defArgs s_fraction) (defBody s_fraction) (defScope s_fraction) .none kV5 dc5 pm5 an5 cd5 ct5), sl5⟩)
  (c5 : PySem.W.codeIn K cd5 "fraction" = true)
  (k5 : PySem.W.keepIn K (.ref f5) = true)
  (a6 : PySem.W.nsIn K mainGlobals "plus" = some (some (.ref f6)))
  (l6 : K.lookup f6 = some ⟨oc6, od6, .func (PySem.W.fnOf "plus" "plus" (defArgs s_plus) (defBody s_plus) (defScope s_plus) .none kV6 dc6 pm6 an6 cd6 ct6), sl6⟩)
  (c6 : PySem.W.codeIn K cd6 "plus" = true)
  (k6 : PySem.W.keepIn K (.ref f6) = true)
  (a7 : PySem.W.nsIn K mainGlobals "minus" = some (some (.ref f7)))
  (l7 : K.lookup f7 = some ⟨oc7, od7, .func (PySem.W.fnOf "minus" "minus" (defArgs s_minus) (defBody s_minus) (defScope s_minus) .none kV7 dc7 pm7 an7 cd7 ct7), sl7⟩)
  (c7 : PySem.W.codeIn K cd7 "minus" = true)
  (k7 : PySem.W.keepIn K (.ref f7) = true)
  (a8 : PySem.W.nsIn K mainGlobals "times" = some (some (.ref f8)))
  (l8 : K.lookup f8 = some ⟨oc8, od8, .func (PySem.W.fnOf "times" "times" (defArgs s_times) (defBody s_times) (defScope s_times) .none kV8 dc8 pm8 an8 cd8 ct8), sl8⟩)
  (c8 : PySem.W.codeIn K cd8 "times" = true)
  (k8 : PySem.W.keepIn K (.ref f8) = true)
  (a9 : PySem.W.nsIn K mainGlobals "compare" = some (some (.ref f9)))
  (l9 : K.lookup f9 = some ⟨oc9, od9, .func (PySem.W.fnOf "compare" "compare" (defArgs s_compare) (defBody s_compare) (defScope s_compare) .none kV9 dc9 pm9 an9 cd9 ct9), sl9⟩)
  (c9 : PySem.W.codeIn K cd9 "compare" = true)
  (k9 : PySem.W.keepIn K (.ref f9) = true)
  (a10 : PySem.W.nsIn K mainGlobals "total" = some (some (.ref f10)))
  (l10 : K.lookup f10 = some ⟨oc10, od10, .func (PySem.W.fnOf "total" "total" (defArgs s_total) (defBody s_total) (defScope s_total) .none kV10 dc10 pm10 an10 cd10 ct10), sl10⟩)
  (c10 : PySem.W.codeIn K cd10 "total" = true)
  (k10 : PySem.W.keepIn K (.ref f10) = true)
  (a12 : PySem.W.nsIn K mainGlobals "_law_begin" = some (some (.ref f12)))
  (l12 : K.lookup f12 = some ⟨oc12, od12, .func (PySem.W.fnOf "_law_begin" "_law_begin" (defArgs s__law_begin) (defBody s__law_begin) (defScope s__law_begin) .none kV12 dc12 pm12 an12 cd12 ct12), sl12⟩)
  (c12 : PySem.W.codeIn K cd12 "_law_begin" = true)
  (k12 : PySem.W.keepIn K (.ref f12) = true)
  (a13 : PySem.W.nsIn K mainGlobals "_law_take" = some (some (.ref f13)))
  (l13 : K.lookup f13 = some ⟨oc13, od13, .func (PySem.W.fnOf "_law_take" "_law_take" (defArgs s__law_take) (defBody s__law_take) (defScope s__law_take) .none kV13 dc13 pm13 an13 cd13 ct13), sl13⟩)
  (c13 : PySem.W.codeIn K cd13 "_law_take" = true)
  (k13 : PySem.W.keepIn K (.ref f13) = true)
  (a14 : PySem.W.nsIn K mainGlobals "_law_signed" = some (some (.ref f14)))
  (l14 : K.lookup f14 = some ⟨oc14, od14, .func (PySem.W.fnOf "_law_signed" "_law_signed" (defArgs s__law_signed) (defBody s__law_signed) (defScope s__law_signed) .none kV14 dc14 pm14 an14 cd14 ct14), sl14⟩)
  (c14 : PySem.W.codeIn K cd14 "_law_signed" = true)
  (k14 : PySem.W.keepIn K (.ref f14) = true)
  (a15 : PySem.W.nsIn K mainGlobals "_law_int" = some (some (.ref f15)))
  (l15 : K.lookup f15 = some ⟨oc15, od15, .func (PySem.W.fnOf "_law_int" "_law_int" (defArgs s__law_int) (defBody s__law_int) (defScope s__law_int) .none kV15 dc15 pm15 an15 cd15 ct15), sl15⟩)
  (c15 : PySem.W.codeIn K cd15 "_law_int" = true)
  (k15 : PySem.W.keepIn K (.ref f15) = true)
  (a16 : PySem.W.nsIn K mainGlobals "_law_gcd" = some (some (.ref f16)))
  (l16 : K.lookup f16 = some ⟨oc16, od16, .func (PySem.W.fnOf "_law_gcd" "_law_gcd" (defArgs s__law_gcd) (defBody s__law_gcd) (defScope s__law_gcd) .none kV16 dc16 pm16 an16 cd16 ct16), sl16⟩)
  (c16 : PySem.W.codeIn K cd16 "_law_gcd" = true)
  (k16 : PySem.W.keepIn K (.ref f16) = true)
  (a17 : PySem.W.nsIn K mainGlobals "_law_f" = some (some (.ref f17)))
  (l17 : K.lookup f17 = some ⟨oc17, od17, .func (PySem.W.fnOf "_law_f" "_law_f" (defArgs s__law_f) (defBody s__law_f) (defScope s__law_f) .none kV17 dc17 pm17 an17 cd17 ct17), sl17⟩)
  (c17 : PySem.W.codeIn K cd17 "_law_f" = true)
  (k17 : PySem.W.keepIn K (.ref f17) = true)
  (a18 : PySem.W.nsIn K mainGlobals "_law_plus" = some (some (.ref f18)))
  (l18 : K.lookup f18 = some ⟨oc18, od18, .func (PySem.W.fnOf "_law_plus" "_law_plus" (defArgs s__law_plus) (defBody s__law_plus) (defScope s__law_plus) .none kV18 dc18 pm18 an18 cd18 ct18), sl18⟩)
  (c18 : PySem.W.codeIn K cd18 "_law_plus" = true)
  (k18 : PySem.W.keepIn K (.ref f18) = true)
  (a19 : PySem.W.nsIn K mainGlobals "_law_less" = some (some (.ref f19)))
  (l19 : K.lookup f19 = some ⟨oc19, od19, .func (PySem.W.fnOf "_law_less" "_law_less" (defArgs s__law_less) (defBody s__law_less) (defScope s__law_less) .none kV19 dc19 pm19 an19 cd19 ct19), sl19⟩)
  (c19 : PySem.W.codeIn K cd19 "_law_less" = true)
  (k19 : PySem.W.keepIn K (.ref f19) = true)
  (a20 : PySem.W.nsIn K mainGlobals "_law_is" = some (some (.ref f20)))
  (l20 : K.lookup f20 = some ⟨oc20, od20, .func (PySem.W.fnOf "_law_is" "_law_is" (defArgs s__law_is) (defBody s__law_is) (defScope s__law_is) .none kV20 dc20 pm20 an20 cd20 ct20), sl20⟩)
  (c20 : PySem.W.codeIn K cd20 "_law_is" = true)
  (k20 : PySem.W.keepIn K (.ref f20) = true)
  (a21 : PySem.W.nsIn K mainGlobals "_law_number" = some (some (.ref f21)))
  (l21 : K.lookup f21 = some ⟨oc21, od21, .func (PySem.W.fnOf "_law_number" "_law_number" (defArgs s__law_number) (defBody s__law_number) (defScope s__law_number) .none kV21 dc21 pm21 an21 cd21 ct21), sl21⟩)
  (c21 : PySem.W.codeIn K cd21 "_law_number" = true)
  (k21 : PySem.W.keepIn K (.ref f21) = true)
  (a22 : PySem.W.nsIn K mainGlobals "_law_refused" = some (some (.ref f22)))
  (l22 : K.lookup f22 = some ⟨oc22, od22, .func (PySem.W.fnOf "_law_refused" "_law_refused" (defArgs s__law_refused) (defBody s__law_refused) (defScope s__law_refused) .none kV22 dc22 pm22 an22 cd22 ct22), sl22⟩)
  (c22 : PySem.W.codeIn K cd22 "_law_refused" = true)
  (k22 : PySem.W.keepIn K (.ref f22) = true)
  (a23 : PySem.W.nsIn K mainGlobals "law" = some (some (.ref f23)))
  (l23 : K.lookup f23 = some ⟨oc23, od23, .func (PySem.W.fnOf "law" "law" (defArgs s_law) (defBody s_law) (defScope s_law) .none kV23 dc23 pm23 an23 cd23 ct23), sl23⟩)
  (c23 : PySem.W.codeIn K cd23 "law" = true)
  (k23 : PySem.W.keepIn K (.ref f23) = true)
  (z_int : PySem.W.nsIn K mainGlobals "int" = some none)
  (z_list : PySem.W.nsIn K mainGlobals "list" = some none)
  (z_len : PySem.W.nsIn K mainGlobals "len" = some none)
  (z_abs : PySem.W.nsIn K mainGlobals "abs" = some none)
  (z_isinstance : PySem.W.nsIn K mainGlobals "isinstance" = some none)
  (z_bool : PySem.W.nsIn K mainGlobals "bool" = some none)
  (z_tuple : PySem.W.nsIn K mainGlobals "tuple" = some none)
  (z_range : PySem.W.nsIn K mainGlobals "range" = some none)
  (m_gcd : PySem.W.nsIn K mainGlobals "gcd" = some (some (.builtin "math.gcd")))
  (ea0 : PySem.W.nsIn K mainGlobals (PySem.Str.ofString "HallError") = some (some (.ref C0)))
  (ex0 : PySem.W.excIn K C0 [.type "ValueError", .type "Exception", .type "BaseException", .type "object"] "ValueError.__new__" = true)
  (ek0 : PySem.W.keepIn K (.ref C0) = true)
  (eb0 : PySem.W.subIn K (.ref C0) (.type "BaseException") = some true)
  (et0 : PySem.W.typeIn K (.ref C0) = some (.type "type"))
  (ea1 : PySem.W.nsIn K mainGlobals (PySem.Str.ofString "ZeroDenominator") = some (some (.ref C1)))
  (ex1 : PySem.W.excIn K C1 [.type "ValueError", .type "Exception", .type "BaseException", .type "object"] "ValueError.__new__" = true)
  (ek1 : PySem.W.keepIn K (.ref C1) = true)
  (eb1 : PySem.W.subIn K (.ref C1) (.type "BaseException") = some true)
  (et1 : PySem.W.typeIn K (.ref C1) = some (.type "type"))
  (xg0 : PySem.W.findIn K (.ref C0) "__getattribute__" = some (some (.builtin "BaseException.__getattribute__")))
  (xk0 : PySem.W.findIn K (.ref C0) "__getattr__" = some none)
  (xd0 : PySem.W.hasDictIn K C0 = true)
  (xa0 : PySem.W.findIn K (.ref C0) "__class__" = some (some (.builtin "object.__class__")))
  (xm0 : PySem.W.mroIn K C0 (.type "object") = some true)
  (hs0_0 : PySem.W.subIn K (.ref C0) (.ref C0) = some true)
  (hs0_1 : PySem.W.subIn K (.ref C0) (.ref C1) = some false)
  (hk0_1 : C0 ≠ C1)
  (xg1 : PySem.W.findIn K (.ref C1) "__getattribute__" = some (some (.builtin "BaseException.__getattribute__")))
  (xk1 : PySem.W.findIn K (.ref C1) "__getattr__" = some none)
  (xd1 : PySem.W.hasDictIn K C1 = true)
  (xa1 : PySem.W.findIn K (.ref C1) "__class__" = some (some (.builtin "object.__class__")))
  (xm1 : PySem.W.mroIn K C1 (.type "object") = some true)
  (hs1_0 : PySem.W.subIn K (.ref C1) (.ref C0) = some true)
  (hs1_1 : PySem.W.subIn K (.ref C1) (.ref C1) = some true)
  (xn : PySem.W.specialIn K (.builtin "object.__class__") "__get__" = some (some (.builtin "getset_descriptor.__get__")))
  (xt : PySem.W.takesIn K (.builtin "object.__class__") = some true) :
  ∃ fd : FuncData, (∀ (s : Shared) (v : Value), BindsTo s fd ⟨[v], []⟩ [("script", v)]) ∧ ∀ base : Heap, K.In base → base.Ns mainGlobals mg → FnOk l.prog w K mg base (L2.CX l.prog w) 4 fa fd ["script"] (spK f_law K) := by
  have e := hfa.symm.trans (PySem.W.mg_of X G a23)
  cases e
  have D_fraction : Def K mg "fraction" s_fraction ["numerator", "denominator"] := def_mk X G a5 l5 c5 k5 fun _ _ _ _ _ _ us hl => match us, hl with | [_, _], _ => rfl
  have D_plus : Def K mg "plus" s_plus ["a", "b"] := def_mk X G a6 l6 c6 k6 fun _ _ _ _ _ _ us hl => match us, hl with | [_, _], _ => rfl
  have D_minus : Def K mg "minus" s_minus ["a", "b"] := def_mk X G a7 l7 c7 k7 fun _ _ _ _ _ _ us hl => match us, hl with | [_, _], _ => rfl
  have D_times : Def K mg "times" s_times ["a", "b"] := def_mk X G a8 l8 c8 k8 fun _ _ _ _ _ _ us hl => match us, hl with | [_, _], _ => rfl
  have D_compare : Def K mg "compare" s_compare ["a", "b"] := def_mk X G a9 l9 c9 k9 fun _ _ _ _ _ _ us hl => match us, hl with | [_, _], _ => rfl
  have D_total : Def K mg "total" s_total ["items"] := def_mk X G a10 l10 c10 k10 fun _ _ _ _ _ _ us hl => match us, hl with | [_], _ => rfl
  have D__law_begin : Def K mg "_law_begin" s__law_begin ["script"] := def_mk X G a12 l12 c12 k12 fun _ _ _ _ _ _ us hl => match us, hl with | [_], _ => rfl
  have D__law_take : Def K mg "_law_take" s__law_take ["d", "many"] := def_mk X G a13 l13 c13 k13 fun _ _ _ _ _ _ us hl => match us, hl with | [_, _], _ => rfl
  have D__law_signed : Def K mg "_law_signed" s__law_signed ["d", "most"] := def_mk X G a14 l14 c14 k14 fun _ _ _ _ _ _ us hl => match us, hl with | [_, _], _ => rfl
  have D__law_int : Def K mg "_law_int" s__law_int ["actual"] := def_mk X G a15 l15 c15 k15 fun _ _ _ _ _ _ us hl => match us, hl with | [_], _ => rfl
  have D__law_gcd : Def K mg "_law_gcd" s__law_gcd ["a", "b"] := def_mk X G a16 l16 c16 k16 fun _ _ _ _ _ _ us hl => match us, hl with | [_, _], _ => rfl
  have D__law_f : Def K mg "_law_f" s__law_f ["a", "b"] := def_mk X G a17 l17 c17 k17 fun _ _ _ _ _ _ us hl => match us, hl with | [_, _], _ => rfl
  have D__law_plus : Def K mg "_law_plus" s__law_plus ["a", "b"] := def_mk X G a18 l18 c18 k18 fun _ _ _ _ _ _ us hl => match us, hl with | [_, _], _ => rfl
  have D__law_less : Def K mg "_law_less" s__law_less ["a", "b"] := def_mk X G a19 l19 c19 k19 fun _ _ _ _ _ _ us hl => match us, hl with | [_, _], _ => rfl
  have D__law_is : Def K mg "_law_is" s__law_is ["actual", "top", "bottom"] := def_mk X G a20 l20 c20 k20 fun _ _ _ _ _ _ us hl => match us, hl with | [_, _, _], _ => rfl
  have D__law_number : Def K mg "_law_number" s__law_number ["d"] := def_mk X G a21 l21 c21 k21 fun _ _ _ _ _ _ us hl => match us, hl with | [_], _ => rfl
  have D__law_refused : Def K mg "_law_refused" s__law_refused ["a", "b"] := def_mk X G a22 l22 c22 k22 fun _ _ _ _ _ _ us hl => match us, hl with | [_, _], _ => rfl
  have D_law : Def K mg "law" s_law ["script"] := def_mk X G a23 l23 c23 k23 fun _ _ _ _ _ _ us hl => match us, hl with | [_], _ => rfl
  have E_HallError : ErrC K mg (clK K) "HallError" := errC_mk X G ea0 ex0 ek0 eb0 et0
  have E_ZeroDenominator : ErrC K mg (clK K) "ZeroDenominator" := errC_mk X G ea1 ex1 ek1 eb1 et1
  have H_HallError_HallError : HandC K (clK K) "HallError" "HallError" (isSub "HallError" "HallError") := handC_mk ea0 ea0 hs0_0 eb0 xd0 et0 (.inl rfl) ⟨xg0, xk0, eb0, xd0, xa0, xn, xt, xm0⟩
  have H_HallError_ZeroDenominator : HandC K (clK K) "HallError" "ZeroDenominator" (isSub "HallError" "ZeroDenominator") := handC_mk ea0 ea1 hs0_1 eb1 xd1 et1 (.inr hk0_1) ⟨xg0, xk0, eb0, xd0, xa0, xn, xt, xm0⟩
  have H_ZeroDenominator_HallError : HandC K (clK K) "ZeroDenominator" "HallError" (isSub "ZeroDenominator" "HallError") := handC_mk ea1 ea0 hs1_0 eb0 xd0 et0 (.inl rfl) ⟨xg1, xk1, eb1, xd1, xa1, xn, xt, xm1⟩
  have H_ZeroDenominator_ZeroDenominator : HandC K (clK K) "ZeroDenominator" "ZeroDenominator" (isSub "ZeroDenominator" "ZeroDenominator") := handC_mk ea1 ea1 hs1_1 eb1 xd1 et1 (.inl rfl) ⟨xg1, xk1, eb1, xd1, xa1, xn, xt, xm1⟩
  have T_err : ∀ n, n ∈ errs → mg (PySem.Str.ofString n) = some (.ref (clK K n)) := by
    intro n hn
    simp only [errs, List.mem_cons, List.not_mem_nil, or_false] at hn
    rcases hn with rfl | rfl
    · exact E_HallError.g
    · exact E_ZeroDenominator.g
  have T_hand : ∀ n, n ∈ errs → ∀ c, c ∈ hands → HandC K (clK K) n c (isSub n c) := by
    intro n hn c hc
    simp only [errs, hands, List.mem_cons, List.not_mem_nil, or_false] at hn hc
    rcases hn with rfl | rfl <;> rcases hc with rfl | rfl
    · exact H_HallError_HallError
    · exact H_HallError_ZeroDenominator
    · exact H_ZeroDenominator_HallError
    · exact H_ZeroDenominator_ZeroDenominator
  obtain ⟨f, fd, F, hm, bi⟩ := id D_law
  have e2 := hm.symm.trans (PySem.W.mg_of X G a23)
  cases e2
  refine ⟨fd, fun s v => ?_, fun base _ _ => ?_⟩
  · obtain ⟨oc, od, kV, doc, pm, an, cdv, ct, osl, rfl, _, _⟩ := F.ex
    exact .of_eq rfl
  have h_fraction := t_fraction (P := l.prog) (w := w) (base := base) (cl := clK K) D_fraction E_ZeroDenominator (PySem.W.mg_of X G m_gcd)
  have h_plus := t_plus (P := l.prog) (w := w) (base := base) (cl := clK K) D_plus h_fraction
  have h_minus := t_minus (P := l.prog) (w := w) (base := base) (cl := clK K) D_minus h_fraction
  have h_times := t_times (P := l.prog) (w := w) (base := base) (cl := clK K) D_times h_fraction
  have h_compare := t_compare (P := l.prog) (w := w) (base := base) (cl := clK K) D_compare
  have h_total := t_total (P := l.prog) (w := w) (base := base) (cl := clK K) D_total h_plus
  have h__law_begin := t__law_begin (P := l.prog) (w := w) (base := base) (cl := clK K) D__law_begin (PySem.W.mg_none_of X G z_int) (PySem.W.mg_none_of X G z_list)
  have h__law_take := t__law_take (P := l.prog) (w := w) (base := base) (cl := clK K) D__law_take (PySem.W.mg_none_of X G z_len) (PySem.W.mg_none_of X G z_int) (PySem.W.mg_none_of X G z_abs)
  have h__law_signed := t__law_signed (P := l.prog) (w := w) (base := base) (cl := clK K) D__law_signed h__law_take
  have h__law_int := t__law_int (P := l.prog) (w := w) (base := base) (cl := clK K) D__law_int (PySem.W.mg_none_of X G z_isinstance) (PySem.W.mg_none_of X G z_int) (PySem.W.mg_none_of X G z_bool)
  have h__law_gcd := t__law_gcd (P := l.prog) (w := w) (base := base) (cl := clK K) D__law_gcd (PySem.W.mg_none_of X G z_int) (PySem.W.mg_none_of X G z_abs)
  have h__law_f := t__law_f (P := l.prog) (w := w) (base := base) (cl := clK K) D__law_f (PySem.W.mg_none_of X G z_abs) h__law_gcd
  have h__law_plus := t__law_plus (P := l.prog) (w := w) (base := base) (cl := clK K) D__law_plus h__law_f
  have h__law_less := t__law_less (P := l.prog) (w := w) (base := base) (cl := clK K) D__law_less
  have h__law_is := t__law_is (P := l.prog) (w := w) (base := base) (cl := clK K) D__law_is (PySem.W.mg_none_of X G z_isinstance) (PySem.W.mg_none_of X G z_tuple) (PySem.W.mg_none_of X G z_len) h__law_int (PySem.W.mg_none_of X G z_abs) h__law_gcd
  have h__law_number := t__law_number (P := l.prog) (w := w) (base := base) (cl := clK K) D__law_number h__law_signed h__law_take
  have h__law_refused := t__law_refused (P := l.prog) (w := w) (base := base) (cl := clK K) D__law_refused h_fraction T_err T_hand (PySem.W.mg_none_of X G z_isinstance)
  have h_law := t_law (P := l.prog) (w := w) (base := base) (cl := clK K) D_law h__law_begin h__law_take (PySem.W.mg_none_of X G z_range) h__law_number h__law_refused h_fraction h__law_is h_plus h_minus h_times h__law_less h_compare h__law_int h__law_plus (PySem.W.mg_none_of X G z_tuple) h_total
  exact fn_same F hm h_law
end K01

end

section
set_option Elab.async false
set_option linter.all false
set_option maxRecDepth 100000
set_option maxHeartbeats 4000000
namespace K01
open PySem PySem.Spec L2 Mi
open PyProof.Rows hiding St
open Pg (frD FrOk at0 at1 mul_bound log_of)
open Lw (Drw But)
abbrev Big (x : Int) : Prop := x.natAbs < 2 ^ 140
theorem refused_zero (n : Int) (m : Mem) : f__law_refused [.int n, .int 0] m = .ok (.bl true) m := by
  have e : tryR 3 errs (fun c => if isSub c "HallError" = true then some (.bl (isSub c "ZeroDenominator")) else none) (seqS (asgS 2 (callE Pg.f_fraction (consA (varE 0) (consA (varE 1) nilA)))) nxS) [some (.int n), some (.int 0), none, none] m = .ok (.rt (.bl true)) [some (.int n), some (.int 0), none, none] m := by
    unfold tryR
    simp only [atI_c0, atI_c1, atI_c2, atI_c3, nc0, nc1, nc2, nc3, nc4, nc5, nc6, nc7, nc8, nc9, setG_v, ksv_ok, kso_ok, ksi_ok, ksx_ok, ksy_ok, items_kit, kit_lst, kit_con, idxG_refE, kix_some, idxG_tupE, ofI_some, lenG_refE, klen_some, defF1, defF2, defF3, defF4, defF5, seqS_ap, kseq_nx, kseq_rt, kseq_bk, kseq_ct, kseq_exc, kseq_bad, nxS_ap, bkS_ap, ctS_ap, raiseS_ap, retN_ap, op1_ap, k1_ok, op2_ap, k2a_ok, k2b_ok, opN_ap, kN_ok, nilA_ap, consA_ap, kca_ok, kcb_ok, varE_ap, pick_ok, cstE_ap, asgS_ap, kasg_ok, kasg_exc, retS_ap, kret_ok, kret_exc, dropS_ap, kdrop_ok, kdrop_exc, ifS_ap, kif_t, kif_f, ifE_ap, kife_t, kife_f, valT_ap, kval_ok, notT_ap, knot_ok, andT_ap, kand_t, kand_f, orT_ap, kor_t, kor_f, andV_ap, kandv_t, kandv_f, orV_ap, korv_t, korv_f, notV_ap, knotv_ok, callE_ap, kcall_ok, parS_ap, kpar_ok, asgG_ap, forS_ap, kfor_ok, srcE_ap, ksrc_tup, ksrc_str, finF_nx, finF_rt, finF_exc, startE, lft_some, List.length_cons, List.length_nil, List.map_cons, List.map_nil, List.getElem?_cons_succ, List.getElem?_cons_zero, List.set_cons_zero, List.set_cons_succ, List.cons_append, List.nil_append, List.replicate_succ, List.replicate_zero, Nat.reduceAdd, Nat.reduceSub, Nat.sub_self, Nat.zero_add, eqG_int, neG_int, ltG_int, gtG_int, leG_int, geG_int, addG_int, subG_int, negG_int, absG_int, intG_int, gcdG_int, lenG_tup, tupD0, tupD1, tupD2, tupD3, tupD4, lstD0, lstD1, lstD4, isi_int_int, isi_bool_int, isi_tup_tup, decide_true, decide_false, Bool.not_true, Bool.not_false, beq_self_eq_true, Int.reduceBEq, Int.reduceLT, Int.reduceLE, Int.reduceNeg, Pg.fraction_zero]
    rfl
  unfold f__law_refused
  simp only [atI_c0, atI_c1, atI_c2, atI_c3, nc0, nc1, nc2, nc3, nc4, nc5, nc6, nc7, nc8, nc9, setG_v, ksv_ok, kso_ok, ksi_ok, ksx_ok, ksy_ok, items_kit, kit_lst, kit_con, idxG_refE, kix_some, idxG_tupE, ofI_some, lenG_refE, klen_some, defF1, defF2, defF3, defF4, defF5, seqS_ap, kseq_nx, kseq_rt, kseq_bk, kseq_ct, kseq_exc, kseq_bad, nxS_ap, bkS_ap, ctS_ap, raiseS_ap, retN_ap, op1_ap, k1_ok, op2_ap, k2a_ok, k2b_ok, opN_ap, kN_ok, nilA_ap, consA_ap, kca_ok, kcb_ok, varE_ap, pick_ok, cstE_ap, asgS_ap, kasg_ok, kasg_exc, retS_ap, kret_ok, kret_exc, dropS_ap, kdrop_ok, kdrop_exc, ifS_ap, kif_t, kif_f, ifE_ap, kife_t, kife_f, valT_ap, kval_ok, notT_ap, knot_ok, andT_ap, kand_t, kand_f, orT_ap, kor_t, kor_f, andV_ap, kandv_t, kandv_f, orV_ap, korv_t, korv_f, notV_ap, knotv_ok, callE_ap, kcall_ok, parS_ap, kpar_ok, asgG_ap, forS_ap, kfor_ok, srcE_ap, ksrc_tup, ksrc_str, finF_nx, finF_rt, finF_exc, startE, lft_some, List.length_cons, List.length_nil, List.map_cons, List.map_nil, List.getElem?_cons_succ, List.getElem?_cons_zero, List.set_cons_zero, List.set_cons_succ, List.cons_append, List.nil_append, List.replicate_succ, List.replicate_zero, Nat.reduceAdd, Nat.reduceSub, Nat.sub_self, Nat.zero_add, eqG_int, neG_int, ltG_int, gtG_int, leG_int, geG_int, addG_int, subG_int, negG_int, absG_int, intG_int, gcdG_int, lenG_tup, tupD0, tupD1, tupD2, tupD3, tupD4, lstD0, lstD1, lstD4, isi_int_int, isi_bool_int, isi_tup_tup, decide_true, decide_false, Bool.not_true, Bool.not_false, beq_self_eq_true, Int.reduceBEq, Int.reduceLT, Int.reduceLE, Int.reduceNeg, e]
theorem is_ok {p q t b : Int} {k l : Nat} (m : Mem) (hf : FrOk p q) (e : p * b = t * q) (hp : p.natAbs < 2 ^ k) (hq : q.natAbs < 2 ^ k) (ht : t.natAbs < 2 ^ l) (hb : b.natAbs < 2 ^ l) (hk : 0 < k) (hl : 0 < l) (h : k + l ≤ 1000000) :
    f__law_is [frD (p, q), .int t, .int b] m = .ok (.bl true) m := by
  have h0 : 0 < q := hf.1
  have g := Lw.gcd_eq (a := if p < 0 then -p else p) (b := q) m (by split <;> omega) (by omega)
  have e1 : (if p < 0 then -p else p).natAbs = p.natAbs := by split <;> omega
  rw [e1, hf.2] at g
  unfold f__law_is frD
  simp only [atI_c0, atI_c1, atI_c2, atI_c3, nc0, nc1, nc2, nc3, nc4, nc5, nc6, nc7, nc8, nc9, setG_v, ksv_ok, kso_ok, ksi_ok, ksx_ok, ksy_ok, items_kit, kit_lst, kit_con, idxG_refE, kix_some, idxG_tupE, ofI_some, lenG_refE, klen_some, defF1, defF2, defF3, defF4, defF5, seqS_ap, kseq_nx, kseq_rt, kseq_bk, kseq_ct, kseq_exc, kseq_bad, nxS_ap, bkS_ap, ctS_ap, raiseS_ap, retN_ap, op1_ap, k1_ok, op2_ap, k2a_ok, k2b_ok, opN_ap, kN_ok, nilA_ap, consA_ap, kca_ok, kcb_ok, varE_ap, pick_ok, cstE_ap, asgS_ap, kasg_ok, kasg_exc, retS_ap, kret_ok, kret_exc, dropS_ap, kdrop_ok, kdrop_exc, ifS_ap, kif_t, kif_f, ifE_ap, kife_t, kife_f, valT_ap, kval_ok, notT_ap, knot_ok, andT_ap, kand_t, kand_f, orT_ap, kor_t, kor_f, andV_ap, kandv_t, kandv_f, orV_ap, korv_t, korv_f, notV_ap, knotv_ok, callE_ap, kcall_ok, parS_ap, kpar_ok, asgG_ap, forS_ap, kfor_ok, srcE_ap, ksrc_tup, ksrc_str, finF_nx, finF_rt, finF_exc, startE, lft_some, List.length_cons, List.length_nil, List.map_cons, List.map_nil, List.getElem?_cons_succ, List.getElem?_cons_zero, List.set_cons_zero, List.set_cons_succ, List.cons_append, List.nil_append, List.replicate_succ, List.replicate_zero, Nat.reduceAdd, Nat.reduceSub, Nat.sub_self, Nat.zero_add, eqG_int, neG_int, ltG_int, gtG_int, leG_int, geG_int, addG_int, subG_int, negG_int, absG_int, intG_int, gcdG_int, lenG_tup, tupD0, tupD1, tupD2, tupD3, tupD4, lstD0, lstD1, lstD4, isi_int_int, isi_bool_int, isi_tup_tup, decide_true, decide_false, Bool.not_true, Bool.not_false, beq_self_eq_true, Int.reduceBEq, Int.reduceLT, Int.reduceLE, Int.reduceNeg, at0, at1, Lw.int_eq, decide_eq_true h0, mulG_int (mul_bound hp hb hk hl h), mulG_int (mul_bound ht hq hl hk (by omega)), e, g]
theorem number_ok {m : Mem} {k : Nat} (h : Drw m k) : ∃ r m', f__law_number [.ref k] m = .ok (.int r) m' ∧ Big r ∧ Drw m' k ∧ But k m m' := by
  obtain ⟨r1, m1, e1, a1, b1, d1, u1⟩ := Lw.signed_eq h (n := 60) (by omega) (by decide +kernel)
  obtain ⟨r2, m2, e2, a2, b2, d2, u2⟩ := Lw.take_eq d1 (n := 4) (by omega) (by decide +kernel)
  by_cases h1 : r2 = 1
  · subst h1
    have pw : ∀ m, powG (.int 10) (.int 38) m = some (.int (10 ^ 38), m) := fun m => rfl
    obtain ⟨r3, m3, e3, a3, b3, d3, u3⟩ := Lw.signed_eq d2 (n := 10 ^ 38) (by decide) (by decide +kernel)
    have ml : r1.natAbs.log2 + ((10 ^ 38 : Int)).natAbs.log2 < 1000000 := by
      have := log_of (x := r1) (k := 6) (by omega) (by omega)
      have e : ((10 ^ 38 : Int)).natAbs.log2 = 126 := by decide +kernel
      omega
    refine ⟨r1 * 10 ^ 38 + r3, m3, ?_, ?_, d3, (u1.trans u2).trans u3⟩
    · unfold f__law_number
      simp only [atI_c0, atI_c1, atI_c2, atI_c3, nc0, nc1, nc2, nc3, nc4, nc5, nc6, nc7, nc8, nc9, setG_v, ksv_ok, kso_ok, ksi_ok, ksx_ok, ksy_ok, items_kit, kit_lst, kit_con, idxG_refE, kix_some, idxG_tupE, ofI_some, lenG_refE, klen_some, defF1, defF2, defF3, defF4, defF5, seqS_ap, kseq_nx, kseq_rt, kseq_bk, kseq_ct, kseq_exc, kseq_bad, nxS_ap, bkS_ap, ctS_ap, raiseS_ap, retN_ap, op1_ap, k1_ok, op2_ap, k2a_ok, k2b_ok, opN_ap, kN_ok, nilA_ap, consA_ap, kca_ok, kcb_ok, varE_ap, pick_ok, cstE_ap, asgS_ap, kasg_ok, kasg_exc, retS_ap, kret_ok, kret_exc, dropS_ap, kdrop_ok, kdrop_exc, ifS_ap, kif_t, kif_f, ifE_ap, kife_t, kife_f, valT_ap, kval_ok, notT_ap, knot_ok, andT_ap, kand_t, kand_f, orT_ap, kor_t, kor_f, andV_ap, kandv_t, kandv_f, orV_ap, korv_t, korv_f, notV_ap, knotv_ok, callE_ap, kcall_ok, parS_ap, kpar_ok, asgG_ap, forS_ap, kfor_ok, srcE_ap, ksrc_tup, ksrc_str, finF_nx, finF_rt, finF_exc, startE, lft_some, List.length_cons, List.length_nil, List.map_cons, List.map_nil, List.getElem?_cons_succ, List.getElem?_cons_zero, List.set_cons_zero, List.set_cons_succ, List.cons_append, List.nil_append, List.replicate_succ, List.replicate_zero, Nat.reduceAdd, Nat.reduceSub, Nat.sub_self, Nat.zero_add, eqG_int, neG_int, ltG_int, gtG_int, leG_int, geG_int, addG_int, subG_int, negG_int, absG_int, intG_int, gcdG_int, lenG_tup, tupD0, tupD1, tupD2, tupD3, tupD4, lstD0, lstD1, lstD4, isi_int_int, isi_bool_int, isi_tup_tup, decide_true, decide_false, Bool.not_true, Bool.not_false, beq_self_eq_true, Int.reduceBEq, Int.reduceLT, Int.reduceLE, Int.reduceNeg, e1, e2, pw, e3, mulG_int ml]
    · show (r1 * 10 ^ 38 + r3).natAbs < 2 ^ 140
      have c1 : (10 : Int) ^ 38 = 100000000000000000000000000000000000000 := by decide
      have c2 : (2 : Nat) ^ 140 = 1393796574908163946345982392040522594123776 := by decide +kernel
      rw [c1] at a3 b3 ⊢
      rw [c2]
      omega
  · have h2 : (r2 == 1) = false := by simpa using h1
    refine ⟨r1, m2, ?_, ?_, d2, u1.trans u2⟩
    · unfold f__law_number
      simp only [atI_c0, atI_c1, atI_c2, atI_c3, nc0, nc1, nc2, nc3, nc4, nc5, nc6, nc7, nc8, nc9, setG_v, ksv_ok, kso_ok, ksi_ok, ksx_ok, ksy_ok, items_kit, kit_lst, kit_con, idxG_refE, kix_some, idxG_tupE, ofI_some, lenG_refE, klen_some, defF1, defF2, defF3, defF4, defF5, seqS_ap, kseq_nx, kseq_rt, kseq_bk, kseq_ct, kseq_exc, kseq_bad, nxS_ap, bkS_ap, ctS_ap, raiseS_ap, retN_ap, op1_ap, k1_ok, op2_ap, k2a_ok, k2b_ok, opN_ap, kN_ok, nilA_ap, consA_ap, kca_ok, kcb_ok, varE_ap, pick_ok, cstE_ap, asgS_ap, kasg_ok, kasg_exc, retS_ap, kret_ok, kret_exc, dropS_ap, kdrop_ok, kdrop_exc, ifS_ap, kif_t, kif_f, ifE_ap, kife_t, kife_f, valT_ap, kval_ok, notT_ap, knot_ok, andT_ap, kand_t, kand_f, orT_ap, kor_t, kor_f, andV_ap, kandv_t, kandv_f, orV_ap, korv_t, korv_f, notV_ap, knotv_ok, callE_ap, kcall_ok, parS_ap, kpar_ok, asgG_ap, forS_ap, kfor_ok, srcE_ap, ksrc_tup, ksrc_str, finF_nx, finF_rt, finF_exc, startE, lft_some, List.length_cons, List.length_nil, List.map_cons, List.map_nil, List.getElem?_cons_succ, List.getElem?_cons_zero, List.set_cons_zero, List.set_cons_succ, List.cons_append, List.nil_append, List.replicate_succ, List.replicate_zero, Nat.reduceAdd, Nat.reduceSub, Nat.sub_self, Nat.zero_add, eqG_int, neG_int, ltG_int, gtG_int, leG_int, geG_int, addG_int, subG_int, negG_int, absG_int, intG_int, gcdG_int, lenG_tup, tupD0, tupD1, tupD2, tupD3, tupD4, lstD0, lstD1, lstD4, isi_int_int, isi_bool_int, isi_tup_tup, decide_true, decide_false, Bool.not_true, Bool.not_false, beq_self_eq_true, Int.reduceBEq, Int.reduceLT, Int.reduceLE, Int.reduceNeg, e1, e2, h2]
    · show r1.natAbs < 2 ^ 140
      have c2 : (2 : Nat) ^ 140 = 1393796574908163946345982392040522594123776 := by decide +kernel
      rw [c2]
      omega
abbrev envL (a b c d w e : Option D) : Mi.Env := [some (.ref 0), some (.ref 2), some (.ref 3), a, b, c, d, none, none, none, none, w, e]
def Good (ys : List (Int × Int)) : Prop := ∀ y ∈ ys, FrOk y.1 y.2 ∧ Big y.1 ∧ Big y.2
def Inv1 (J : Nat) (ds : List D) (r : Mi.Env) (m : Mem) : Prop := ∃ (ys : List (Int × Int)) (a b c d : Option D), r = envL a b c d none none ∧ m.length = 4 ∧ Drw m 2 ∧ m[3]? = some (.lst (ys.map frD)) ∧ Good ys ∧ ys.length + ds.length = J
theorem sl_of {n : Nat} (h : n ≤ 1000) : n < sizeLine := small1000 h
theorem turn {J : Nat} (hJ : J ≤ 10) (d0 : D) (ds : List D) (r : Mi.Env) (m : Mem) (h : Inv1 J (d0 :: ds) r m) : ∃ r1, nameG 3 d0 r = some r1 ∧ ∃ r2 m2, ((seqS (asgS 4 (callE f__law_number (consA (varE 1) nilA)))
  (seqS (asgS 5 (callE f__law_number (consA (varE 1) nilA)))
  (seqS (ifS (valT (op2 (varE 5) (cstE (.int 0)) eqG)) (seqS (ifS (notT (valT (callE f__law_refused (consA (varE 4) (consA (varE 5) nilA))))) (seqS (retS (cstE (.bl false)))
  nxS) nxS)
  (seqS (asgS 5 (cstE (.int 1)))
  nxS)) nxS)
  (seqS (asgS 6 (callE Pg.f_fraction (consA (varE 4) (consA (varE 5) nilA))))
  (seqS (ifS (notT (valT (callE f__law_is (consA (varE 6) (consA (varE 4) (consA (varE 5) nilA)))))) (seqS (retS (cstE (.bl false)))
  nxS) nxS)
  (seqS (dropS (appE (varE 2) (varE 6)))
  nxS)))))) r1 m = .ok .nx r2 m2 ∨ (seqS (asgS 4 (callE f__law_number (consA (varE 1) nilA)))
  (seqS (asgS 5 (callE f__law_number (consA (varE 1) nilA)))
  (seqS (ifS (valT (op2 (varE 5) (cstE (.int 0)) eqG)) (seqS (ifS (notT (valT (callE f__law_refused (consA (varE 4) (consA (varE 5) nilA))))) (seqS (retS (cstE (.bl false)))
  nxS) nxS)
  (seqS (asgS 5 (cstE (.int 1)))
  nxS)) nxS)
  (seqS (asgS 6 (callE Pg.f_fraction (consA (varE 4) (consA (varE 5) nilA))))
  (seqS (ifS (notT (valT (callE f__law_is (consA (varE 6) (consA (varE 4) (consA (varE 5) nilA)))))) (seqS (retS (cstE (.bl false)))
  nxS) nxS)
  (seqS (dropS (appE (varE 2) (varE 6)))
  nxS)))))) r1 m = .ok .ct r2 m2) ∧ Inv1 J ds r2 m2 := by
  obtain ⟨ys, a, b, c, d, rfl, hlen, hd, hm, hg, hJ2⟩ := h
  refine ⟨_, rfl, ?_⟩
  obtain ⟨n1, m1, e1, b1, d1, u1⟩ := number_ok hd
  obtain ⟨n2, m2, e2, b2, d2, u2⟩ := number_ok d1
  have hm2 : m2[3]? = some (.lst (ys.map frD)) := by rw [u2.get (by omega), u1.get (by omega)]; exact hm
  have hl2 : m2.length = 4 := by rw [u2.len, u1.len]; exact hlen
  have go : ∀ z : Int, z ≠ 0 → Big z → ∃ p q, Pg.f_fraction [.int n1, .int z] m2 = .ok (frD (p, q)) m2 ∧ f__law_is [frD (p, q), .int n1, .int z] m2 = .ok (.bl true) m2 ∧ FrOk p q ∧ Big p ∧ Big q := by
    intro z hz bz
    obtain ⟨p, q, g, f1, f2, f3, f4, _, f5, f6⟩ := Pg.fraction_ok (n := n1) (d := z) (k := 140) m2 hz bz (by omega) (by omega)
    have bp : Big p := Nat.lt_of_le_of_lt f5 b1
    have bq : Big q := Nat.lt_of_le_of_lt f6 bz
    refine ⟨p, q, f1, is_ok (k := 140) (l := 140) m2 f2 ?_ bp bq b1 bz (by omega) (by omega) (by omega), f2, bp, bq⟩
    rw [f3, f4, ← Int.mul_assoc, Int.mul_comm p g]
  have fin : ∀ (p q : Int) (z : Int), FrOk p q → Big p → Big q → Inv1 J ds (envL (some d0) (some (.int n1)) (some (.int z)) (some (frD (p, q))) none none) (m2.set 3 (.lst (ys.map frD ++ [frD (p, q)]))) := fun p q z h1 h2 h3 =>
    ⟨ys ++ [(p, q)], _, _, _, _, rfl, by simp [hl2], d2.set (by omega) _, by rw [List.getElem?_set_self (by omega)]; simp, fun y hy => by
      rcases List.mem_append.mp hy with hy | hy
      · exact hg y hy
      · have e : y = (p, q) := by simpa using hy
        subst e
        exact ⟨h1, h2, h3⟩, by simp only [List.length_append, List.length_cons, List.length_nil] at hJ2 ⊢; omega⟩
  have hsz : (ys.map frD).length < sizeLine := by rw [List.length_map]; exact sl_of (by simp at hJ2; omega)
  by_cases h0 : n2 = 0
  · subst h0
    obtain ⟨p, q, f1, f2, f3, f4, f5⟩ := go 1 (by omega) (by show (1 : Int).natAbs < 2 ^ 140; decide +kernel)
    have ap : kapp (.ok (.ref 3) m2) (varE 6) (envL (some d0) (some (.int n1)) (some (.int 1)) (some (frD (p, q))) none none) = .ok .non (m2.set 3 (.lst (ys.map frD ++ [frD (p, q)]))) := kapp_ok hm2 rfl hm2 hsz
    refine ⟨_, _, .inl ?_, fin p q 1 f3 f4 f5⟩
    simp only [atI_c0, atI_c1, atI_c2, atI_c3, nc0, nc1, nc2, nc3, nc4, nc5, nc6, nc7, nc8, nc9, setG_v, ksv_ok, kso_ok, ksi_ok, ksx_ok, ksy_ok, items_kit, kit_lst, kit_con, idxG_refE, kix_some, idxG_tupE, ofI_some, lenG_refE, klen_some, defF1, defF2, defF3, defF4, defF5, seqS_ap, kseq_nx, kseq_rt, kseq_bk, kseq_ct, kseq_exc, kseq_bad, nxS_ap, bkS_ap, ctS_ap, raiseS_ap, retN_ap, op1_ap, k1_ok, op2_ap, k2a_ok, k2b_ok, opN_ap, kN_ok, nilA_ap, consA_ap, kca_ok, kcb_ok, varE_ap, pick_ok, cstE_ap, asgS_ap, kasg_ok, kasg_exc, retS_ap, kret_ok, kret_exc, dropS_ap, kdrop_ok, kdrop_exc, ifS_ap, kif_t, kif_f, ifE_ap, kife_t, kife_f, valT_ap, kval_ok, notT_ap, knot_ok, andT_ap, kand_t, kand_f, orT_ap, kor_t, kor_f, andV_ap, kandv_t, kandv_f, orV_ap, korv_t, korv_f, notV_ap, knotv_ok, callE_ap, kcall_ok, parS_ap, kpar_ok, asgG_ap, forS_ap, kfor_ok, srcE_ap, ksrc_tup, ksrc_str, finF_nx, finF_rt, finF_exc, startE, lft_some, List.length_cons, List.length_nil, List.map_cons, List.map_nil, List.getElem?_cons_succ, List.getElem?_cons_zero, List.set_cons_zero, List.set_cons_succ, List.cons_append, List.nil_append, List.replicate_succ, List.replicate_zero, Nat.reduceAdd, Nat.reduceSub, Nat.sub_self, Nat.zero_add, eqG_int, neG_int, ltG_int, gtG_int, leG_int, geG_int, addG_int, subG_int, negG_int, absG_int, intG_int, gcdG_int, lenG_tup, tupD0, tupD1, tupD2, tupD3, tupD4, lstD0, lstD1, lstD4, isi_int_int, isi_bool_int, isi_tup_tup, decide_true, decide_false, Bool.not_true, Bool.not_false, beq_self_eq_true, Int.reduceBEq, Int.reduceLT, Int.reduceLE, Int.reduceNeg, nameG, e1, e2, refused_zero, f1, f2, appE_ap, ap]
  · have e0 : (n2 == 0) = false := by simpa using h0
    obtain ⟨p, q, f1, f2, f3, f4, f5⟩ := go n2 h0 b2
    have ap : kapp (.ok (.ref 3) m2) (varE 6) (envL (some d0) (some (.int n1)) (some (.int n2)) (some (frD (p, q))) none none) = .ok .non (m2.set 3 (.lst (ys.map frD ++ [frD (p, q)]))) := kapp_ok hm2 rfl hm2 hsz
    refine ⟨_, _, .inl ?_, fin p q n2 f3 f4 f5⟩
    simp only [atI_c0, atI_c1, atI_c2, atI_c3, nc0, nc1, nc2, nc3, nc4, nc5, nc6, nc7, nc8, nc9, setG_v, ksv_ok, kso_ok, ksi_ok, ksx_ok, ksy_ok, items_kit, kit_lst, kit_con, idxG_refE, kix_some, idxG_tupE, ofI_some, lenG_refE, klen_some, defF1, defF2, defF3, defF4, defF5, seqS_ap, kseq_nx, kseq_rt, kseq_bk, kseq_ct, kseq_exc, kseq_bad, nxS_ap, bkS_ap, ctS_ap, raiseS_ap, retN_ap, op1_ap, k1_ok, op2_ap, k2a_ok, k2b_ok, opN_ap, kN_ok, nilA_ap, consA_ap, kca_ok, kcb_ok, varE_ap, pick_ok, cstE_ap, asgS_ap, kasg_ok, kasg_exc, retS_ap, kret_ok, kret_exc, dropS_ap, kdrop_ok, kdrop_exc, ifS_ap, kif_t, kif_f, ifE_ap, kife_t, kife_f, valT_ap, kval_ok, notT_ap, knot_ok, andT_ap, kand_t, kand_f, orT_ap, kor_t, kor_f, andV_ap, kandv_t, kandv_f, orV_ap, korv_t, korv_f, notV_ap, knotv_ok, callE_ap, kcall_ok, parS_ap, kpar_ok, asgG_ap, forS_ap, kfor_ok, srcE_ap, ksrc_tup, ksrc_str, finF_nx, finF_rt, finF_exc, startE, lft_some, List.length_cons, List.length_nil, List.map_cons, List.map_nil, List.getElem?_cons_succ, List.getElem?_cons_zero, List.set_cons_zero, List.set_cons_succ, List.cons_append, List.nil_append, List.replicate_succ, List.replicate_zero, Nat.reduceAdd, Nat.reduceSub, Nat.sub_self, Nat.zero_add, eqG_int, neG_int, ltG_int, gtG_int, leG_int, geG_int, addG_int, subG_int, negG_int, absG_int, intG_int, gcdG_int, lenG_tup, tupD0, tupD1, tupD2, tupD3, tupD4, lstD0, lstD1, lstD4, isi_int_int, isi_bool_int, isi_tup_tup, decide_true, decide_false, Bool.not_true, Bool.not_false, beq_self_eq_true, Int.reduceBEq, Int.reduceLT, Int.reduceLE, Int.reduceNeg, nameG, e1, e2, e0, f1, f2, appE_ap, ap]
/-! ### sums -/
def plusZ (x y : Int × Int) : Int × Int := ((x.1 * y.2 + y.1 * x.2).fdiv (Pg.dv (x.1 * y.2 + y.1 * x.2) (x.2 * y.2)), (x.2 * y.2).fdiv (Pg.dv (x.1 * y.2 + y.1 * x.2) (x.2 * y.2)))
theorem sum_lt {a b : Int} {k : Nat} (ha : a.natAbs < 2 ^ k) (hb : b.natAbs < 2 ^ k) : (a + b).natAbs < 2 ^ (k + 1) := by
  rw [Nat.pow_succ]
  omega
theorem plusZ_ok {x y : Int × Int} {k l : Nat} (m : Mem) (hx : FrOk x.1 x.2) (hy : FrOk y.1 y.2) (h1 : x.1.natAbs < 2 ^ k) (h2 : x.2.natAbs < 2 ^ k) (h3 : y.1.natAbs < 2 ^ l) (h4 : y.2.natAbs < 2 ^ l) (hk : 0 < k) (hl : 0 < l) (h : k + l ≤ 8000) :
    Pg.f_plus [frD x, frD y] m = .ok (frD (plusZ x y)) m ∧ Lw.f__law_plus [frD x, frD y] m = .ok (frD (plusZ x y)) m ∧ FrOk (plusZ x y).1 (plusZ x y).2 ∧ (plusZ x y).1.natAbs < 2 ^ (k + l + 1) ∧ (plusZ x y).2.natAbs < 2 ^ (k + l + 1) ∧
      f__law_is [frD (plusZ x y), .int (x.1 * y.2 + y.1 * x.2), .int (x.2 * y.2)] m = .ok (.bl true) m := by
  have hd : x.2 * y.2 ≠ 0 := by
    have := Int.mul_pos hx.1 hy.1
    omega
  have bd : (x.2 * y.2).natAbs < 2 ^ (k + l) := wide_lt h2 h4
  have bn : (x.1 * y.2 + y.1 * x.2).natAbs < 2 ^ (k + l + 1) := sum_lt (wide_lt h1 h4) (by rw [Nat.add_comm]; exact wide_lt h3 h2)
  have e1 : Pg.f_plus [frD x, frD y] m = .ok (frD (plusZ x y)) m := by
    rw [Pg.plus_eq (a := x.1) (b := x.2) (c := y.1) (d := y.2) m h1 h2 h3 h4 hk hl (by omega)]
    exact Pg.fraction_of _ _ m hd (Pg.dv_log hd bd (by omega) (by omega))
  obtain ⟨s1, s2, s3, s4⟩ := Pg.frac_spec (n := x.1 * y.2 + y.1 * x.2) hd
  have hg := Pg.dv_ne (n := x.1 * y.2 + y.1 * x.2) hd
  have p1 : (plusZ x y).1.natAbs ≤ (x.1 * y.2 + y.1 * x.2).natAbs := by
    show ((x.1 * y.2 + y.1 * x.2).fdiv (Pg.dv (x.1 * y.2 + y.1 * x.2) (x.2 * y.2))).natAbs ≤ _
    generalize (x.1 * y.2 + y.1 * x.2).fdiv (Pg.dv (x.1 * y.2 + y.1 * x.2) (x.2 * y.2)) = p at s1
    generalize Pg.dv (x.1 * y.2 + y.1 * x.2) (x.2 * y.2) = g at s1 hg
    rw [s1, Int.natAbs_mul]
    exact Nat.le_mul_of_pos_left _ (by omega)
  have p2 : (plusZ x y).2.natAbs ≤ (x.2 * y.2).natAbs := by
    show ((x.2 * y.2).fdiv (Pg.dv (x.1 * y.2 + y.1 * x.2) (x.2 * y.2))).natAbs ≤ _
    generalize (x.2 * y.2).fdiv (Pg.dv (x.1 * y.2 + y.1 * x.2) (x.2 * y.2)) = p at s2
    generalize Pg.dv (x.1 * y.2 + y.1 * x.2) (x.2 * y.2) = g at s2 hg
    rw [s2, Int.natAbs_mul]
    exact Nat.le_mul_of_pos_left _ (by omega)
  have b1 : (plusZ x y).1.natAbs < 2 ^ (k + l + 1) := Nat.lt_of_le_of_lt p1 bn
  have bd2 : (x.2 * y.2).natAbs < 2 ^ (k + l + 1) := Nat.lt_of_lt_of_le bd (Nat.pow_le_pow_right (by omega) (by omega))
  have b2 : (plusZ x y).2.natAbs < 2 ^ (k + l + 1) := Nat.lt_of_le_of_lt p2 bd2
  refine ⟨e1, ?_, ⟨s3, s4⟩, b1, b2, is_ok (k := k + l + 1) (l := k + l + 1) m ⟨s3, s4⟩ ?_ b1 b2 bn bd2 (by omega) (by omega) (by omega)⟩
  · rw [Lw.plus_eq (a := x.1) (b := x.2) (c := y.1) (d := y.2) m h1 h2 h3 h4 hk hl (by omega) hx.1 hy.1]
    exact e1
  · show (x.1 * y.2 + y.1 * x.2).fdiv (Pg.dv (x.1 * y.2 + y.1 * x.2) (x.2 * y.2)) * (x.2 * y.2) = (x.1 * y.2 + y.1 * x.2) * (x.2 * y.2).fdiv (Pg.dv (x.1 * y.2 + y.1 * x.2) (x.2 * y.2))
    generalize (x.1 * y.2 + y.1 * x.2).fdiv (Pg.dv (x.1 * y.2 + y.1 * x.2) (x.2 * y.2)) = p at s1
    generalize (x.2 * y.2).fdiv (Pg.dv (x.1 * y.2 + y.1 * x.2) (x.2 * y.2)) = q at s2
    generalize Pg.dv (x.1 * y.2 + y.1 * x.2) (x.2 * y.2) = g at s1 s2
    rw [s1, s2, ← Int.mul_assoc, Int.mul_comm p g]
/-- the sum along a list, any loop that adds so -/
theorem sum_loop {s : Src} {tg : FG} {b : FS} {m : Mem} (hs : s.still m) (E : D → Option D → Mi.Env)
    (step : ∀ (x y : Int × Int) (k : Nat) (o : Option D), FrOk x.1 x.2 → FrOk y.1 y.2 → x.1.natAbs < 2 ^ k → x.2.natAbs < 2 ^ k → Big y.1 → Big y.2 → 0 < k → k + 140 ≤ 8000 → ∃ r1, tg (frD y) (E (frD x) o) = some r1 ∧ b r1 m = .ok .nx (E (frD (plusZ x y)) (some (frD y))) m) :
    ∀ (ys : List (Int × Int)) (x : Int × Int) (k : Nat) (o : Option D), Good ys → FrOk x.1 x.2 → x.1.natAbs < 2 ^ k → x.2.natAbs < 2 ^ k → 0 < k → k + 141 * ys.length ≤ 7000 →
      ∃ o', forL s tg b (ys.map frD) (E (frD x) o) m = .ok .nx (E (frD (ys.foldl plusZ x)) o') m
  | [], x, k, o, _, _, _, _, _, _ => ⟨o, by rw [List.map_nil, forL, if_pos hs]; rfl⟩
  | y :: ys, x, k, o, hg, hx, h1, h2, hk, hb => by
    obtain ⟨g1, g2, g3⟩ := hg y List.mem_cons_self
    simp only [List.length_cons] at hb
    obtain ⟨r1, e1, e2⟩ := step x y k o hx g1 h1 h2 g2 g3 hk (by omega)
    obtain ⟨_, _, q1, q2, q3, _⟩ := plusZ_ok (k := k) (l := 140) m hx g1 h1 h2 g2 g3 hk (by omega) (by omega)
    obtain ⟨o', e3⟩ := sum_loop hs E step ys (plusZ x y) (k + 140 + 1) (some (frD y)) (fun z hz => hg z (List.mem_cons_of_mem _ hz)) q1 q2 q3 (by omega) (by omega)
    refine ⟨o', ?_⟩
    rw [List.map_cons, forL, if_pos hs, e1]
    simp only [e2]
    exact e3
theorem one_ok : FrOk 0 1 := ⟨by decide, by decide⟩
theorem total_eq {ys : List (Int × Int)} (m : Mem) (hg : Good ys) (hl : ys.length ≤ 10) : Pg.f_total [.tup (ys.map frD)] m = .ok (frD (ys.foldl plusZ (0, 1))) m := by
  obtain ⟨o', e⟩ := sum_loop (s := .fix (ys.map frD)) (tg := nameG 2) (b := seqS (asgS 1 (callE Pg.f_plus (consA (varE 1) (consA (varE 2) nilA)))) nxS) (m := m) trivial (fun w o => [some (.tup (ys.map frD)), some w, o])
    (fun x y k o hx hy h1 h2 h3 h4 hk hb => ⟨_, rfl, by
      obtain ⟨e, _⟩ := plusZ_ok (k := k) (l := 140) m hx hy h1 h2 h3 h4 hk (by omega) (by omega)
      simp only [atI_c0, atI_c1, atI_c2, atI_c3, nc0, nc1, nc2, nc3, nc4, nc5, nc6, nc7, nc8, nc9, setG_v, ksv_ok, kso_ok, ksi_ok, ksx_ok, ksy_ok, items_kit, kit_lst, kit_con, idxG_refE, kix_some, idxG_tupE, ofI_some, lenG_refE, klen_some, defF1, defF2, defF3, defF4, defF5, seqS_ap, kseq_nx, kseq_rt, kseq_bk, kseq_ct, kseq_exc, kseq_bad, nxS_ap, bkS_ap, ctS_ap, raiseS_ap, retN_ap, op1_ap, k1_ok, op2_ap, k2a_ok, k2b_ok, opN_ap, kN_ok, nilA_ap, consA_ap, kca_ok, kcb_ok, varE_ap, pick_ok, cstE_ap, asgS_ap, kasg_ok, kasg_exc, retS_ap, kret_ok, kret_exc, dropS_ap, kdrop_ok, kdrop_exc, ifS_ap, kif_t, kif_f, ifE_ap, kife_t, kife_f, valT_ap, kval_ok, notT_ap, knot_ok, andT_ap, kand_t, kand_f, orT_ap, kor_t, kor_f, andV_ap, kandv_t, kandv_f, orV_ap, korv_t, korv_f, notV_ap, knotv_ok, callE_ap, kcall_ok, parS_ap, kpar_ok, asgG_ap, forS_ap, kfor_ok, srcE_ap, ksrc_tup, ksrc_str, finF_nx, finF_rt, finF_exc, startE, lft_some, List.length_cons, List.length_nil, List.map_cons, List.map_nil, List.getElem?_cons_succ, List.getElem?_cons_zero, List.set_cons_zero, List.set_cons_succ, List.cons_append, List.nil_append, List.replicate_succ, List.replicate_zero, Nat.reduceAdd, Nat.reduceSub, Nat.sub_self, Nat.zero_add, eqG_int, neG_int, ltG_int, gtG_int, leG_int, geG_int, addG_int, subG_int, negG_int, absG_int, intG_int, gcdG_int, lenG_tup, tupD0, tupD1, tupD2, tupD3, tupD4, lstD0, lstD1, lstD4, isi_int_int, isi_bool_int, isi_tup_tup, decide_true, decide_false, Bool.not_true, Bool.not_false, beq_self_eq_true, Int.reduceBEq, Int.reduceLT, Int.reduceLE, Int.reduceNeg, e]⟩) ys (0, 1) 1 none hg one_ok (by decide) (by decide) (by omega) (by omega)
  unfold Pg.f_total
  simp only [frD] at e ⊢
  simp only [atI_c0, atI_c1, atI_c2, atI_c3, nc0, nc1, nc2, nc3, nc4, nc5, nc6, nc7, nc8, nc9, setG_v, ksv_ok, kso_ok, ksi_ok, ksx_ok, ksy_ok, items_kit, kit_lst, kit_con, idxG_refE, kix_some, idxG_tupE, ofI_some, lenG_refE, klen_some, defF1, defF2, defF3, defF4, defF5, seqS_ap, kseq_nx, kseq_rt, kseq_bk, kseq_ct, kseq_exc, kseq_bad, nxS_ap, bkS_ap, ctS_ap, raiseS_ap, retN_ap, op1_ap, k1_ok, op2_ap, k2a_ok, k2b_ok, opN_ap, kN_ok, nilA_ap, consA_ap, kca_ok, kcb_ok, varE_ap, pick_ok, cstE_ap, asgS_ap, kasg_ok, kasg_exc, retS_ap, kret_ok, kret_exc, dropS_ap, kdrop_ok, kdrop_exc, ifS_ap, kif_t, kif_f, ifE_ap, kife_t, kife_f, valT_ap, kval_ok, notT_ap, knot_ok, andT_ap, kand_t, kand_f, orT_ap, kor_t, kor_f, andV_ap, kandv_t, kandv_f, orV_ap, korv_t, korv_f, notV_ap, knotv_ok, callE_ap, kcall_ok, parS_ap, kpar_ok, asgG_ap, forS_ap, kfor_ok, srcE_ap, ksrc_tup, ksrc_str, finF_nx, finF_rt, finF_exc, startE, lft_some, List.length_cons, List.length_nil, List.map_cons, List.map_nil, List.getElem?_cons_succ, List.getElem?_cons_zero, List.set_cons_zero, List.set_cons_succ, List.cons_append, List.nil_append, List.replicate_succ, List.replicate_zero, Nat.reduceAdd, Nat.reduceSub, Nat.sub_self, Nat.zero_add, eqG_int, neG_int, ltG_int, gtG_int, leG_int, geG_int, addG_int, subG_int, negG_int, absG_int, intG_int, gcdG_int, lenG_tup, tupD0, tupD1, tupD2, tupD3, tupD4, lstD0, lstD1, lstD4, isi_int_int, isi_bool_int, isi_tup_tup, decide_true, decide_false, Bool.not_true, Bool.not_false, beq_self_eq_true, Int.reduceBEq, Int.reduceLT, Int.reduceLE, Int.reduceNeg, Src.items, e]
theorem frac_is {n d : Int} {k : Nat} (m : Mem) (hd : 0 < d) (h1 : n.natAbs < 2 ^ k) (h2 : d.natAbs < 2 ^ k) (hk : 0 < k) (h : k ≤ 4000) : ∃ z, Pg.f_fraction [.int n, .int d] m = .ok (frD z) m ∧ f__law_is [frD z, .int n, .int d] m = .ok (.bl true) m := by
  obtain ⟨p, q, g, f1, f2, f3, f4, _, f5, f6⟩ := Pg.fraction_ok (n := n) (d := d) (k := k) m (by omega) h2 hk (by omega)
  refine ⟨(p, q), f1, is_ok (k := k) (l := k) m f2 ?_ (Nat.lt_of_le_of_lt f5 h1) (Nat.lt_of_le_of_lt f6 h2) h1 h2 hk hk (by omega)⟩
  rw [f3, f4, ← Int.mul_assoc, Int.mul_comm p g]
theorem eqG_frD (x : Int × Int) (m : Mem) : eqG (frD x) (frD x) m = some (.bl true, m) := by
  simp [eqG, frD, pdM, D.pd, D.pdL, SeqAt.shaped, PyData.canLay0, PyData.canLayAll0, PyData.depth, PyData.depthAll, PyData.eqv, PyData.eqvAll]
theorem main (ns : List Int) (hl : ns.length ≤ 63) (hb : ∀ z ∈ ns, Builtin.Int.intBits z ≤ 1048576) : ∃ m', f_law [.ref 0] [.con (ns.map .int)] = .ok (.bl true) m' := by
  obtain ⟨m0, e0, l0, d0⟩ := Lw.begin_ok ns
  obtain ⟨t, m1, e1, t0, t1, d1, u1⟩ := Lw.take_eq (d0.app [.lst []]) (n := 5) (by omega) (by decide +kernel)
  have l1 : m1.length = 4 := by rw [u1.len]; simp [l0]
  have h1 : m1[3]? = some (.lst []) := by
    rw [u1.get (by omega), List.getElem?_append_right (by omega), l0]
    rfl
  have ok2 : okI (2 + t) := ⟨by omega, by omega⟩
  obtain ⟨r2, m2, e2, ys, xa, xb, xc, xd, rfl, l2, d2, hm, hg, hJ⟩ := forL_fix (s := .fix (iotaD 0 (2 + t).toNat)) (Inv1 (2 + t).toNat) (fun _ _ _ _ => trivial) (turn (J := (2 + t).toNat) (by omega)) (iotaD 0 (2 + t).toNat) (envL none none none none none none) m1
    ⟨[], none, none, none, none, rfl, l1, d1, h1, (by intro y h; cases h), by simp [iotaD_length]⟩
  simp only [List.length_nil, Nat.add_zero] at hJ
  obtain ⟨y0, y1, rest, rfl⟩ : ∃ y0 y1 rest, ys = y0 :: y1 :: rest := by
    match ys, hJ with
    | [], h => simp at h; omega
    | [_], h => simp at h; omega
    | y0 :: y1 :: rest, _ => exact ⟨y0, y1, rest, rfl⟩
  obtain ⟨g00, b00, b01⟩ := hg y0 List.mem_cons_self
  obtain ⟨g10, b10, b11⟩ := hg y1 (List.mem_cons_of_mem _ List.mem_cons_self)
  have hi : itemsOf m2 3 = some ((y0 :: y1 :: rest).map frD) := items_lst hm
  obtain ⟨ep, _, _, _, _, eip⟩ := plusZ_ok (k := 140) (l := 140) m2 g00 g10 b00 b01 b10 b11 (by omega) (by omega) (by omega)
  have hd : 0 < y0.2 * y1.2 := Int.mul_pos g00.1 g10.1
  have w1 : (y0.1 * y1.2).natAbs < 2 ^ 280 := wide_lt b00 b11
  have w2 : (y1.1 * y0.2).natAbs < 2 ^ 280 := wide_lt b10 b01
  have w3 : (y0.2 * y1.2).natAbs < 2 ^ 280 := wide_lt b01 b11
  have w4 : (y0.1 * y1.1).natAbs < 2 ^ 280 := wide_lt b00 b10
  have w5 : (y0.1 * y1.2 - y1.1 * y0.2).natAbs < 2 ^ 281 := by rw [Int.sub_eq_add_neg]; exact sum_lt w1 (by rw [Int.natAbs_neg]; exact w2)
  have em := Pg.minus_eq (a := y0.1) (b := y0.2) (c := y1.1) (d := y1.2) m2 b00 b01 b10 b11 (by omega) (by omega) (by omega)
  obtain ⟨z1, em1, em2⟩ := frac_is (n := y0.1 * y1.2 - y1.1 * y0.2) (d := y0.2 * y1.2) (k := 281) m2 hd w5 (Nat.lt_of_lt_of_le w3 (Nat.pow_le_pow_right (by omega) (by omega))) (by omega) (by omega)
  rw [em1] at em
  have et := Pg.times_eq (a := y0.1) (b := y0.2) (c := y1.1) (d := y1.2) m2 b00 b01 b10 b11 (by omega) (by omega) (by omega)
  obtain ⟨z2, et1, et2⟩ := frac_is (n := y0.1 * y1.1) (d := y0.2 * y1.2) (k := 280) m2 hd w4 w3 (by omega) (by omega)
  rw [et1] at et
  have ec := Pg.compare_eq (a := y0.1) (b := y0.2) (c := y1.1) (d := y1.2) m2 b00 b01 b10 b11 (by omega) (by omega) (by omega)
  have ec0 := Pg.compare_eq (a := y0.1) (b := y0.2) (c := y0.1) (d := y0.2) m2 b00 b01 b00 b01 (by omega) (by omega) (by omega)
  have cz : Pg.cmpZ (y0.1 * y0.2) (y0.1 * y0.2) = 0 := by unfold Pg.cmpZ; rw [if_neg (by omega), if_neg (by omega)]
  rw [cz] at ec0
  have el1 := Lw.less_eq (a := y1.1) (b := y1.2) (c := y0.1) (d := y0.2) m2 b10 b11 b00 b01 (by omega) (by omega) (by omega)
  have el2 := Lw.less_eq (a := y0.1) (b := y0.2) (c := y1.1) (d := y1.2) m2 b00 b01 b10 b11 (by omega) (by omega) (by omega)
  have due : ∀ r : Mi.Env, r[7]? = some (some (frD y0)) → r[8]? = some (some (frD y1)) → k2a (kife (kval (Lw.f__law_less [frD y1, frD y0] m2)) (cstE (.int 1)) (cstE (.int 0)) r) (ifE (valT (callE Lw.f__law_less (consA (varE 7) (consA (varE 8) nilA)))) (cstE (.int 1)) (cstE (.int 0))) subG r = .ok (.int (Pg.cmpZ (y0.1 * y1.2) (y1.1 * y0.2))) m2 := by
    intro r r7 r8
    have el1' : Lw.f__law_less [frD y1, frD y0] m2 = .ok (.bl (decide (y1.1 * y0.2 < y0.1 * y1.2))) m2 := el1
    have el2' : Lw.f__law_less [frD y0, frD y1] m2 = .ok (.bl (decide (y0.1 * y1.2 < y1.1 * y0.2))) m2 := el2
    unfold Pg.cmpZ
    by_cases c1 : y0.1 * y1.2 < y1.1 * y0.2
    · have c2 : ¬ y1.1 * y0.2 < y0.1 * y1.2 := by omega
      rw [if_pos c1]
      simp only [atI_c0, atI_c1, atI_c2, atI_c3, nc0, nc1, nc2, nc3, nc4, nc5, nc6, nc7, nc8, nc9, setG_v, ksv_ok, kso_ok, ksi_ok, ksx_ok, ksy_ok, items_kit, kit_lst, kit_con, idxG_refE, kix_some, idxG_tupE, ofI_some, lenG_refE, klen_some, defF1, defF2, defF3, defF4, defF5, seqS_ap, kseq_nx, kseq_rt, kseq_bk, kseq_ct, kseq_exc, kseq_bad, nxS_ap, bkS_ap, ctS_ap, raiseS_ap, retN_ap, op1_ap, k1_ok, op2_ap, k2a_ok, k2b_ok, opN_ap, kN_ok, nilA_ap, consA_ap, kca_ok, kcb_ok, varE_ap, pick_ok, cstE_ap, asgS_ap, kasg_ok, kasg_exc, retS_ap, kret_ok, kret_exc, dropS_ap, kdrop_ok, kdrop_exc, ifS_ap, kif_t, kif_f, ifE_ap, kife_t, kife_f, valT_ap, kval_ok, notT_ap, knot_ok, andT_ap, kand_t, kand_f, orT_ap, kor_t, kor_f, andV_ap, kandv_t, kandv_f, orV_ap, korv_t, korv_f, notV_ap, knotv_ok, callE_ap, kcall_ok, parS_ap, kpar_ok, asgG_ap, forS_ap, kfor_ok, srcE_ap, ksrc_tup, ksrc_str, finF_nx, finF_rt, finF_exc, startE, lft_some, List.length_cons, List.length_nil, List.map_cons, List.map_nil, List.getElem?_cons_succ, List.getElem?_cons_zero, List.set_cons_zero, List.set_cons_succ, List.cons_append, List.nil_append, List.replicate_succ, List.replicate_zero, Nat.reduceAdd, Nat.reduceSub, Nat.sub_self, Nat.zero_add, eqG_int, neG_int, ltG_int, gtG_int, leG_int, geG_int, addG_int, subG_int, negG_int, absG_int, intG_int, gcdG_int, lenG_tup, tupD0, tupD1, tupD2, tupD3, tupD4, lstD0, lstD1, lstD4, isi_int_int, isi_bool_int, isi_tup_tup, decide_true, decide_false, Bool.not_true, Bool.not_false, beq_self_eq_true, Int.reduceBEq, Int.reduceLT, Int.reduceLE, Int.reduceNeg, r7, r8, el1', el2', decide_eq_true c1, decide_eq_false c2]
      rfl
    · rw [if_neg c1]
      by_cases c2 : y1.1 * y0.2 < y0.1 * y1.2
      · rw [if_pos c2]
        simp only [atI_c0, atI_c1, atI_c2, atI_c3, nc0, nc1, nc2, nc3, nc4, nc5, nc6, nc7, nc8, nc9, setG_v, ksv_ok, kso_ok, ksi_ok, ksx_ok, ksy_ok, items_kit, kit_lst, kit_con, idxG_refE, kix_some, idxG_tupE, ofI_some, lenG_refE, klen_some, defF1, defF2, defF3, defF4, defF5, seqS_ap, kseq_nx, kseq_rt, kseq_bk, kseq_ct, kseq_exc, kseq_bad, nxS_ap, bkS_ap, ctS_ap, raiseS_ap, retN_ap, op1_ap, k1_ok, op2_ap, k2a_ok, k2b_ok, opN_ap, kN_ok, nilA_ap, consA_ap, kca_ok, kcb_ok, varE_ap, pick_ok, cstE_ap, asgS_ap, kasg_ok, kasg_exc, retS_ap, kret_ok, kret_exc, dropS_ap, kdrop_ok, kdrop_exc, ifS_ap, kif_t, kif_f, ifE_ap, kife_t, kife_f, valT_ap, kval_ok, notT_ap, knot_ok, andT_ap, kand_t, kand_f, orT_ap, kor_t, kor_f, andV_ap, kandv_t, kandv_f, orV_ap, korv_t, korv_f, notV_ap, knotv_ok, callE_ap, kcall_ok, parS_ap, kpar_ok, asgG_ap, forS_ap, kfor_ok, srcE_ap, ksrc_tup, ksrc_str, finF_nx, finF_rt, finF_exc, startE, lft_some, List.length_cons, List.length_nil, List.map_cons, List.map_nil, List.getElem?_cons_succ, List.getElem?_cons_zero, List.set_cons_zero, List.set_cons_succ, List.cons_append, List.nil_append, List.replicate_succ, List.replicate_zero, Nat.reduceAdd, Nat.reduceSub, Nat.sub_self, Nat.zero_add, eqG_int, neG_int, ltG_int, gtG_int, leG_int, geG_int, addG_int, subG_int, negG_int, absG_int, intG_int, gcdG_int, lenG_tup, tupD0, tupD1, tupD2, tupD3, tupD4, lstD0, lstD1, lstD4, isi_int_int, isi_bool_int, isi_tup_tup, decide_true, decide_false, Bool.not_true, Bool.not_false, beq_self_eq_true, Int.reduceBEq, Int.reduceLT, Int.reduceLE, Int.reduceNeg, r7, r8, el1', el2', decide_eq_false c1, decide_eq_true c2]
        rfl
      · rw [if_neg c2]
        simp only [atI_c0, atI_c1, atI_c2, atI_c3, nc0, nc1, nc2, nc3, nc4, nc5, nc6, nc7, nc8, nc9, setG_v, ksv_ok, kso_ok, ksi_ok, ksx_ok, ksy_ok, items_kit, kit_lst, kit_con, idxG_refE, kix_some, idxG_tupE, ofI_some, lenG_refE, klen_some, defF1, defF2, defF3, defF4, defF5, seqS_ap, kseq_nx, kseq_rt, kseq_bk, kseq_ct, kseq_exc, kseq_bad, nxS_ap, bkS_ap, ctS_ap, raiseS_ap, retN_ap, op1_ap, k1_ok, op2_ap, k2a_ok, k2b_ok, opN_ap, kN_ok, nilA_ap, consA_ap, kca_ok, kcb_ok, varE_ap, pick_ok, cstE_ap, asgS_ap, kasg_ok, kasg_exc, retS_ap, kret_ok, kret_exc, dropS_ap, kdrop_ok, kdrop_exc, ifS_ap, kif_t, kif_f, ifE_ap, kife_t, kife_f, valT_ap, kval_ok, notT_ap, knot_ok, andT_ap, kand_t, kand_f, orT_ap, kor_t, kor_f, andV_ap, kandv_t, kandv_f, orV_ap, korv_t, korv_f, notV_ap, knotv_ok, callE_ap, kcall_ok, parS_ap, kpar_ok, asgG_ap, forS_ap, kfor_ok, srcE_ap, ksrc_tup, ksrc_str, finF_nx, finF_rt, finF_exc, startE, lft_some, List.length_cons, List.length_nil, List.map_cons, List.map_nil, List.getElem?_cons_succ, List.getElem?_cons_zero, List.set_cons_zero, List.set_cons_succ, List.cons_append, List.nil_append, List.replicate_succ, List.replicate_zero, Nat.reduceAdd, Nat.reduceSub, Nat.sub_self, Nat.zero_add, eqG_int, neG_int, ltG_int, gtG_int, leG_int, geG_int, addG_int, subG_int, negG_int, absG_int, intG_int, gcdG_int, lenG_tup, tupD0, tupD1, tupD2, tupD3, tupD4, lstD0, lstD1, lstD4, isi_int_int, isi_bool_int, isi_tup_tup, decide_true, decide_false, Bool.not_true, Bool.not_false, beq_self_eq_true, Int.reduceBEq, Int.reduceLT, Int.reduceLE, Int.reduceNeg, r7, r8, el1', el2', decide_eq_false c1, decide_eq_false c2]
        rfl
  have ys5 : (y0 :: y1 :: rest).length ≤ 10 := by rw [hJ]; omega
  have tot := total_eq m2 hg ys5
  have tot0 := total_eq (ys := []) m2 (by intro y h; cases h) (by simp)
  obtain ⟨o', loop⟩ := sum_loop (s := .lst 3 ((y0 :: y1 :: rest).map frD)) (tg := nameG 12) (b := seqS (asgS 11 (callE Lw.f__law_plus (consA (varE 11) (consA (varE 12) nilA)))) nxS) (m := m2) hi
    (fun w o => [some (.ref 0), some (.ref 2), some (.ref 3), xa, xb, xc, xd, some (frD y0), some (frD y1), some (.int (Pg.cmpZ (y0.1 * y1.2) (y1.1 * y0.2))), some (.int (Pg.cmpZ (y0.1 * y1.2) (y1.1 * y0.2))), some w, o])
    (fun x y k o hx hy h1 h2 h3 h4 hk hb => ⟨_, rfl, by
      obtain ⟨_, e, _⟩ := plusZ_ok (k := k) (l := 140) m2 hx hy h1 h2 h3 h4 hk (by omega) (by omega)
      simp only [atI_c0, atI_c1, atI_c2, atI_c3, nc0, nc1, nc2, nc3, nc4, nc5, nc6, nc7, nc8, nc9, setG_v, ksv_ok, kso_ok, ksi_ok, ksx_ok, ksy_ok, items_kit, kit_lst, kit_con, idxG_refE, kix_some, idxG_tupE, ofI_some, lenG_refE, klen_some, defF1, defF2, defF3, defF4, defF5, seqS_ap, kseq_nx, kseq_rt, kseq_bk, kseq_ct, kseq_exc, kseq_bad, nxS_ap, bkS_ap, ctS_ap, raiseS_ap, retN_ap, op1_ap, k1_ok, op2_ap, k2a_ok, k2b_ok, opN_ap, kN_ok, nilA_ap, consA_ap, kca_ok, kcb_ok, varE_ap, pick_ok, cstE_ap, asgS_ap, kasg_ok, kasg_exc, retS_ap, kret_ok, kret_exc, dropS_ap, kdrop_ok, kdrop_exc, ifS_ap, kif_t, kif_f, ifE_ap, kife_t, kife_f, valT_ap, kval_ok, notT_ap, knot_ok, andT_ap, kand_t, kand_f, orT_ap, kor_t, kor_f, andV_ap, kandv_t, kandv_f, orV_ap, korv_t, korv_f, notV_ap, knotv_ok, callE_ap, kcall_ok, parS_ap, kpar_ok, asgG_ap, forS_ap, kfor_ok, srcE_ap, ksrc_tup, ksrc_str, finF_nx, finF_rt, finF_exc, startE, lft_some, List.length_cons, List.length_nil, List.map_cons, List.map_nil, List.getElem?_cons_succ, List.getElem?_cons_zero, List.set_cons_zero, List.set_cons_succ, List.cons_append, List.nil_append, List.replicate_succ, List.replicate_zero, Nat.reduceAdd, Nat.reduceSub, Nat.sub_self, Nat.zero_add, eqG_int, neG_int, ltG_int, gtG_int, leG_int, geG_int, addG_int, subG_int, negG_int, absG_int, intG_int, gcdG_int, lenG_tup, tupD0, tupD1, tupD2, tupD3, tupD4, lstD0, lstD1, lstD4, isi_int_int, isi_bool_int, isi_tup_tup, decide_true, decide_false, Bool.not_true, Bool.not_false, beq_self_eq_true, Int.reduceBEq, Int.reduceLT, Int.reduceLE, Int.reduceNeg, e]⟩) (y0 :: y1 :: rest) (0, 1) 1 none hg one_ok (by decide) (by decide) (by omega) (by omega)
  refine ⟨m2, ?_⟩
  have rg : rng1 (consA (op2 (cstE (.int 2)) (callE Lw.f__law_take (consA (varE 1) (consA (cstE (.int 5)) nilA))) addG) nilA) (envL none none none none none none) (m0 ++ [.lst []]) = .ok (.fix (iotaD 0 (2 + t).toNat)) m1 := rng1_ap ok2 (by simp only [atI_c0, atI_c1, atI_c2, atI_c3, nc0, nc1, nc2, nc3, nc4, nc5, nc6, nc7, nc8, nc9, setG_v, ksv_ok, kso_ok, ksi_ok, ksx_ok, ksy_ok, items_kit, kit_lst, kit_con, idxG_refE, kix_some, idxG_tupE, ofI_some, lenG_refE, klen_some, defF1, defF2, defF3, defF4, defF5, seqS_ap, kseq_nx, kseq_rt, kseq_bk, kseq_ct, kseq_exc, kseq_bad, nxS_ap, bkS_ap, ctS_ap, raiseS_ap, retN_ap, op1_ap, k1_ok, op2_ap, k2a_ok, k2b_ok, opN_ap, kN_ok, nilA_ap, consA_ap, kca_ok, kcb_ok, varE_ap, pick_ok, cstE_ap, asgS_ap, kasg_ok, kasg_exc, retS_ap, kret_ok, kret_exc, dropS_ap, kdrop_ok, kdrop_exc, ifS_ap, kif_t, kif_f, ifE_ap, kife_t, kife_f, valT_ap, kval_ok, notT_ap, knot_ok, andT_ap, kand_t, kand_f, orT_ap, kor_t, kor_f, andV_ap, kandv_t, kandv_f, orV_ap, korv_t, korv_f, notV_ap, knotv_ok, callE_ap, kcall_ok, parS_ap, kpar_ok, asgG_ap, forS_ap, kfor_ok, srcE_ap, ksrc_tup, ksrc_str, finF_nx, finF_rt, finF_exc, startE, lft_some, List.length_cons, List.length_nil, List.map_cons, List.map_nil, List.getElem?_cons_succ, List.getElem?_cons_zero, List.set_cons_zero, List.set_cons_succ, List.cons_append, List.nil_append, List.replicate_succ, List.replicate_zero, Nat.reduceAdd, Nat.reduceSub, Nat.sub_self, Nat.zero_add, eqG_int, neG_int, ltG_int, gtG_int, leG_int, geG_int, addG_int, subG_int, negG_int, absG_int, intG_int, gcdG_int, lenG_tup, tupD0, tupD1, tupD2, tupD3, tupD4, lstD0, lstD1, lstD4, isi_int_int, isi_bool_int, isi_tup_tup, decide_true, decide_false, Bool.not_true, Bool.not_false, beq_self_eq_true, Int.reduceBEq, Int.reduceLT, Int.reduceLE, Int.reduceNeg, e1])
  have i0 : ∀ (z : Int × Int) m, idxG (frD z) (.int 0) m = some (.int z.1, m) := fun _ _ => rfl
  have i1 : ∀ (z : Int × Int) m, idxG (frD z) (.int 1) m = some (.int z.2, m) := fun _ _ => rfl
  have q1 : D.tup [.int 0, .int 1] = frD (0, 1) := rfl
  have tg3 := tupleG_refE hi
  have ec' : Pg.f_compare [frD y0, frD y1] m2 = .ok (.int (Pg.cmpZ (y0.1 * y1.2) (y1.1 * y0.2))) m2 := ec
  have ec0' : Pg.f_compare [frD y0, frD y0] m2 = .ok (.int 0) m2 := ec0
  have em' : Pg.f_minus [frD y0, frD y1] m2 = .ok (frD z1) m2 := em
  have et' : Pg.f_times [frD y0, frD y1] m2 = .ok (frD z2) m2 := et
  have t0' : Pg.f_total [.tup []] m2 = .ok (frD (0, 1)) m2 := tot0
  have u1 := mulG_int (m := m2) (mul_bound (k := 140) (l := 140) b00 b11 (by omega) (by omega) (by omega))
  have u2 := mulG_int (m := m2) (mul_bound (k := 140) (l := 140) b10 b01 (by omega) (by omega) (by omega))
  have u3 := mulG_int (m := m2) (mul_bound (k := 140) (l := 140) b01 b11 (by omega) (by omega) (by omega))
  have u4 := mulG_int (m := m2) (mul_bound (k := 140) (l := 140) b00 b10 (by omega) (by omega) (by omega))
  simp only [List.map_cons] at hm hi tot loop tg3
  unfold f_law
  simp only [atI_c0, atI_c1, atI_c2, atI_c3, nc0, nc1, nc2, nc3, nc4, nc5, nc6, nc7, nc8, nc9, setG_v, ksv_ok, kso_ok, ksi_ok, ksx_ok, ksy_ok, items_kit, kit_lst, kit_con, idxG_refE, kix_some, idxG_tupE, ofI_some, lenG_refE, klen_some, defF1, defF2, defF3, defF4, defF5, seqS_ap, kseq_nx, kseq_rt, kseq_bk, kseq_ct, kseq_exc, kseq_bad, nxS_ap, bkS_ap, ctS_ap, raiseS_ap, retN_ap, op1_ap, k1_ok, op2_ap, k2a_ok, k2b_ok, opN_ap, kN_ok, nilA_ap, consA_ap, kca_ok, kcb_ok, varE_ap, pick_ok, cstE_ap, asgS_ap, kasg_ok, kasg_exc, retS_ap, kret_ok, kret_exc, dropS_ap, kdrop_ok, kdrop_exc, ifS_ap, kif_t, kif_f, ifE_ap, kife_t, kife_f, valT_ap, kval_ok, notT_ap, knot_ok, andT_ap, kand_t, kand_f, orT_ap, kor_t, kor_f, andV_ap, kandv_t, kandv_f, orV_ap, korv_t, korv_f, notV_ap, knotv_ok, callE_ap, kcall_ok, parS_ap, kpar_ok, asgG_ap, forS_ap, kfor_ok, srcE_ap, ksrc_tup, ksrc_str, finF_nx, finF_rt, finF_exc, startE, lft_some, List.length_cons, List.length_nil, List.map_cons, List.map_nil, List.getElem?_cons_succ, List.getElem?_cons_zero, List.set_cons_zero, List.set_cons_succ, List.cons_append, List.nil_append, List.replicate_succ, List.replicate_zero, Nat.reduceAdd, Nat.reduceSub, Nat.sub_self, Nat.zero_add, eqG_int, neG_int, ltG_int, gtG_int, leG_int, geG_int, addG_int, subG_int, negG_int, absG_int, intG_int, gcdG_int, lenG_tup, tupD0, tupD1, tupD2, tupD3, tupD4, lstD0, lstD1, lstD4, isi_int_int, isi_bool_int, isi_tup_tup, decide_true, decide_false, Bool.not_true, Bool.not_false, beq_self_eq_true, Int.reduceBEq, Int.reduceLT, Int.reduceLE, Int.reduceNeg, e0, l0, rg, Src.items, e2, envL, hm]
  simp only [atI_c0, atI_c1, atI_c2, atI_c3, nc0, nc1, nc2, nc3, nc4, nc5, nc6, nc7, nc8, nc9, setG_v, ksv_ok, kso_ok, ksi_ok, ksx_ok, ksy_ok, items_kit, kit_lst, kit_con, idxG_refE, kix_some, idxG_tupE, ofI_some, lenG_refE, klen_some, defF1, defF2, defF3, defF4, defF5, seqS_ap, kseq_nx, kseq_rt, kseq_bk, kseq_ct, kseq_exc, kseq_bad, nxS_ap, bkS_ap, ctS_ap, raiseS_ap, retN_ap, op1_ap, k1_ok, op2_ap, k2a_ok, k2b_ok, opN_ap, kN_ok, nilA_ap, consA_ap, kca_ok, kcb_ok, varE_ap, pick_ok, cstE_ap, asgS_ap, kasg_ok, kasg_exc, retS_ap, kret_ok, kret_exc, dropS_ap, kdrop_ok, kdrop_exc, ifS_ap, kif_t, kif_f, ifE_ap, kife_t, kife_f, valT_ap, kval_ok, notT_ap, knot_ok, andT_ap, kand_t, kand_f, orT_ap, kor_t, kor_f, andV_ap, kandv_t, kandv_f, orV_ap, korv_t, korv_f, notV_ap, knotv_ok, callE_ap, kcall_ok, parS_ap, kpar_ok, asgG_ap, forS_ap, kfor_ok, srcE_ap, ksrc_tup, ksrc_str, finF_nx, finF_rt, finF_exc, startE, lft_some, List.length_cons, List.length_nil, List.map_cons, List.map_nil, List.getElem?_cons_succ, List.getElem?_cons_zero, List.set_cons_zero, List.set_cons_succ, List.cons_append, List.nil_append, List.replicate_succ, List.replicate_zero, Nat.reduceAdd, Nat.reduceSub, Nat.sub_self, Nat.zero_add, eqG_int, neG_int, ltG_int, gtG_int, leG_int, geG_int, addG_int, subG_int, negG_int, absG_int, intG_int, gcdG_int, lenG_tup, tupD0, tupD1, tupD2, tupD3, tupD4, lstD0, lstD1, lstD4, isi_int_int, isi_bool_int, isi_tup_tup, decide_true, decide_false, Bool.not_true, Bool.not_false, beq_self_eq_true, Int.reduceBEq, Int.reduceLT, Int.reduceLE, Int.reduceNeg, ep, eip, i0, i1, u1, u2, u3, u4, em', em2, et', et2]
  rw [due _ rfl rfl]
  simp only [atI_c0, atI_c1, atI_c2, atI_c3, nc0, nc1, nc2, nc3, nc4, nc5, nc6, nc7, nc8, nc9, setG_v, ksv_ok, kso_ok, ksi_ok, ksx_ok, ksy_ok, items_kit, kit_lst, kit_con, idxG_refE, kix_some, idxG_tupE, ofI_some, lenG_refE, klen_some, defF1, defF2, defF3, defF4, defF5, seqS_ap, kseq_nx, kseq_rt, kseq_bk, kseq_ct, kseq_exc, kseq_bad, nxS_ap, bkS_ap, ctS_ap, raiseS_ap, retN_ap, op1_ap, k1_ok, op2_ap, k2a_ok, k2b_ok, opN_ap, kN_ok, nilA_ap, consA_ap, kca_ok, kcb_ok, varE_ap, pick_ok, cstE_ap, asgS_ap, kasg_ok, kasg_exc, retS_ap, kret_ok, kret_exc, dropS_ap, kdrop_ok, kdrop_exc, ifS_ap, kif_t, kif_f, ifE_ap, kife_t, kife_f, valT_ap, kval_ok, notT_ap, knot_ok, andT_ap, kand_t, kand_f, orT_ap, kor_t, kor_f, andV_ap, kandv_t, kandv_f, orV_ap, korv_t, korv_f, notV_ap, knotv_ok, callE_ap, kcall_ok, parS_ap, kpar_ok, asgG_ap, forS_ap, kfor_ok, srcE_ap, ksrc_tup, ksrc_str, finF_nx, finF_rt, finF_exc, startE, lft_some, List.length_cons, List.length_nil, List.map_cons, List.map_nil, List.getElem?_cons_succ, List.getElem?_cons_zero, List.set_cons_zero, List.set_cons_succ, List.cons_append, List.nil_append, List.replicate_succ, List.replicate_zero, Nat.reduceAdd, Nat.reduceSub, Nat.sub_self, Nat.zero_add, eqG_int, neG_int, ltG_int, gtG_int, leG_int, geG_int, addG_int, subG_int, negG_int, absG_int, intG_int, gcdG_int, lenG_tup, tupD0, tupD1, tupD2, tupD3, tupD4, lstD0, lstD1, lstD4, isi_int_int, isi_bool_int, isi_tup_tup, decide_true, decide_false, Bool.not_true, Bool.not_false, beq_self_eq_true, Int.reduceBEq, Int.reduceLT, Int.reduceLE, Int.reduceNeg, ec', Lw.int_eq, ec0', q1, ksrc_ref hi, Src.items, loop, tg3, tot, t0', eqG_frD]
end K01

end

section
set_option Elab.async false
set_option linter.all false
set_option maxRecDepth 100000
set_option maxHeartbeats 4000000
open PySem PySem.W PyProof.Rows
set_option maxHeartbeats 0 in
theorem PySem.Challenge.cw_joinhall_k01_fractions_holds : PySem.Challenge.rw_joinhall_k01_fractions.Holds := by
  w_on; o_law; k_head; (case hw => w_witness2)
  k_fill
  refine L2.walk_ofB (l := PySem.Challenge.rw_joinhall_k01_fractions) (n := 63) (k := 4) (x := "script") (CX := fun w => L2.CX PySem.Challenge.rw_joinhall_k01_fractions.prog w) (sp := fun w => Mi.spK K01.f_law _) rfl (by decide) rfl ⟨rfl, by decide, by decide⟩ (fun w h Y => PySem.W.kIn_of Y) ?F (fun w H a ns hl hb ho hS => Mi.law_spK (K01.main ns hl hb) ho hS) (fun w H s e s' h => Mi.law_cx h)
  case F =>
    intro w mg fa h KX G hmg
    refine' K01.all_mk KX G hmg ?a5 ?l5 ?c5 ?k5 ?a6 ?l6 ?c6 ?k6 ?a7 ?l7 ?c7 ?k7 ?a8 ?l8 ?c8 ?k8 ?a9 ?l9 ?c9 ?k9 ?a10 ?l10 ?c10 ?k10 ?a12 ?l12 ?c12 ?k12 ?a13 ?l13 ?c13 ?k13 ?a14 ?l14 ?c14 ?k14 ?a15 ?l15 ?c15 ?k15 ?a16 ?l16 ?c16 ?k16 ?a17 ?l17 ?c17 ?k17 ?a18 ?l18 ?c18 ?k18 ?a19 ?l19 ?c19 ?k19 ?a20 ?l20 ?c20 ?k20 ?a21 ?l21 ?c21 ?k21 ?a22 ?l22 ?c22 ?k22 ?a23 ?l23 ?c23 ?k23 ?z_int ?z_list ?z_len ?z_abs ?z_isinstance ?z_bool ?z_tuple ?z_range ?m_gcd ?ea0 ?ex0 ?ek0 ?eb0 ?et0 ?ea1 ?ex1 ?ek1 ?eb1 ?et1 ?xg0 ?xk0 ?xd0 ?xa0 ?xm0 ?hs0_0 ?hs0_1 ?hk0_1 ?xg1 ?xk1 ?xd1 ?xa1 ?xm1 ?hs1_0 ?hs1_1 ?xn ?xt
    (case a5 => k_is)
    (case l5 => k_is)
    (case c5 => k_is)
    (case k5 => k_is)
    (case a6 => k_is)
    (case l6 => k_is)
    (case c6 => k_is)
    (case k6 => k_is)
    (case a7 => k_is)
    (case l7 => k_is)
    (case c7 => k_is)
    (case k7 => k_is)
    (case a8 => k_is)
    (case l8 => k_is)
    (case c8 => k_is)
    (case k8 => k_is)
    (case a9 => k_is)
    (case l9 => k_is)
    (case c9 => k_is)
    (case k9 => k_is)
    (case a10 => k_is)
    (case l10 => k_is)
    (case c10 => k_is)
    (case k10 => k_is)
    (case a12 => k_is)
    (case l12 => k_is)
    (case c12 => k_is)
    (case k12 => k_is)
    (case a13 => k_is)
    (case l13 => k_is)
    (case c13 => k_is)
    (case k13 => k_is)
    (case a14 => k_is)
    (case l14 => k_is)
    (case c14 => k_is)
    (case k14 => k_is)
    (case a15 => k_is)
    (case l15 => k_is)
    (case c15 => k_is)
    (case k15 => k_is)
    (case a16 => k_is)
    (case l16 => k_is)
    (case c16 => k_is)
    (case k16 => k_is)
    (case a17 => k_is)
    (case l17 => k_is)
    (case c17 => k_is)
    (case k17 => k_is)
    (case a18 => k_is)
    (case l18 => k_is)
    (case c18 => k_is)
    (case k18 => k_is)
    (case a19 => k_is)
    (case l19 => k_is)
    (case c19 => k_is)
    (case k19 => k_is)
    (case a20 => k_is)
    (case l20 => k_is)
    (case c20 => k_is)
    (case k20 => k_is)
    (case a21 => k_is)
    (case l21 => k_is)
    (case c21 => k_is)
    (case k21 => k_is)
    (case a22 => k_is)
    (case l22 => k_is)
    (case c22 => k_is)
    (case k22 => k_is)
    (case a23 => k_is)
    (case l23 => k_is)
    (case c23 => k_is)
    (case k23 => k_is)
    (case z_int => k_is)
    (case z_list => k_is)
    (case z_len => k_is)
    (case z_abs => k_is)
    (case z_isinstance => k_is)
    (case z_bool => k_is)
    (case z_tuple => k_is)
    (case z_range => k_is)
    (case m_gcd => k_is)
    (case ea0 => k_is)
    (case ex0 => k_exc)
    (case ek0 => k_is)
    (case eb0 => k_is)
    (case et0 => k_is)
    (case ea1 => k_is)
    (case ex1 => k_exc)
    (case ek1 => k_is)
    (case eb1 => k_is)
    (case et1 => k_is)
    (case xg0 => k_is)
    (case xk0 => k_is)
    (case xd0 => k_is)
    (case xa0 => k_is)
    (case xm0 => k_is)
    (case hs0_0 => first | k_is | rfl)
    (case hs0_1 => first | k_is | rfl)
    (case hk0_1 => decide)
    (case xg1 => k_is)
    (case xk1 => k_is)
    (case xd1 => k_is)
    (case xa1 => k_is)
    (case xm1 => k_is)
    (case hs1_0 => first | k_is | rfl)
    (case hs1_1 => first | k_is | rfl)
    (case xn => k_is)
    (case xt => k_is)

end
