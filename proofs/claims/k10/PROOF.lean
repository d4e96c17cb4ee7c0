import PyProof.Rows.All
import Wide.All
import OpenK.AllK
import Wide.FinOn
import HandS.ForMost
import HandS.ForExc
import HandS.Wide
import HandS.Gcd
import HandS.IsInst
import HandS.TupAny
import HandS.ExcIs
import HandS.TryOnly
import KE.DataCmp
import HandS.EndBits
import KE.SortData
import HandS.Zip
import HandS.Text
import HandS.Deep
import HandS.SortInts
import PyProof.TupleOfSeq
import HandS.Style
import HandS.SetFor
import HandS.Strs
import HandS.SetKeys
import PySem.Challenge.RW_joinhall_k10_common_integers
section
set_option Elab.async false
set_option linter.all false
set_option maxRecDepth 100000
set_option maxHeartbeats 4000000
namespace Mi
open PySem PySem.Spec L2
open PyProof.Rows hiding St

/-! ## the mirror's data -/
inductive D where
  | non | bl (b : Bool) | int (i : Int) | str (s : PySem.Str) | tup (xs : List D) | ref (n : Nat) | exn (c : String)
instance : Inhabited D := ⟨.non⟩
inductive MO where
  | lst (xs : List D) | con (xs : List D) | dic (kvs : List (L2.Key × D)) | sti (ns : List Int) | obj (c : String) (fs : List (PySem.Str × D)) | frz (o : MO)
abbrev Mem := List MO
inductive Res (α : Type) where
  | ok (a : α) (m : Mem) | exc (c : String) (m : Mem) | bad
abbrev Env := List (Option D)
inductive Fl where
  | nx | rt (d : D) | bk | ct
inductive SRes where
  | ok (f : Fl) (r : Env) (m : Mem) | exc (c : String) (r : Env) (m : Mem) | bad
abbrev FE := Env → Mem → Res D
abbrev FT := Env → Mem → Res Bool
abbrev FA := Env → Mem → Res (List D)
abbrev FS := Env → Mem → SRes
abbrev Fn := List D → Mem → Res D

def Res.bind {α β : Type} (r : Res α) (g : α → Mem → Res β) : Res β := match r with
  | .ok a m => g a m
  | .exc c m => .exc c m
  | .bad => .bad

/-! ## how the mirror's data lie in the layer's heap -/
mutual
def RepD (K : PySem.W.Frag) (H : Hp) (ad : List Addr) : D → V → Prop
  | .non, v => v = .non
  | .bl b, v => v = .bl b
  | .int i, v => v = .int i
  | .str s, v => v = .str s
  | .tup ds, v => ∃ a vs, v = .ref a ∧ SqT K H a vs ∧ RepL K H ad ds vs
  | .ref n, v => ∃ a, v = .ref a ∧ ad[n]? = some a
  | .exn _, _ => False
def RepL (K : PySem.W.Frag) (H : Hp) (ad : List Addr) : List D → List V → Prop
  | [], vs => vs = []
  | d :: ds, vs => ∃ v r, vs = v :: r ∧ RepD K H ad d v ∧ RepL K H ad ds r
end
/-- a list of the module's written part -/
def KSq (K : PySem.W.Frag) (a : Addr) (xs : List V) : Prop :=
  ∃ (o : Obj) (its : Array Value) (n : Nat), K.lookup a = some o ∧ o.cls = .type "list" ∧ o.dict = none ∧ o.data = .seq its n ∧ its.size ≤ sizeLine ∧ Vals xs its.toList
def RepO (K : PySem.W.Frag) (H : Hp) (ad : List Addr) (a : Addr) : MO → Prop
  | .lst ds => ∃ vs, H a = some (.lst vs) ∧ RepL K H ad ds vs
  | .con ds => ∃ vs, ((∃ ob, H a = some (.frz ob (.lst vs))) ∨ KSq K a vs) ∧ RepL K H ad ds vs
  | .dic kvs => ∃ ks : List (L2.Key × V), H a = some (.dK ks) ∧ ks.map (·.1) = kvs.map (·.1) ∧ RepL K H ad (kvs.map (·.2)) (ks.map (·.2))
  | .sti ns => ∃ (S : Int → Bool) (c : Nat), H a = some (.set S c) ∧ ∀ j, S j = decide (j ∈ ns)
  | .obj _ _ => False
  | .frz _ => False
def isCon : MO → Prop
  | .con _ => True
  | _ => False
structure RepM (K : PySem.W.Frag) (ad : List Addr) (m : Mem) (H : Hp) : Prop where
  len : ad.length = m.length
  nd : ∀ (n k : Nat) (a : Addr) (o u : MO), ad[n]? = some a → ad[k]? = some a → m[n]? = some o → m[k]? = some u → n ≠ k → isCon o ∨ isCon u
  obj : ∀ (n : Nat) (o : MO) (a : Addr), m[n]? = some o → ad[n]? = some a → RepO K H ad a o
/-- what stays -/
structure Ext (K : PySem.W.Frag) (H : Hp) (ad : List Addr) (H' : Hp) (ad' : List Addr) : Prop where
  pre : ad <+: ad'
  tup : ∀ a vs, SqT K H a vs → SqT K H' a vs
def RepE (K : PySem.W.Frag) (H : Hp) (ad : List Addr) (r : Env) (σ : St) : Prop :=
  r.length = σ.length ∧ ∀ (i : Nat) d, r[i]? = some (some d) → ∃ v, σ[i]? = some (some v) ∧ RepD K H ad d v

section
variable {K : PySem.W.Frag} {H H1 H2 : Hp} {ad ad1 ad2 : List Addr} {m : Mem}
theorem Ext.refl : Ext K H ad H ad := ⟨List.prefix_refl _, fun _ _ h => h⟩
theorem Ext.trans (a : Ext K H ad H1 ad1) (b : Ext K H1 ad1 H2 ad2) : Ext K H ad H2 ad2 := ⟨a.pre.trans b.pre, fun x vs h => b.tup x vs (a.tup x vs h)⟩
theorem pre_get {ad ad1 : List Addr} (h : ad <+: ad1) {n : Nat} {a : Addr} (e : ad[n]? = some a) : ad1[n]? = some a := by
  obtain ⟨r, rfl⟩ := h
  rw [List.getElem?_append_left (List.getElem?_eq_some_iff.mp e).1]
  exact e
mutual
theorem RepD.mono (x : Ext K H ad H1 ad1) : ∀ (d : D) (v : V), RepD K H ad d v → RepD K H1 ad1 d v
  | .non, _, h => h
  | .bl _, _, h => h
  | .int _, _, h => h
  | .str _, _, h => h
  | .tup ds, _, h => by
    obtain ⟨a, vs, e, t, r⟩ := h
    exact ⟨a, vs, e, x.tup _ _ t, RepL.mono x ds vs r⟩
  | .ref n, _, h => by
    obtain ⟨a, e, g⟩ := h
    exact ⟨a, e, pre_get x.pre g⟩
  | .exn _, _, h => h.elim
theorem RepL.mono (x : Ext K H ad H1 ad1) : ∀ (ds : List D) (vs : List V), RepL K H ad ds vs → RepL K H1 ad1 ds vs
  | [], _, h => h
  | d :: ds, _, h => by
    obtain ⟨v, r, e, h1, h2⟩ := h
    exact ⟨v, r, e, RepD.mono x d v h1, RepL.mono x ds r h2⟩
end
theorem RepE.mono (x : Ext K H ad H1 ad1) {r : Env} {σ : St} (h : RepE K H ad r σ) : RepE K H1 ad1 r σ :=
  ⟨h.1, fun i d e => let ⟨v, e1, e2⟩ := h.2 i d e; ⟨v, e1, RepD.mono x d v e2⟩⟩
theorem RepE.set {r : Env} {σ : St} (h : RepE K H ad r σ) (i : Nat) {d : D} {v : V} (hd : RepD K H ad d v) : RepE K H ad (r.set i (some d)) (σ.set i (some v)) := by
  refine ⟨by simp [h.1], fun j e he => ?_⟩
  by_cases hj : i = j
  · subst hj
    have hl : i < r.length := by
      have := (List.getElem?_eq_some_iff.mp he).1
      simpa using this
    rw [List.getElem?_set_self hl] at he
    cases he
    exact ⟨v, List.getElem?_set_self (by rw [← h.1]; exact hl), hd⟩
  · rw [List.getElem?_set_ne hj] at he
    rw [List.getElem?_set_ne hj]
    exact h.2 j e he
theorem RepL.length : ∀ {ds : List D} {vs : List V}, RepL K H ad ds vs → ds.length = vs.length
  | [], _, h => by cases h; rfl
  | d :: ds, _, h => by
    obtain ⟨v, r, rfl, _, h2⟩ := h
    simp [RepL.length h2]
theorem RepL.get : ∀ {ds : List D} {vs : List V} {i : Nat} {d : D}, RepL K H ad ds vs → ds[i]? = some d → ∃ v, vs[i]? = some v ∧ RepD K H ad d v
  | [], _, _, _, _, e => by simp at e
  | d :: ds, _, 0, x, h, e => by
    obtain ⟨v, r, rfl, h1, h2⟩ := h
    simp at e
    subst e
    exact ⟨v, rfl, h1⟩
  | d :: ds, _, i + 1, x, h, e => by
    obtain ⟨v, r, rfl, h1, h2⟩ := h
    obtain ⟨v', e1, e2⟩ := RepL.get (i := i) h2 (by simpa using e)
    exact ⟨v', by simpa using e1, e2⟩
theorem RepL.app : ∀ {ds es : List D} {vs us : List V}, RepL K H ad ds vs → RepL K H ad es us → RepL K H ad (ds ++ es) (vs ++ us)
  | [], _, _, _, h, q => by cases h; exact q
  | d :: ds, _, _, _, h, q => by
    obtain ⟨v, r, rfl, h1, h2⟩ := h
    exact ⟨v, r ++ _, rfl, h1, RepL.app h2 q⟩
theorem RepL.one {d : D} {v : V} (h : RepD K H ad d v) : RepL K H ad [d] [v] := ⟨v, [], rfl, h, rfl⟩
theorem RepL.set {d : D} {v : V} (hd : RepD K H ad d v) : ∀ {ds : List D} {vs : List V} (i : Nat), RepL K H ad ds vs → RepL K H ad (ds.set i d) (vs.set i v)
  | [], _, _, h => by cases h; rfl
  | x :: ds, _, 0, h => by
    obtain ⟨w, r, rfl, h1, h2⟩ := h
    exact ⟨v, r, rfl, hd, h2⟩
  | x :: ds, _, i + 1, h => by
    obtain ⟨w, r, rfl, h1, h2⟩ := h
    exact ⟨w, r.set i v, rfl, h1, RepL.set hd i h2⟩
theorem RepO.at {a : Addr} {o : MO} (h : RepO K H ad a o) : (∃ ho, H a = some ho) ∨ isCon o := by
  cases o with
  | lst ds => obtain ⟨vs, e, _⟩ := h; exact .inl ⟨_, e⟩
  | con ds => exact .inr trivial
  | dic kvs => obtain ⟨ks, e, _⟩ := h; exact .inl ⟨_, e⟩
  | sti ns => obtain ⟨S, c, e, _⟩ := h; exact .inl ⟨_, e⟩
  | obj _ _ => exact h.elim
  | frz _ => exact h.elim
theorem RepM.at (h : RepM K ad m H) {n : Nat} {a : Addr} (e : ad[n]? = some a) : ∃ o, m[n]? = some o ∧ RepO K H ad a o := by
  have hl : n < m.length := by rw [← h.len]; exact (List.getElem?_eq_some_iff.mp e).1
  exact ⟨m[n], List.getElem?_eq_getElem hl, h.obj n _ a (List.getElem?_eq_getElem hl) e⟩
/-- a new object that the mirror does not see (a tuple) -/
theorem sqT_upd {p : Addr} {o : HO} (hp : H p = none) {a : Addr} {vs : List V} (h : SqT K H a vs) : SqT K (upd H p o) a vs := by
  rcases h with (h | ⟨ob, h⟩) | h
  · exact .inl (.inl (by rw [upd_ne (ne_of_none h hp)]; exact h))
  · exact .inl (.inr ⟨ob, by rw [upd_ne (ne_of_none h hp)]; exact h⟩)
  · exact .inr h
theorem RepO.stay {a : Addr} {o : MO} (x : Ext K H ad H1 ad1) (k : ∀ ho, H a = some ho → H1 a = some ho) (h : RepO K H ad a o) : RepO K H1 ad1 a o := by
  cases o with
  | lst ds => obtain ⟨vs, e, r⟩ := h; exact ⟨vs, k _ e, RepL.mono x ds vs r⟩
  | con ds =>
    obtain ⟨vs, e, r⟩ := h
    refine ⟨vs, ?_, RepL.mono x ds vs r⟩
    rcases e with ⟨ob, e⟩ | e
    · exact .inl ⟨ob, k _ e⟩
    · exact .inr e
  | dic kvs => obtain ⟨ks, e, e2, r⟩ := h; exact ⟨ks, k _ e, e2, RepL.mono x _ _ r⟩
  | sti ns => obtain ⟨S, c, e, q⟩ := h; exact ⟨S, c, k _ e, q⟩
  | obj _ _ => exact h.elim
  | frz _ => exact h.elim
theorem ext_new {p : Addr} {o : HO} (hp : H p = none) : Ext K H ad (upd H p o) ad := ⟨List.prefix_refl _, fun a vs h => sqT_upd hp h⟩
theorem RepM.new {p : Addr} {o : HO} (h : RepM K ad m H) (hp : H p = none) : RepM K ad m (upd H p o) :=
  ⟨h.len, h.nd, fun n u a e1 e2 => (h.obj n u a e1 e2).stay (ext_new hp) fun ho h1 => by rw [upd_ne (ne_of_none h1 hp)]; exact h1⟩
/-- a new object of the mirror's -/
theorem ext_alloc {p : Addr} {o : HO} (hp : H p = none) : Ext K H ad (upd H p o) (ad ++ [p]) := ⟨List.prefix_append _ _, fun a vs h => sqT_upd hp h⟩
theorem snoc_get {α : Type} {l : List α} {x y : α} {n : Nat} (h : (l ++ [x])[n]? = some y) : l[n]? = some y ∨ (n = l.length ∧ y = x) := by
  by_cases hn : n < l.length
  · rw [List.getElem?_append_left hn] at h
    exact .inl h
  · have hl := (List.getElem?_eq_some_iff.mp h).1
    simp at hl
    have en : n = l.length := by omega
    subst en
    rw [List.getElem?_append_right (Nat.le_refl _), Nat.sub_self] at h
    exact .inr ⟨rfl, (Option.some.inj h).symm⟩
theorem RepM.alloc {p : Addr} {o : MO} {ho : HO} (h : RepM K ad m H) (hp : H p = none) (ro : RepO K (upd H p ho) (ad ++ [p]) p o) : RepM K (ad ++ [p]) (m ++ [o]) (upd H p ho) := by
  have old : ∀ (n : Nat) (u : MO), ad[n]? = some p → m[n]? = some u → isCon u := fun n u e1 e2 => by
    rcases (h.obj n u p e2 e1).at with ⟨ho, q⟩ | q
    · rw [hp] at q; cases q
    · exact q
  refine ⟨by simp [h.len], fun n k a o1 u1 e1 e2 e3 e4 ne => ?_, fun n u a e1 e2 => ?_⟩
  · rcases snoc_get e1 with f1 | ⟨f1, g1⟩
    · rcases snoc_get e2 with f2 | ⟨f2, g2⟩
      · rcases snoc_get e3 with f3 | ⟨f3, _⟩
        · rcases snoc_get e4 with f4 | ⟨f4, _⟩
          · exact h.nd n k a o1 u1 f1 f2 f3 f4 ne
          · have := (List.getElem?_eq_some_iff.mp f2).1
            rw [h.len] at this
            omega
        · have := (List.getElem?_eq_some_iff.mp f1).1
          rw [h.len] at this
          omega
      · rcases snoc_get e3 with f3 | ⟨f3, _⟩
        · exact .inl (old n o1 (by rw [← g2]; exact f1) f3)
        · have := (List.getElem?_eq_some_iff.mp f1).1
          rw [h.len] at this
          omega
    · rcases snoc_get e2 with f2 | ⟨f2, _⟩
      · rcases snoc_get e4 with f4 | ⟨f4, _⟩
        · exact .inr (old k u1 (by rw [← g1]; exact f2) f4)
        · have := (List.getElem?_eq_some_iff.mp f2).1
          rw [h.len] at this
          omega
      · omega
  · rcases snoc_get e1 with e1 | ⟨e1, e1'⟩
    · rcases snoc_get e2 with e2 | ⟨e2, _⟩
      · exact (h.obj n u a e1 e2).stay (ext_alloc hp) fun ho h1 => by rw [upd_ne (ne_of_none h1 hp)]; exact h1
      · have := (List.getElem?_eq_some_iff.mp e1).1
        rw [← h.len] at this
        omega
    · rcases snoc_get e2 with e2 | ⟨_, e2'⟩
      · have := (List.getElem?_eq_some_iff.mp e2).1
        rw [h.len] at this
        omega
      · subst e1' e2'
        exact ro
/-- an object of the mirror's is changed -/
theorem not_tup_upd {a : Addr} {o o' : HO} (ho : H a = some o) (nt : ∀ vs, o ≠ .tup vs) (nf : ∀ b u, o ≠ .frz b u) {b : Addr} {vs : List V} (h : SqT K H b vs) : SqT K (upd H a o') b vs := by
  rcases h with (h | ⟨ob, h⟩) | h
  · refine .inl (.inl ?_)
    rw [upd_ne (ne_of h ho (fun e => nt vs e.symm))]
    exact h
  · refine .inl (.inr ⟨ob, ?_⟩)
    rw [upd_ne (ne_of h ho (fun e => nf _ _ e.symm))]
    exact h
  · exact .inr h
theorem RepM.write {n : Nat} {a : Addr} {o u : HO} {mo mo0 : MO} (h : RepM K ad m H) (ea : ad[n]? = some a) (em : m[n]? = some mo0) (nc : ¬ isCon mo0) (nc' : ¬ isCon mo) (ho : H a = some o) (nt : ∀ vs, o ≠ .tup vs) (nf : ∀ b w, o ≠ .frz b w)
    (ro : Ext K H ad (upd H a u) ad → RepO K (upd H a u) ad a mo) : RepM K ad (m.set n mo) (upd H a u) ∧ Ext K H ad (upd H a u) ad := by
  have x : Ext K H ad (upd H a u) ad := ⟨List.prefix_refl _, fun b vs h => not_tup_upd ho nt nf h⟩
  have hl : n < m.length := (List.getElem?_eq_some_iff.mp em).1
  refine ⟨⟨by simp [h.len], fun i k b o1 u1 e1 e2 e3 e4 ne => ?_, fun k w b e1 e2 => ?_⟩, x⟩
  · by_cases hi : n = i
    · subst hi
      have hk : n ≠ k := ne
      rw [List.getElem?_set_ne hk] at e4
      rcases h.nd n k b mo0 u1 e1 e2 em e4 ne with q | q
      · exact absurd q nc
      · exact .inr q
    · rw [List.getElem?_set_ne hi] at e3
      by_cases hk : n = k
      · subst hk
        rcases h.nd i n b o1 mo0 e1 e2 e3 em ne with q | q
        · exact .inl q
        · exact absurd q nc
      · rw [List.getElem?_set_ne hk] at e4
        exact h.nd i k b o1 u1 e1 e2 e3 e4 ne
  · by_cases hk : n = k
    · subst hk
      rw [ea] at e2
      cases e2
      rw [List.getElem?_set_self hl] at e1
      cases e1
      exact ro x
    · rw [List.getElem?_set_ne hk] at e1
      by_cases hb : b = a
      · subst hb
        rcases h.nd n k b mo0 w ea e2 em e1 hk with q | q
        · exact absurd q nc
        · have hw := h.obj k w b e1 e2
          cases w with
          | con ds =>
            obtain ⟨vs, e, r⟩ := hw
            refine ⟨vs, ?_, RepL.mono x ds vs r⟩
            rcases e with ⟨ob, e⟩ | e
            · rw [ho] at e
              exact absurd (Option.some.inj e) (nf _ _)
            · exact .inr e
          | _ => exact q.elim
      · exact (h.obj k w b e1 e2).stay x fun ho h1 => by rw [upd_ne hb]; exact h1
theorem RepM.allocL {p : Addr} {ds : List D} {vs : List V} (h : RepM K ad m H) (hp : H p = none) (r : RepL K H ad ds vs) : RepM K (ad ++ [p]) (m ++ [.lst ds]) (upd H p (.lst vs)) :=
  h.alloc hp ⟨vs, upd_same, RepL.mono (ext_alloc hp) ds vs r⟩
theorem RepM.writeL {n : Nat} {a : Addr} {ds0 ds : List D} {vs0 vs : List V} (h : RepM K ad m H) (ea : ad[n]? = some a) (em : m[n]? = some (.lst ds0)) (ho : H a = some (.lst vs0)) (r : RepL K H ad ds vs) :
    RepM K ad (m.set n (.lst ds)) (upd H a (.lst vs)) ∧ Ext K H ad (upd H a (.lst vs)) ad :=
  h.write ea em (fun z => z) (fun z => z) ho (by intro vs h; cases h) (by intro b u h; cases h) fun x => ⟨vs, upd_same, RepL.mono x ds vs r⟩
theorem RepM.obj' (h : RepM K ad m H) {n : Nat} {o : MO} (e : m[n]? = some o) : ∃ a, ad[n]? = some a ∧ RepO K H ad a o := by
  have hl : n < ad.length := by rw [h.len]; exact (List.getElem?_eq_some_iff.mp e).1
  exact ⟨ad[n], List.getElem?_eq_getElem hl, h.obj n o ad[n] e (List.getElem?_eq_getElem hl)⟩
end

/-! ## the judgements -/
section
variable (K : PySem.W.Frag) (cl : String → Addr) (W : WX)
def OkQ (H : Hp) (ad : List Addr) (Q : VK) (d : D) (m : Mem) : Prop := ∀ ad' H' v, Ext K H ad H' ad' → RepM K ad' m H' → RepD K H' ad' d v → Q v H'
def OkL (H : Hp) (ad : List Addr) (Q : List V → Hp → Prop) (ds : List D) (m : Mem) : Prop := ∀ ad' H' vs, Ext K H ad H' ad' → RepM K ad' m H' → RepL K H' ad' ds vs → Q vs H'
def OkB (H : Hp) (ad : List Addr) (Q : Bool → Hp → Prop) (b : Bool) (m : Mem) : Prop := ∀ ad' H', Ext K H ad H' ad' → RepM K ad' m H' → Q b H'
def OkX (σ : St) (H : Hp) (ad : List Addr) (c : String) (m : Mem) : Prop := ∀ ad' H', Ext K H ad H' ad' → RepM K ad' m H' → W (.ref (cl c)) none σ H'
def Fin (σ : St) (H : Hp) (ad : List Addr) {α : Type} (P : α → Mem → Prop) : Res α → Prop
  | .ok d m => P d m
  | .exc c m => OkX K cl W σ H ad c m
  | .bad => False
def OkF (H : Hp) (ad : List Addr) (D : Ends) (f : Fl) (r : Env) (m : Mem) : Prop := ∀ ad' H' σ', Ext K H ad H' ad' → RepM K ad' m H' → RepE K H' ad' r σ' →
  match f with
  | .nx => D.nx σ' H'
  | .rt d => ∀ v, RepD K H' ad' d v → D.rt v H'
  | .bk => D.bk σ' H'
  | .ct => D.ct σ' H'
def FinS (H : Hp) (ad : List Addr) (D : Ends) : SRes → Prop
  | .ok f r m => OkF K H ad D f r m
  | .exc c r m => ∀ ad' H' σ', Ext K H ad H' ad' → RepM K ad' m H' → RepE K H' ad' r σ' → W (.ref (cl c)) none σ' H'
  | .bad => False
def St0 (σ : St) (H : Hp) (P : List Addr → Env → Mem → Prop) : Prop := ∃ ad r m, RepM K ad m H ∧ RepE K H ad r σ ∧ P ad r m
def tE (f : FE) : TE := fun σ H Q => St0 K σ H fun ad r m => Fin K cl W σ H ad (OkQ K H ad Q) (f r m)
def tT (f : FT) : TT := fun σ H Q => St0 K σ H fun ad r m => Fin K cl W σ H ad (OkB K H ad Q) (f r m)
def tA (f : FA) : TA := fun σ H Q => St0 K σ H fun ad r m => Fin K cl W σ H ad (OkL K H ad Q) (f r m)
def tS (f : FS) : TS := fun D σ H => St0 K σ H fun ad r m => FinS K cl W H ad D (f r m)
/-- a def's promise: it does what its mirror does -/
def spF (F : Fn) : Sp := fun vs H Q E => ∃ ad m ds, RepM K ad m H ∧ RepL K H ad ds vs ∧
  match F ds m with
  | .ok d m' => OkQ K H ad Q d m'
  | .exc c m' => ∀ ad' H', Ext K H ad H' ad' → RepM K ad' m' H' → E (.ref (cl c)) none H'
  | .bad => False
end
abbrev DE (X : Cx) (cl : String → Addr) (W : WX) (e : Expr) (f : FE) : Prop := PE X e (tE X.K cl W f)
abbrev DT (X : Cx) (cl : String → Addr) (W : WX) (e : Expr) (f : FT) : Prop := PT X e (tT X.K cl W f)
abbrev DA (X : Cx) (cl : String → Addr) (W : WX) (es : List Expr) (f : FA) : Prop := PA X es (tA X.K cl W f)
abbrev DS (X : Cx) (cl : String → Addr) (W : WX) (s : Stmt) (f : FS) : Prop := PS X s (tS X.K cl W f)
abbrev DSs (X : Cx) (cl : String → Addr) (W : WX) (s : List Stmt) (f : FS) : Prop := PSs X s (tS X.K cl W f)

theorem PE.imp {X : Cx} {e : Expr} {t t' : TE} (h : PE X e t) (i : ∀ σ H Q, t' σ H Q → t σ H Q) : PE X e t' := ⟨fun pins s σ H Q I q => h.run pins s σ H Q I (i _ _ _ q)⟩
theorem PT.imp {X : Cx} {e : Expr} {t t' : TT} (h : PT X e t) (i : ∀ σ H Q, t' σ H Q → t σ H Q) : PT X e t' := ⟨fun pins s σ H Q I q => h.run pins s σ H Q I (i _ _ _ q)⟩
theorem PA.imp {X : Cx} {e : List Expr} {t t' : TA} (h : PA X e t) (i : ∀ σ H Q, t' σ H Q → t σ H Q) : PA X e t' := ⟨fun pos pins s σ H Q I q => h.run pos pins s σ H Q I (i _ _ _ q)⟩
theorem PS.imp {X : Cx} {e : Stmt} {t t' : TS} (h : PS X e t) (i : ∀ σ H Q, t' Q σ H → t Q σ H) : PS X e t' := ⟨fun pins s σ H Q I q => h.run pins s σ H Q I (i _ _ _ q)⟩
theorem PSs.imp {X : Cx} {e : List Stmt} {t t' : TS} (h : PSs X e t) (i : ∀ σ H Q, t' Q σ H → t Q σ H) : PSs X e t' := ⟨fun pins s σ H Q I q => h.run pins s σ H Q I (i _ _ _ q)⟩

section
variable {K : PySem.W.Frag} {cl : String → Addr} {W : WX} {σ : St} {H H1 : Hp} {ad ad1 : List Addr}
theorem OkQ.mono {Q : VK} (x : Ext K H ad H1 ad1) {d : D} {m : Mem} (h : OkQ K H ad Q d m) : OkQ K H1 ad1 Q d m := fun ad' H' v y => h ad' H' v (x.trans y)
theorem OkL.mono {Q : List V → Hp → Prop} (x : Ext K H ad H1 ad1) {d : List D} {m : Mem} (h : OkL K H ad Q d m) : OkL K H1 ad1 Q d m := fun ad' H' v y => h ad' H' v (x.trans y)
theorem OkB.mono {Q : Bool → Hp → Prop} (x : Ext K H ad H1 ad1) {d : Bool} {m : Mem} (h : OkB K H ad Q d m) : OkB K H1 ad1 Q d m := fun ad' H' y => h ad' H' (x.trans y)
theorem OkX.mono (x : Ext K H ad H1 ad1) {c : String} {m : Mem} (h : OkX K cl W σ H ad c m) : OkX K cl W σ H1 ad1 c m := fun ad' H' y => h ad' H' (x.trans y)
theorem OkF.mono {D : Ends} (x : Ext K H ad H1 ad1) {f : Fl} {r : Env} {m : Mem} (h : OkF K H ad D f r m) : OkF K H1 ad1 D f r m := fun ad' H' σ' y => h ad' H' σ' (x.trans y)
theorem Fin.mono {α : Type} {P P' : α → Mem → Prop} (x : Ext K H ad H1 ad1) (hp : ∀ a m, P a m → P' a m) {r : Res α} (h : Fin K cl W σ H ad P r) : Fin K cl W σ H1 ad1 P' r := by
  cases r with
  | ok a m => exact hp a m h
  | exc c m => exact OkX.mono x h
  | bad => exact h
theorem FinS.mono {D : Ends} (x : Ext K H ad H1 ad1) {r : SRes} (h : FinS K cl W H ad D r) : FinS K cl W H1 ad1 D r := by
  cases r with
  | ok f r m => exact OkF.mono x h
  | exc c r m => exact fun ad' H' σ' y => h ad' H' σ' (x.trans y)
  | bad => exact h
/-- behind one expression: the rest -/
theorem fin_bind {α β : Type} {r : Res α} {g : α → Mem → Res β} {P : β → Mem → Prop} (h : Fin K cl W σ H ad P (r.bind g)) : Fin K cl W σ H ad (fun a m => Fin K cl W σ H ad P (g a m)) r := by
  cases r with
  | ok a m => exact h
  | exc c m => exact h
  | bad => exact h
theorem Fin.imp {α : Type} {P P' : α → Mem → Prop} {r : Res α} (h : Fin K cl W σ H ad P r) (i : ∀ a m, P a m → P' a m) : Fin K cl W σ H ad P' r := Fin.mono Ext.refl i h
end
end Mi

end

section
set_option Elab.async false
set_option linter.all false
set_option maxRecDepth 100000
set_option maxHeartbeats 4000000
namespace Mi
open PySem PySem.Spec L2
open PyProof.Rows hiding St

/-! ## operations on data, without exceptions -/
abbrev G1 := D → Mem → Option (D × Mem)
abbrev G2 := D → D → Mem → Option (D × Mem)
abbrev GN := List D → Mem → Option (D × Mem)
def lft (o : Option (D × Mem)) : Res D := match o with
  | some (d, m) => .ok d m
  | none => .bad
def op1 (f : FE) (g : G1) : FE := fun r m => (f r m).bind fun x m1 => lft (g x m1)
def op2 (fa fb : FE) (g : G2) : FE := fun r m => (fa r m).bind fun x m1 => (fb r m1).bind fun y m2 => lft (g x y m2)
def opN (fa : FA) (g : GN) : FE := fun r m => (fa r m).bind fun xs m1 => lft (g xs m1)
def nilA : FA := fun _ m => .ok [] m
def consA (f : FE) (g : FA) : FA := fun r m => (f r m).bind fun x m1 => (g r m1).bind fun xs m2 => .ok (x :: xs) m2
def varE (i : Nat) : FE := fun r m => match r[i]? with
  | some (some d) => .ok d m
  | _ => .bad
def cstE (d : D) : FE := fun _ m => .ok d m
def valT (f : FE) : FT := fun r m => (f r m).bind fun d m1 => match d with
  | .bl b => .ok b m1
  | _ => .bad
def notT (f : FT) : FT := fun r m => (f r m).bind fun b m1 => .ok (!b) m1
def andT (f g : FT) : FT := fun r m => (f r m).bind fun b m1 => if b then g r m1 else .ok false m1
def orT (f g : FT) : FT := fun r m => (f r m).bind fun b m1 => if b then .ok true m1 else g r m1
def ifE (c : FT) (f g : FE) : FE := fun r m => (c r m).bind fun b m1 => if b then f r m1 else g r m1
def andV (f g : FE) : FE := fun r m => (f r m).bind fun d m1 => match d with
  | .bl b => if b then g r m1 else .ok (.bl false) m1
  | _ => .bad
def orV (f g : FE) : FE := fun r m => (f r m).bind fun d m1 => match d with
  | .bl b => if b then .ok (.bl true) m1 else g r m1
  | _ => .bad
def notV (f : FE) : FE := fun r m => (f r m).bind fun d m1 => match d with
  | .bl b => .ok (.bl (!b)) m1
  | _ => .bad

section
variable (K : PySem.W.Frag)
/-- what an operation's reading asks -/
def rD1 (g : G1) : V → Hp → VK → Prop := fun x H Q => ∃ ad m dx, RepM K ad m H ∧ RepD K H ad dx x ∧ ∃ d m', g dx m = some (d, m') ∧ OkQ K H ad Q d m'
def rD2 (g : G2) : R2 := fun x y H Q => ∃ ad m dx dy, RepM K ad m H ∧ RepD K H ad dx x ∧ RepD K H ad dy y ∧ ∃ d m', g dx dy m = some (d, m') ∧ OkQ K H ad Q d m'
def rDN (g : GN) : List V → Hp → VK → Prop := fun xs H Q => ∃ ad m ds, RepM K ad m H ∧ RepL K H ad ds xs ∧ ∃ d m', g ds m = some (d, m') ∧ OkQ K H ad Q d m'
end
section
variable {K : PySem.W.Frag} {cl : String → Addr} {W : WX} {σ : St} {H : Hp} {ad : List Addr} {m : Mem}
theorem fin_lft {P : D → Mem → Prop} {o : Option (D × Mem)} (h : Fin K cl W σ H ad P (lft o)) : ∃ d m', o = some (d, m') ∧ P d m' := by
  cases o with
  | none => exact h.elim
  | some p => exact ⟨p.1, p.2, rfl, h⟩
/-- behind one expression, at its end -/
theorem fin_go {α : Type} {f : FE} {r : Env} {P : α → Mem → Prop} {g : D → Mem → Res α} (re : RepE K H ad r σ) {R : V → Hp → Prop}
    (h : Fin K cl W σ H ad P ((f r m).bind g))
    (k : ∀ ad1 H1 m1 x v, Ext K H ad H1 ad1 → RepM K ad1 m1 H1 → RepE K H1 ad1 r σ → RepD K H1 ad1 x v → Fin K cl W σ H ad P (g x m1) → R v H1) :
    Fin K cl W σ H ad (OkQ K H ad R) (f r m) :=
  (fin_bind h).imp fun x m1 h1 ad1 H1 v x1 rm rd => k ad1 H1 m1 x v x1 rm (RepE.mono x1 re) rd h1
theorem tE_go {α : Type} {f : FE} {r : Env} {P : α → Mem → Prop} {g : D → Mem → Res α} (rm : RepM K ad m H) (re : RepE K H ad r σ) {R : V → Hp → Prop}
    (h : Fin K cl W σ H ad P ((f r m).bind g))
    (k : ∀ ad1 H1 m1 x v, Ext K H ad H1 ad1 → RepM K ad1 m1 H1 → RepE K H1 ad1 r σ → RepD K H1 ad1 x v → Fin K cl W σ H ad P (g x m1) → R v H1) :
    tE K cl W f σ H R := ⟨ad, r, m, rm, re, fin_go re h k⟩
theorem tT_go {α : Type} {f : FT} {r : Env} {P : α → Mem → Prop} {g : Bool → Mem → Res α} (rm : RepM K ad m H) (re : RepE K H ad r σ) {R : Bool → Hp → Prop}
    (h : Fin K cl W σ H ad P ((f r m).bind g))
    (k : ∀ ad1 H1 m1 b, Ext K H ad H1 ad1 → RepM K ad1 m1 H1 → RepE K H1 ad1 r σ → Fin K cl W σ H ad P (g b m1) → R b H1) :
    tT K cl W f σ H R := ⟨ad, r, m, rm, re, (fin_bind h).imp fun b m1 h1 ad1 H1 x1 rm => k ad1 H1 m1 b x1 rm (RepE.mono x1 re) h1⟩
theorem tA_go {α : Type} {f : FA} {r : Env} {P : α → Mem → Prop} {g : List D → Mem → Res α} (rm : RepM K ad m H) (re : RepE K H ad r σ) {R : List V → Hp → Prop}
    (h : Fin K cl W σ H ad P ((f r m).bind g))
    (k : ∀ ad1 H1 m1 x v, Ext K H ad H1 ad1 → RepM K ad1 m1 H1 → RepE K H1 ad1 r σ → RepL K H1 ad1 x v → Fin K cl W σ H ad P (g x m1) → R v H1) :
    tA K cl W f σ H R := ⟨ad, r, m, rm, re, (fin_bind h).imp fun x m1 h1 ad1 H1 v x1 rm rd => k ad1 H1 m1 x v x1 rm (RepE.mono x1 re) rd h1⟩
theorem tE_one {f : FE} {g : G1} {Q : VK} (h : tE K cl W (op1 f g) σ H Q) : tE K cl W f σ H fun x H1 => rD1 K g x H1 Q := by
  obtain ⟨ad, r, m, rm, re, h⟩ := h
  refine tE_go rm re h fun ad1 H1 m1 x v x1 rm1 re1 rd h1 => ?_
  obtain ⟨d, m', e, q⟩ := fin_lft h1
  exact ⟨ad1, m1, x, rm1, rd, d, m', e, OkQ.mono x1 q⟩
theorem tE_two {fa fb : FE} {g : G2} {Q : VK} (h : tE K cl W (op2 fa fb g) σ H Q) : tE K cl W fa σ H fun x H1 => tE K cl W fb σ H1 fun y H2 => rD2 K g x y H2 Q := by
  obtain ⟨ad, r, m, rm, re, h⟩ := h
  refine tE_go rm re h fun ad1 H1 m1 x v x1 rm1 re1 rd h1 => ?_
  refine tE_go rm1 re1 (Fin.mono x1 (fun _ _ q => OkQ.mono x1 q) h1) fun ad2 H2 m2 y u x2 rm2 re2 rd2 h2 => ?_
  obtain ⟨d, m', e, q⟩ := fin_lft h2
  exact ⟨ad2, m2, x, y, rm2, RepD.mono x2 x v rd, rd2, d, m', e, OkQ.mono x2 q⟩
theorem tA_N {fa : FA} {g : GN} {Q : VK} (h : tE K cl W (opN fa g) σ H Q) : tA K cl W fa σ H fun xs H1 => rDN K g xs H1 Q := by
  obtain ⟨ad, r, m, rm, re, h⟩ := h
  refine tA_go rm re h fun ad1 H1 m1 x v x1 rm1 re1 rd h1 => ?_
  obtain ⟨d, m', e, q⟩ := fin_lft h1
  exact ⟨ad1, m1, x, rm1, rd, d, m', e, OkQ.mono x1 q⟩
end

section
variable {X : Cx} {cl : String → Addr} {W : WX} {a b c e : Expr} {es : List Expr} {fa fb : FE} {fs : FA} {pos : Pos}

/-! ## names, constants, arguments -/
theorem dvar (i : Nat) {x : Str} (hN : X.N[i]? = some x := by rfl) (hv : Vis X.env.scope x := by first | exact Or.inl rfl | exact Or.inr (Or.inl rfl) | exact Or.inr (Or.inr rfl)) (hd : (x == ("__debug__" : Str)) = false := by decide)
    (hcd : (x == ("__classdict__" : Str)) = false := by decide) : DE X cl W (.Name x pos) (varE i) := by
  refine PE.imp (pe_var hN hv hd hcd) fun σ H Q h => ?_
  obtain ⟨ad, r, m, rm, re, h⟩ := h
  unfold varE at h
  split at h
  · rename_i d e
    obtain ⟨v, e1, e2⟩ := re.2 i d e
    exact ⟨v, e1, h ad H v Ext.refl rm e2⟩
  · exact h.elim
theorem dcst {d : D} {v : V} (he : PE X e (tC v)) (r : ∀ H ad, RepD X.K H ad d v) : DE X cl W e (cstE d) := by
  refine PE.imp he fun σ H Q h => ?_
  obtain ⟨ad, r', m, rm, re, h⟩ := h
  exact h ad H v Ext.refl rm (r _ _)
theorem dint {i : Int} {j pos} : DE X cl W (.Constant (.int i) j pos) (cstE (.int i)) := dcst pe_int fun _ _ => rfl
theorem dbl {b : Bool} {j pos} : DE X cl W (.Constant (.bool b) j pos) (cstE (.bl b)) := dcst pe_bl fun _ _ => rfl
theorem dnon {j pos} : DE X cl W (.Constant .none j pos) (cstE .non) := dcst pe_non fun _ _ => rfl
theorem dstr {x : Str} {j pos} : DE X cl W (.Constant (.str x) j pos) (cstE (.str x)) := dcst pe_str fun _ _ => rfl
theorem dnil : DA X cl W [] nilA := by
  refine PA.imp pa_nil fun σ H Q h => ?_
  obtain ⟨ad, r, m, rm, re, h⟩ := h
  exact h ad H [] Ext.refl rm rfl
theorem dcons (ha : DE X cl W e fa) (hr : DA X cl W es fs) (hs : starEach (e :: es) X.env = (false, eval e X.env) :: starEach es X.env := by rfl) : DA X cl W (e :: es) (consA fa fs) := by
  refine PA.imp (pa_cons ha hr hs) fun σ H Q h => ?_
  obtain ⟨ad, r, m, rm, re, h⟩ := h
  refine tE_go rm re h fun ad1 H1 m1 x v x1 rm1 re1 rd h1 => ?_
  refine tA_go rm1 re1 (Fin.mono x1 (fun _ _ q => OkL.mono x1 q) h1) fun ad2 H2 m2 y u x2 rm2 re2 rd2 h2 => ?_
  exact h2 ad2 H2 (v :: u) x2 rm2 ⟨v, u, rfl, RepD.mono x2 x v rd, rd2⟩

/-! ## operators by their rules -/
theorem dop {op : Operator} {g : G2} (ho : OpR X (binaryOp op) (rD2 X.K g)) (ha : DE X cl W a fa) (hb : DE X cl W b fb) : DE X cl W (.BinOp a op b pos) (op2 fa fb g) := PE.imp (pe_op ho ha hb) fun _ _ _ h => tE_two h
theorem dun {op : UnaryOp} {g : G1} (ho : UnR X (unaryOp op) (rD1 X.K g)) (ha : DE X cl W a fa) : DE X cl W (.UnaryOp op a pos) (op1 fa g) := PE.imp (pe_un ho ha) fun _ _ _ h => tE_one h
theorem dcmp {op : CmpOp} {g : G2} (ho : OpR X (compareOp op) (rD2 X.K g)) (ha : DE X cl W a fa) (hb : DE X cl W b fb) (hm : behindInMarks op b = false := by first | exact nomark _ | rfl) : DE X cl W (.Compare a [op] [b] pos) (op2 fa fb g) :=
  PE.imp (pe_cmpR ho ha hb hm) fun _ _ _ h => tE_two h
theorem tT_val {K : PySem.W.Frag} {σ : St} {H : Hp} {f : FE} {Q : Bool → Hp → Prop} (h : tT K cl W (valT f) σ H Q) : tE K cl W f σ H fun x H' => ∃ k, x = .bl k ∧ Q k H' := by
  obtain ⟨ad, r, m, rm, re, h⟩ := h
  refine tE_go rm re h fun ad1 H1 m1 x v x1 rm1 re1 rd h1 => ?_
  cases x with
  | bl k =>
    cases (show v = .bl k from rd)
    exact ⟨k, rfl, h1 ad1 H1 x1 rm1⟩
  | _ => exact h1.elim
theorem dtcmp {op : CmpOp} {g : G2} (ho : OpR X (compareOp op) (rD2 X.K g)) (ha : DE X cl W a fa) (hb : DE X cl W b fb) (hm : behindInMarks op b = false := by first | exact nomark _ | rfl) : DT X cl W (.Compare a [op] [b] pos) (valT (op2 fa fb g)) :=
  PT.imp (pt_cmpR ho ha hb hm) fun σ H Q h => by
    obtain ⟨ad, r, m, rm, re, h⟩ := h
    have h' : tE X.K cl W (op2 fa fb g) σ H fun x H' => ∃ k, x = .bl k ∧ Q k H' := tT_val ⟨ad, r, m, rm, re, h⟩
    exact tE_two h'
/-- an expression whose value is True or False, as a test -/
theorem dtval (h : DE X cl W e fa) (he : ∀ whole, isTrue e X.env whole = (do let v ← whole; standAt e.pos; holding [v] (truthy v)) := by intro _; rfl) : DT X cl W e (valT fa) := PT.imp (pt_val h he) fun _ _ _ h => tT_val h
theorem dtnot {f : FT} (h : DT X cl W a f) : DT X cl W (.UnaryOp .Not a pos) (notT f) := PT.imp (pt_not h) fun σ H Q h => by
  obtain ⟨ad, r, m, rm, re, h⟩ := h
  exact tT_go rm re h fun ad1 H1 m1 b x1 rm1 re1 h1 => h1 ad1 H1 x1 rm1
abbrev DW (X : Cx) (cl : String → Addr) (W : WX) (e : Expr) (f : FT) : Prop := PW X e (tT X.K cl W f)
theorem PW.imp {e : Expr} {t t' : TT} (h : PW X e t) (i : ∀ σ H Q, t' σ H Q → t σ H Q) : PW X e t' := ⟨fun wh pins s σ H Q I q => h.run wh pins s σ H Q I (i _ _ _ q)⟩
theorem dwand1 {f : FT} (h : DT X cl W a f) : DW X cl W (.BoolOp .And [a] pos) f := pw_and1 h
theorem dwor1 {f : FT} (h : DT X cl W a f) : DW X cl W (.BoolOp .Or [a] pos) f := pw_or1 h
theorem dwand {f g : FT} {rest : List Expr} (ha : DT X cl W a f) (hb : DW X cl W (.BoolOp .And (b :: rest) pos) g) : DW X cl W (.BoolOp .And (a :: b :: rest) pos) (andT f g) := PW.imp (pw_and ha hb) fun σ H Q h => by
  obtain ⟨ad, r, m, rm, re, h⟩ := h
  refine tT_go rm re h fun ad1 H1 m1 b x1 rm1 re1 h1 => ?_
  cases b with
  | true => exact iteT ⟨ad1, r, m1, rm1, re1, Fin.mono x1 (fun _ _ q => OkB.mono x1 q) h1⟩
  | false => exact iteF (h1 ad1 H1 x1 rm1)
theorem dwor {f g : FT} {rest : List Expr} (ha : DT X cl W a f) (hb : DW X cl W (.BoolOp .Or (b :: rest) pos) g) : DW X cl W (.BoolOp .Or (a :: b :: rest) pos) (orT f g) := PW.imp (pw_or ha hb) fun σ H Q h => by
  obtain ⟨ad, r, m, rm, re, h⟩ := h
  refine tT_go rm re h fun ad1 H1 m1 b x1 rm1 re1 h1 => ?_
  cases b with
  | true => exact iteT (h1 ad1 H1 x1 rm1)
  | false => exact iteF ⟨ad1, r, m1, rm1, re1, Fin.mono x1 (fun _ _ q => OkB.mono x1 q) h1⟩
theorem dtw {f : FT} (h : DW X cl W e f) : DT X cl W e f := PW.pt h
/-- and, or, not as values (True, False) -/
theorem dvone {op} (h : DE X cl W a fa) : DE X cl W (.BoolOp op [a] pos) fa := pe_one h
theorem dvand {rest : List Expr} (ha : DE X cl W a fa) (hb : DE X cl W (.BoolOp .And (b :: rest) pos) fb) : DE X cl W (.BoolOp .And (a :: b :: rest) pos) (andV fa fb) := PE.imp (pe_and ha hb) fun σ H Q h => by
  obtain ⟨ad, r, m, rm, re, h⟩ := h
  refine tE_go rm re h fun ad1 H1 m1 x v x1 rm1 re1 rd h1 => ?_
  cases x with
  | bl k =>
    cases (show v = .bl k from rd)
    refine ⟨k, rfl, ?_⟩
    cases k with
    | true => exact iteT ⟨ad1, r, m1, rm1, re1, Fin.mono x1 (fun _ _ q => OkQ.mono x1 q) h1⟩
    | false => exact iteF (h1 ad1 H1 _ x1 rm1 rfl)
  | _ => exact h1.elim
theorem dvor {rest : List Expr} (ha : DE X cl W a fa) (hb : DE X cl W (.BoolOp .Or (b :: rest) pos) fb) : DE X cl W (.BoolOp .Or (a :: b :: rest) pos) (orV fa fb) := PE.imp (pe_or ha hb) fun σ H Q h => by
  obtain ⟨ad, r, m, rm, re, h⟩ := h
  refine tE_go rm re h fun ad1 H1 m1 x v x1 rm1 re1 rd h1 => ?_
  cases x with
  | bl k =>
    cases (show v = .bl k from rd)
    refine ⟨k, rfl, ?_⟩
    cases k with
    | true => exact iteT (h1 ad1 H1 _ x1 rm1 rfl)
    | false => exact iteF ⟨ad1, r, m1, rm1, re1, Fin.mono x1 (fun _ _ q => OkQ.mono x1 q) h1⟩
  | _ => exact h1.elim
theorem dvnot (h : DE X cl W a fa) : DE X cl W (.UnaryOp .Not a pos) (notV fa) := PE.imp (pe_not h) fun σ H Q h => by
  obtain ⟨ad, r, m, rm, re, h⟩ := h
  refine tE_go rm re h fun ad1 H1 m1 x v x1 rm1 re1 rd h1 => ?_
  cases x with
  | bl k =>
    cases (show v = .bl k from rd)
    exact ⟨k, rfl, h1 ad1 H1 _ x1 rm1 rfl⟩
  | _ => exact h1.elim
theorem dife {f : FT} (hc : DT X cl W c f) (ha : DE X cl W a fa) (hb : DE X cl W b fb) : DE X cl W (.IfExp c a b pos) (ifE f fa fb) := PE.imp (pe_ifExp hc ha hb) fun σ H Q h => by
  obtain ⟨ad, r, m, rm, re, h⟩ := h
  refine tT_go rm re h fun ad1 H1 m1 b x1 rm1 re1 h1 => ?_
  cases b with
  | true => exact iteT ⟨ad1, r, m1, rm1, re1, Fin.mono x1 (fun _ _ q => OkQ.mono x1 q) h1⟩
  | false => exact iteF ⟨ad1, r, m1, rm1, re1, Fin.mono x1 (fun _ _ q => OkQ.mono x1 q) h1⟩

/-! ## ints -/
def int2 (g : Int → Int → D) (c : Int → Int → Bool) : G2 := fun x y m => match x, y with
  | .int i, .int j => if c i j = true then some (g i j, m) else none
  | _, _ => none
theorem rD2_int {K : PySem.W.Frag} {g : Int → Int → D} {c : Int → Int → Bool} {x y : V} {H : Hp} {Q : VK} (h : rD2 K (int2 g c) x y H Q) (gv : Int → Int → V) (hg : ∀ i j H ad, RepD K H ad (g i j) (gv i j)) :
    ∃ i j, x = .int i ∧ y = .int j ∧ c i j = true ∧ Q (gv i j) H := by
  obtain ⟨ad, m, dx, dy, rm, rx, ry, d, m', e, q⟩ := h
  unfold int2 at e
  split at e
  · rename_i i j
    split at e
    · cases e
      exact ⟨i, j, rx, ry, by assumption, q ad H _ Ext.refl rm (hg i j H ad)⟩
    · cases e
  · cases e
theorem oimp {f : Value → Value → Sem Value} {r r' : R2} (h : OpR X f r) (i : ∀ x y H Q, r' x y H Q → r x y H Q) : OpR X f r' := fun pins s σ H x y v u Q I rx ry q => h pins s σ H x y v u Q I rx ry (i _ _ _ _ q)
abbrev cmul (i j : Int) : Bool := decide (i.natAbs.log2 + j.natAbs.log2 < 1000000)
abbrev cdiv (i j : Int) : Bool := decide (j ≠ 0) && !Builtin.divisionGoesByPylong i j
abbrev cmod (_ j : Int) : Bool := decide (j ≠ 0)
abbrev cpow (i j : Int) : Bool := decide (0 ≤ j ∧ j ≤ 1000000 ∧ i.natAbs < 2 ^ 64)
def subG : G2 := int2 (fun i j => .int (i - j)) fun _ _ => true
def mulG : G2 := int2 (fun i j => .int (i * j)) cmul
def fdivG : G2 := int2 (fun i j => .int (i.fdiv j)) cdiv
def modG : G2 := int2 (fun i j => .int (i.fmod j)) cmod
def powG : G2 := int2 (fun i j => .int (i ^ j.toNat)) cpow
theorem o_sub : OpR X (binaryOp .Sub) (rD2 X.K subG) := oimp op_sub fun x y H Q h => by
  obtain ⟨i, j, e1, e2, _, q⟩ := rD2_int h (fun i j => .int (i - j)) fun _ _ _ _ => rfl
  exact ⟨i, j, e1, e2, q⟩
theorem o_mul : OpR X (binaryOp .Mult) (rD2 X.K mulG) := oimp op_mulW fun x y H Q h => by
  obtain ⟨i, j, e1, e2, hc, q⟩ := rD2_int h (fun i j => .int (i * j)) fun _ _ _ _ => rfl
  exact ⟨i, j, e1, e2, of_decide_eq_true (p := i.natAbs.log2 + j.natAbs.log2 < 1000000) hc, q⟩
theorem op_fdivA : OpR X (binaryOp .FloorDiv) (rI (fun i j => j ≠ 0 ∧ Builtin.divisionGoesByPylong i j = false) fun i j => .int (i.fdiv j)) := opI fun i j _ _ _ _ _ hc q => floordiv_int hc.1 q (.inl hc.2)
theorem o_fdiv : OpR X (binaryOp .FloorDiv) (rD2 X.K fdivG) := oimp op_fdivA fun x y H Q h => by
  obtain ⟨i, j, e1, e2, hc, q⟩ := rD2_int h (fun i j => .int (i.fdiv j)) fun _ _ _ _ => rfl
  simp only [cdiv, Bool.and_eq_true, decide_eq_true_eq, Bool.not_eq_true'] at hc
  exact ⟨i, j, e1, e2, hc, q⟩
theorem o_mod : OpR X (binaryOp .Mod) (rD2 X.K modG) := oimp op_modN fun x y H Q h => by
  obtain ⟨i, j, e1, e2, hc, q⟩ := rD2_int h (fun i j => .int (i.fmod j)) fun _ _ _ _ => rfl
  exact ⟨i, j, e1, e2, of_decide_eq_true (p := j ≠ 0) hc, q⟩
theorem o_pow : OpR X (binaryOp .Pow) (rD2 X.K powG) := oimp op_pow fun x y H Q h => by
  obtain ⟨i, j, e1, e2, hc, q⟩ := rD2_int h (fun i j => .int (i ^ j.toNat)) fun _ _ _ _ => rfl
  exact ⟨i, j, e1, e2, of_decide_eq_true (p := 0 ≤ j ∧ j ≤ 1000000 ∧ i.natAbs < 2 ^ 64) hc, q⟩
def negG : G1 := fun x m => match x with
  | .int i => some (.int (-i), m)
  | _ => none
theorem o_neg : UnR X (unaryOp .USub) (rD1 X.K negG) := fun pins s σ H x v Q I rx h => by
  obtain ⟨ad, m, dx, rm, rd, d, m', e, q⟩ := h
  cases dx with
  | int i =>
    cases e
    exact un_neg pins s σ H x v Q I rx ⟨i, rd, q ad H _ Ext.refl rm rfl⟩
  | _ => cases e

/-! ## calls of built-ins by values -/
def cimp {f : Value} {r r' : List V → Hp → VK → Prop} (h : CallR X f r) (i : ∀ xs H Q, r' xs H Q → r xs H Q) : CallR X f r' := fun pins s σ H xs us Q I rx q => h pins s σ H xs us Q I rx (i _ _ _ q)
theorem dcallB {id : String} {x : Str} {p : Pos} {g : GN} (hc : CallR X (.builtin id) (rDN X.K g)) (hg : Gl X x) (hm : X.mg x = none) (hv : bootBuiltins x = some (.builtin id)) (ha : DA X cl W (e :: es) fs) (hn : x ≠ "__name__" := by decide) (hdb : (x == ("__debug__" : Str)) = false := by decide)
    (he : starEach (e :: es) X.env = (false, eval e X.env) :: starEach es X.env := by rfl) (hpl : (backTo pos (starEach es X.env)).any (·.1) = false := by rfl) :
    DE X cl W (.Call (.Name x p) (e :: es) [] pos) (opN fs g) := PE.imp (pe_callB hc hg hm hv ha hn hdb he hpl) fun _ _ _ h => tA_N h
theorem dcallTy {T : String} {x : Str} {p : Pos} {g : GN} (hc : CallR X (.type T) (rDN X.K g)) (hg : Gl X x) (hm : X.mg x = none) (hv : bootBuiltins x = some (.type T)) (ha : DA X cl W (e :: es) fs) (hn : x ≠ "__name__" := by decide) (hdb : (x == ("__debug__" : Str)) = false := by decide)
    (he : starEach (e :: es) X.env = (false, eval e X.env) :: starEach es X.env := by rfl) (hpl : (backTo pos (starEach es X.env)).any (·.1) = false := by rfl) :
    DE X cl W (.Call (.Name x p) (e :: es) [] pos) (opN fs g) := PE.imp (pe_callTy hc hg hm hv ha hn hdb he hpl) fun _ _ _ h => tA_N h
end
end Mi

end

section
set_option Elab.async false
set_option linter.all false
set_option maxRecDepth 100000
set_option maxHeartbeats 4000000
namespace Mi
open PySem PySem.Spec L2
open PyProof.Rows hiding St

/-! ## data as a whole -/
mutual
def D.pd : D → PyData
  | .non => .none
  | .bl b => .bool b
  | .int i => .int i
  | .str s => .str s
  | .tup ds => .tuple (D.pdL ds)
  | .ref _ => .dict []
  | .exn _ => .dict []
def D.pdL : List D → List PyData
  | [] => []
  | d :: ds => d.pd :: D.pdL ds
end
def itemsOf (m : Mem) (n : Nat) : Option (List D) := match m[n]? with
  | some (.lst ds) => some ds
  | some (.con ds) => some ds
  | _ => none
def pdM (m : Mem) : D → PyData
  | .ref n => match itemsOf m n with
    | some ds => .list (D.pdL ds)
    | none => .dict []
  | d => d.pd
section
variable {K : PySem.W.Frag} {H : Hp} {ad : List Addr} {m : Mem}
mutual
theorem RepD.dp : ∀ (d : D) (v : V), RepD K H ad d v → PyData.canLay0 d.pd = true → Dp K H v d.pd
  | .non, _, h, _ => by cases h; exact .non
  | .bl b, _, h, _ => by cases h; exact .bl b
  | .int i, _, h, _ => by cases h; exact .int i
  | .str x, _, h, _ => by cases h; exact .str x
  | .tup ds, _, h, c => by
    obtain ⟨a, vs, rfl, t, r⟩ := h
    rw [D.pd] at c ⊢
    rw [PyData.canLay0] at c
    exact .tup t (RepL.dp ds vs r c)
  | .ref n, _, _, c => by
    rw [D.pd, PyData.canLay0] at c
    exact absurd c (by decide)
  | .exn n, _, _, c => by
    rw [D.pd, PyData.canLay0] at c
    exact absurd c (by decide)
theorem RepL.dp : ∀ (ds : List D) (vs : List V), RepL K H ad ds vs → PyData.canLayAll0 (D.pdL ds) = true → DpAll K H vs (D.pdL ds)
  | [], _, h, _ => by cases h; exact .nil
  | d :: ds, _, h, c => by
    obtain ⟨v, r, rfl, h1, h2⟩ := h
    rw [D.pdL] at c ⊢
    rw [PyData.canLayAll0, Bool.and_eq_true] at c
    exact .cons (RepD.dp d v h1 c.1) (RepL.dp ds r h2 c.2)
end
theorem RepM.items (h : RepM K ad m H) {n : Nat} {a : Addr} {ds : List D} (ea : ad[n]? = some a) (e : itemsOf m n = some ds) : ∃ vs, SqL K H a vs ∧ RepL K H ad ds vs ∧ (TyX K H (.ref a) (.type "list")) := by
  unfold itemsOf at e
  split at e
  · rename_i ds' e'
    cases e
    obtain ⟨vs, h1, r⟩ := h.obj n _ a e' ea
    exact ⟨vs, .of h1, r, .base (.lst h1)⟩
  · rename_i ds' e'
    cases e
    obtain ⟨vs, ⟨ob, h1⟩ | h1, r⟩ := h.obj n _ a e' ea
    · exact ⟨vs, .inl (.inr ⟨ob, h1⟩), r, .base (.frz h1)⟩
    · exact ⟨vs, .inr h1, r, by obtain ⟨o, its, k, q1, q2, _⟩ := h1; exact .kList q1 q2⟩
  · cases e
theorem RepD.dpM (rm : RepM K ad m H) {d : D} {v : V} (h : RepD K H ad d v) (c : PyData.canLay0 (pdM m d) = true) : Dp K H v (pdM m d) := by
  cases d with
  | ref n =>
    obtain ⟨a, rfl, ea⟩ := h
    cases e : itemsOf m n with
    | none => simp [pdM, e, PyData.canLay0] at c
    | some ds =>
      have e1 : pdM m (.ref n) = .list (D.pdL ds) := by simp [pdM, e]
      rw [e1] at c ⊢
      rw [PyData.canLay0] at c
      obtain ⟨vs, h1, h2, _⟩ := rm.items ea e
      exact .lst h1 (RepL.dp ds vs h2 c)
  | _ => exact RepD.dp _ v h c
end
def eqG : G2 := fun x y m => if (SeqAt.shaped (pdM m x) && SeqAt.shaped (pdM m y)) = true then some (.bl (PyData.eqv (pdM m x) (pdM m y)), m) else none
def neG : G2 := fun x y m => if (SeqAt.shaped (pdM m x) && SeqAt.shaped (pdM m y)) = true then some (.bl (!PyData.eqv (pdM m x) (pdM m y)), m) else none
def ofI (o : Option D) (m : Mem) : Option (D × Mem) := o.map fun d => (d, m)
/-! dicts: keys that are ints or texts -/
def keyD : D → Option L2.Key
  | .int i => some (.inl i)
  | .str z => some (.inr z)
  | _ => none
def valM (kvs : List (L2.Key × D)) (k : L2.Key) : Option D := (kvs.find? fun p => decide (p.1 = k)).map (·.2)
def dicOf (m : Mem) (n : Nat) : Option (List (L2.Key × D)) := match m[n]? with
  | some (.dic kvs) => some kvs
  | _ => none
def dicG (n : Nat) (y : D) (m : Mem) : Option (D × Mem) := match dicOf m n, keyD y with
  | some kvs, some k => ofI (valM kvs k) m
  | _, _ => none
def idxG : G2 := fun x y m => match x, y with
  | .tup xs, .int i => ofI (atI xs i) m
  | .ref n, .int i => match itemsOf m n with
    | some xs => ofI (atI xs i) m
    | none => dicG n (.int i) m
  | .str z, .int i => if z.length ≤ sizeLine then ofI ((atI z.cps.toList i).map fun c => .str ⟨#[c]⟩) m else none
  | .ref n, .str z => dicG n (.str z) m
  | _, _ => none
def addG : G2 := fun x y m => match x, y with
  | .int i, .int j => some (.int (i + j), m)
  | .str a, .str b => if a.length + b.length ≤ sizeLine then some (.str (a ++ b), m) else none
  | .tup xs, .tup ys => if xs.length + ys.length ≤ sizeLine then some (.tup (xs ++ ys), m) else none
  | .ref n, .ref k => match m[n]?, m[k]? with
    | some (.lst xs), some (.lst ys) => if xs.length + ys.length ≤ sizeLine then some (.ref m.length, m ++ [.lst (xs ++ ys)]) else none
    | _, _ => none
  | _, _ => none
def lenG : GN := fun xs m => match xs with
  | [.tup ys] => some (.int ys.length, m)
  | [.ref n] => (itemsOf m n).map fun ys => (.int ys.length, m)
  | [.str z] => if z.length ≤ sizeLine then some (.int z.length, m) else none
  | _ => none
def intG : GN := fun xs m => match xs with
  | [.int i] => some (.int i, m)
  | [.bl k] => some (.int (if k then 1 else 0), m)
  | _ => none
def absG : GN := fun xs m => match xs with
  | [.int i] => some (.int (if i < 0 then -i else i), m)
  | _ => none
def gcdG : GN := fun xs m => match xs with
  | [.int a, .int b] => some (.int ((Nat.gcd a.natAbs b.natAbs : Nat) : Int), m)
  | _ => none
def listG : GN := fun xs m => match xs with
  | [.tup ys] => some (.ref m.length, m ++ [.lst ys])
  | [.ref n] => (itemsOf m n).map fun ys => (.ref m.length, m ++ [.lst ys])
  | _ => none
def tupleG : GN := fun xs m => match xs with
  | [.tup ys] => some (.tup ys, m)
  | [.ref n] => (itemsOf m n).map fun ys => (.tup ys, m)
  | _ => none
def tupD : GN := fun xs m => if xs.length ≤ sizeLine then some (.tup xs, m) else none
def lstD : GN := fun xs m => if xs.length ≤ sizeLine then some (.ref m.length, m ++ [.lst xs]) else none
def tyN (m : Mem) : D → Option String
  | .non => some "NoneType"
  | .bl _ => some "bool"
  | .int _ => some "int"
  | .str _ => some "str"
  | .tup _ => some "tuple"
  | .ref n => (itemsOf m n).map fun _ => "list"
  | .exn _ => none
def isiG (T : String) : G1 := fun x m => match tyN m x with
  | some t => (kitB t T).map fun b => (.bl b, m)
  | none => none

section
variable {X : Cx}
theorem o_eq (hu : X.A.units + 64 < cLine) : OpR X (compareOp .Eq) (rD2 X.K eqG) := oimp (op_eqD hu) fun x y H Q h => by
  obtain ⟨ad, m, dx, dy, rm, rx, ry, d, m', e, q⟩ := h
  unfold eqG at e
  split at e
  · rename_i hc
    rw [Bool.and_eq_true] at hc
    cases e
    exact ⟨_, _, rx.dpM rm (SeqAt.canLay_of_shaped hc.1), ry.dpM rm (SeqAt.canLay_of_shaped hc.2), hc.1, hc.2, q ad H _ Ext.refl rm rfl⟩
  · cases e
theorem o_ne (hu : X.A.units + 64 < cLine) : OpR X (compareOp .NotEq) (rD2 X.K neG) := oimp (op_neD hu) fun x y H Q h => by
  obtain ⟨ad, m, dx, dy, rm, rx, ry, d, m', e, q⟩ := h
  unfold neG at e
  split at e
  · rename_i hc
    rw [Bool.and_eq_true] at hc
    cases e
    exact ⟨_, _, rx.dpM rm (SeqAt.canLay_of_shaped hc.1), ry.dpM rm (SeqAt.canLay_of_shaped hc.2), hc.1, hc.2, q ad H _ Ext.refl rm rfl⟩
  · cases e
def cmpI (p : Int → Int → Bool) : G2 := int2 (fun i j => .bl (p i j)) fun _ _ => true
theorem RepL.atI {K : PySem.W.Frag} {H : Hp} {ad : List Addr} {ds : List D} {vs : List V} {i : Int} {d : D} (r : RepL K H ad ds vs) (e : L2.atI ds i = some d) : ∃ v, L2.atI vs i = some v ∧ RepD K H ad d v := by
  unfold L2.atI at e ⊢
  rw [← r.length]
  cases q : ixN ds.length i with
  | none => rw [q] at e; cases e
  | some j =>
    rw [q] at e
    exact r.get e
theorem keyD_eq {d : D} {k : L2.Key} (e : keyD d = some k) {K : PySem.W.Frag} {H : Hp} {ad : List Addr} {v : V} (r : RepD K H ad d v) : v = kV k := by
  cases d with
  | int i => cases e; exact r
  | str z => cases e; exact r
  | _ => cases e
theorem valM_rep {K : PySem.W.Frag} {H : Hp} {ad : List Addr} (k : L2.Key) : ∀ {kvs : List (L2.Key × D)} {ks : List (L2.Key × V)}, ks.map (·.1) = kvs.map (·.1) → RepL K H ad (kvs.map (·.2)) (ks.map (·.2)) →
    (valM kvs k = none ∧ valV ks k = none) ∨ ∃ d v, valM kvs k = some d ∧ valV ks k = some v ∧ RepD K H ad d v
  | [], [], _, _ => .inl ⟨rfl, rfl⟩
  | [], _ :: _, e, _ => by cases e
  | _ :: _, [], e, _ => by cases e
  | p :: kvs, q :: ks, e, r => by
    simp only [List.map_cons, List.cons.injEq] at e
    obtain ⟨v, vs, ev, r1, r2⟩ := r
    simp only [List.map_cons, List.cons.injEq] at ev
    obtain ⟨rfl, rfl⟩ := ev
    by_cases hk : p.1 = k
    · have hq : q.1 = k := e.1.trans hk
      exact .inr ⟨p.2, q.2, by simp [valM, List.find?_cons, hk], valV_pos hq, r1⟩
    · have hq : ¬ q.1 = k := fun z => hk (e.1.symm.trans z)
      have h1 : valM (p :: kvs) k = valM kvs k := by simp [valM, List.find?_cons, hk]
      rw [h1, valV_neg hq]
      exact valM_rep k e.2 r2
theorem dicOf_eq {m : Mem} {n : Nat} {kvs : List (L2.Key × D)} (e : dicOf m n = some kvs) : m[n]? = some (.dic kvs) := by
  unfold dicOf at e
  split at e
  · rename_i q
    cases e
    exact q
  · cases e
theorem RepM.dic {K : PySem.W.Frag} {H : Hp} {ad : List Addr} {m : Mem} (rm : RepM K ad m H) {n : Nat} {a : Addr} (ea : ad[n]? = some a) {kvs : List (L2.Key × D)} (e : dicOf m n = some kvs) :
    ∃ ks : List (L2.Key × V), H a = some (.dK ks) ∧ ks.map (·.1) = kvs.map (·.1) ∧ RepL K H ad (kvs.map (·.2)) (ks.map (·.2)) := rm.obj n _ a (dicOf_eq e) ea
/-- a[k] of a dict -/
theorem dic_ix (hu : X.A.units + 1 < cLine) {value slice : Expr} {pins : List (Addr × Obj)} {s : Shared} {σ : St} {H : Hp} {v u : Value} {Q : VK} (I : Inv X pins σ H s) {x y : V} (rx : RelV x v) (ry : RelV y u) {ad : List Addr} {m m' : Mem} {n : Nat} {dy d : D} (rm : RepM X.K ad m H) (qx : RepD X.K H ad (.ref n) x) (qy : RepD X.K H ad dy y)
    (e : dicG n dy m = some (d, m')) (q : OkQ X.K H ad Q d m') (hs : subscripted slice false v u = operate [v, u] (getItem v u)) : wpAny (model X.prog X.w) X.A (subscriptTail value slice v u) (EP X pins σ Q) X.xe s := by
  unfold dicG at e
  split at e
  · rename_i kvs k e1 e2
    obtain ⟨a, rfl, ea⟩ := qx
    obtain ⟨ks, h1, h2, h3⟩ := rm.dic ea e1
    rcases valM_rep k h2 h3 with ⟨z, _⟩ | ⟨d', w, z1, z2, r⟩
    · rw [z] at e; cases e
    · rw [z1] at e
      cases e
      have ey := keyD_eq e2 qy
      subst ey
      cases rx
      have g : DGet H a (kV k) (some w) := by rw [← z2]; exact DGet.k h1
      refine tail_any (dict_typeIs I g) slot_dict_getitem.lookup (d_getItem hu I g ry fun w' s' I' rw' => ⟨w, H, I', rw', q ad H w Ext.refl rm r⟩) hs
  · cases e
theorem i_ix (hu : X.A.units + 1 < cLine) : IxR X (rD2 X.K idxG) := by
  intro value slice pins s σ H x y v u Q I rx ry h hs
  obtain ⟨ad, m, dx, dy, rm, qx, qy, d, m', e, q⟩ := h
  unfold idxG at e
  split at e
  · rename_i xs i
    cases q' : atI xs i with
    | none => rw [q'] at e; cases e
    | some z =>
      rw [q'] at e
      cases e
      obtain ⟨a, vs, rfl, t, r⟩ := qx
      obtain ⟨w, e1, e2⟩ := RepL.atI r q'
      exact ix_seq value slice pins s σ H _ y v u Q I rx ry (.inr (.inl ⟨a, vs, i, w, rfl, qy, t, e1, q ad H w Ext.refl rm e2⟩)) hs
  · rename_i n i
    split at e
    · rename_i xs ei
      cases q' : atI xs i with
      | none => rw [q'] at e; cases e
      | some z =>
        rw [q'] at e
        cases e
        obtain ⟨a, rfl, ea⟩ := qx
        obtain ⟨vs, t, r, _⟩ := rm.items ea ei
        obtain ⟨w, e1, e2⟩ := RepL.atI r q'
        exact ix_seq value slice pins s σ H _ y v u Q I rx ry (.inl ⟨a, vs, i, w, rfl, qy, t, e1, q ad H w Ext.refl rm e2⟩) hs
    · exact dic_ix hu I rx ry rm qx qy e q hs
  · rename_i z i
    split at e
    · rename_i hz
      cases q' : atI z.cps.toList i with
      | none => rw [q'] at e; cases e
      | some c =>
        rw [q'] at e
        cases e
        exact ix_seq value slice pins s σ H x y v u Q I rx ry (.inr (.inr ⟨z, i, c, qx, qy, hz, q', q ad H _ Ext.refl rm rfl⟩)) hs
    · cases e
  · exact dic_ix hu I rx ry rm qx qy e q hs
  · cases e
theorem o_add : OpR X (binaryOp .Add) (rD2 X.K addG) := by
  intro pins s σ H x y v u Q I rx ry h
  obtain ⟨ad, m, dx, dy, rm, qx, qy, d, m', e, q⟩ := h
  unfold addG at e
  split at e
  · rename_i i j
    cases e
    exact op_add pins s σ H x y v u Q I rx ry ⟨i, j, qx, qy, q ad H _ Ext.refl rm rfl⟩
  · rename_i a b
    split at e
    · cases e
      exact op_add_str pins s σ H x y v u Q I rx ry ⟨a, b, qx, qy, by assumption, q ad H _ Ext.refl rm rfl⟩
    · cases e
  · rename_i xs ys
    split at e
    · rename_i hz
      cases e
      obtain ⟨a, vs, rfl, t, r⟩ := qx
      obtain ⟨b, us, rfl, t', r'⟩ := qy
      refine op_catA pins s σ H _ _ v u Q I rx ry ⟨a, b, vs, us, rfl, rfl, t, t', by rw [← r.length, ← r'.length]; exact hz, fun e => ?_, fun _ e => ?_, fun _ _ p hp => ?_⟩
      · subst e
        have e0 : xs = [] := List.length_eq_zero_iff.mp r.length
        subst e0
        exact q ad H _ Ext.refl rm ⟨b, us, rfl, t', r'⟩
      · subst e
        have e0 : ys = [] := List.length_eq_zero_iff.mp r'.length
        subst e0
        rw [List.append_nil] at q
        exact q ad H _ Ext.refl rm ⟨a, vs, rfl, t, r⟩
      · exact q ad _ _ (ext_new hp) (rm.new hp) ⟨p, vs ++ us, rfl, .of upd_same, RepL.mono (ext_new hp) _ _ (r.app r')⟩
    · cases e
  · rename_i n k
    split at e
    · rename_i xs ys e1 e2
      split at e
      · rename_i hz
        cases e
        obtain ⟨a, rfl, ea⟩ := qx
        obtain ⟨b, rfl, eb⟩ := qy
        obtain ⟨vs, h1, r⟩ := rm.obj n _ a e1 ea
        obtain ⟨us, h1', r'⟩ := rm.obj k _ b e2 eb
        refine op_cat pins s σ H _ _ v u Q I rx ry ⟨a, b, vs, us, rfl, rfl, h1, h1', by rw [← r.length, ← r'.length]; exact hz, fun p hp => ?_⟩
        refine q (ad ++ [p]) _ _ (ext_alloc hp) (rm.allocL hp (r.app r')) ⟨p, rfl, ?_⟩
        rw [← rm.len, List.getElem?_append_right (Nat.le_refl _), Nat.sub_self]
        rfl
      · cases e
    · cases e
  · cases e
theorem new_ref {K : PySem.W.Frag} {H : Hp} {ad : List Addr} {m : Mem} (rm : RepM K ad m H) (p : Addr) : RepD K H (ad ++ [p]) (.ref m.length) (.ref p) := by
  refine ⟨p, rfl, ?_⟩
  rw [← rm.len, List.getElem?_append_right (Nat.le_refl _), Nat.sub_self]
  rfl
theorem new_ref' {K : PySem.W.Frag} {H H' : Hp} {ad : List Addr} {m : Mem} (rm : RepM K ad m H) (p : Addr) : RepD K H' (ad ++ [p]) (.ref m.length) (.ref p) := by
  refine ⟨p, rfl, ?_⟩
  rw [← rm.len, List.getElem?_append_right (Nat.le_refl _), Nat.sub_self]
  rfl
theorem repl1 {K : PySem.W.Frag} {H : Hp} {ad : List Addr} {d : D} {vs : List V} (h : RepL K H ad [d] vs) : ∃ v, vs = [v] ∧ RepD K H ad d v := by
  obtain ⟨v, r, rfl, h1, h2⟩ := h
  cases h2
  exact ⟨v, rfl, h1⟩
theorem repl2 {K : PySem.W.Frag} {H : Hp} {ad : List Addr} {d e : D} {vs : List V} (h : RepL K H ad [d, e] vs) : ∃ v u, vs = [v, u] ∧ RepD K H ad d v ∧ RepD K H ad e u := by
  obtain ⟨v, r, rfl, h1, h2⟩ := h
  obtain ⟨u, rfl, h3⟩ := repl1 h2
  exact ⟨v, u, rfl, h1, h3⟩
theorem c_len : CallR X (.builtin "len") (rDN X.K lenG) := cimp call_len fun xs H Q h => by
  obtain ⟨ad, m, ds, rm, r, d, m', e, q⟩ := h
  unfold lenG at e
  split at e
  · rename_i ys
    cases e
    obtain ⟨v, rfl, a, vs, rfl, t, rr⟩ := repl1 r
    refine ⟨_, vs.length, rfl, .inr ⟨vs, t, rfl⟩, ?_⟩
    rw [← rr.length]
    exact q ad H _ Ext.refl rm rfl
  · rename_i n
    cases e' : itemsOf m n with
    | none => rw [e'] at e; cases e
    | some ys =>
      rw [e'] at e
      cases e
      obtain ⟨v, rfl, a, rfl, ea⟩ := repl1 r
      obtain ⟨vs, t, rr, _⟩ := rm.items ea e'
      refine ⟨_, vs.length, rfl, .inl ⟨vs, t, rfl⟩, ?_⟩
      rw [← rr.length]
      exact q ad H _ Ext.refl rm rfl
  · rename_i z
    split at e
    · rename_i hz
      cases e
      obtain ⟨v, rfl, rv⟩ := repl1 r
      cases (show v = .str z from rv)
      exact ⟨_, z.length, rfl, ⟨hz, rfl⟩, q ad H _ Ext.refl rm rfl⟩
    · cases e
  · cases e
theorem c_int : CallR X (.type "int") (rDN X.K intG) := cimp call_int1 fun xs H Q h => by
  obtain ⟨ad, m, ds, rm, r, d, m', e, q⟩ := h
  unfold intG at e
  split at e
  · rename_i i
    cases e
    obtain ⟨v, rfl, rv⟩ := repl1 r
    cases (show v = .int i from rv)
    exact .inl ⟨i, rfl, q ad H _ Ext.refl rm rfl⟩
  · rename_i k
    cases e
    obtain ⟨v, rfl, rv⟩ := repl1 r
    cases (show v = .bl k from rv)
    exact .inr ⟨k, rfl, q ad H _ Ext.refl rm rfl⟩
  · cases e
theorem c_abs : CallR X (.builtin "abs") (rDN X.K absG) := cimp call_abs fun xs H Q h => by
  obtain ⟨ad, m, ds, rm, r, d, m', e, q⟩ := h
  unfold absG at e
  split at e
  · rename_i i
    cases e
    obtain ⟨v, rfl, rv⟩ := repl1 r
    cases (show v = .int i from rv)
    exact ⟨i, rfl, q ad H _ Ext.refl rm rfl⟩
  · cases e
theorem c_gcd : CallR X (.builtin "math.gcd") (rDN X.K gcdG) := cimp cr_gcd fun xs H Q h => by
  obtain ⟨ad, m, ds, rm, r, d, m', e, q⟩ := h
  unfold gcdG at e
  split at e
  · rename_i i j
    cases e
    obtain ⟨v, u, rfl, rv, ru⟩ := repl2 r
    cases (show v = .int i from rv)
    cases (show u = .int j from ru)
    exact ⟨i, j, rfl, q ad H _ Ext.refl rm rfl⟩
  · cases e
theorem c_list : CallR X (.type "list") (rDN X.K listG) := cimp call_list_of fun xs H Q h => by
  obtain ⟨ad, m, ds, rm, r, d, m', e, q⟩ := h
  unfold listG at e
  split at e
  · rename_i ys
    cases e
    obtain ⟨v, rfl, a, vs, rfl, t, rr⟩ := repl1 r
    refine ⟨a, vs, rfl, .inr t, fun l hl => ?_⟩
    exact q (ad ++ [l]) _ _ (ext_alloc hl) (rm.allocL hl rr) (new_ref' rm l)
  · rename_i n
    cases e' : itemsOf m n with
    | none => rw [e'] at e; cases e
    | some ys =>
      rw [e'] at e
      cases e
      obtain ⟨v, rfl, a, rfl, ea⟩ := repl1 r
      obtain ⟨vs, t, rr, _⟩ := rm.items ea e'
      refine ⟨a, vs, rfl, .inl t, fun l hl => ?_⟩
      exact q (ad ++ [l]) _ _ (ext_alloc hl) (rm.allocL hl rr) (new_ref' rm l)
  · cases e
theorem c_tuple : CallR X (.type "tuple") (rDN X.K tupleG) := cimp call_tuple_of fun xs H Q h => by
  obtain ⟨ad, m, ds, rm, r, d, m', e, q⟩ := h
  unfold tupleG at e
  split at e
  · rename_i ys
    cases e
    obtain ⟨v, rfl, a, vs, rfl, t, rr⟩ := repl1 r
    exact ⟨a, vs, rfl, .inr ⟨t, q ad H _ Ext.refl rm ⟨a, vs, rfl, t, rr⟩⟩⟩
  · rename_i n
    cases e' : itemsOf m n with
    | none => rw [e'] at e; cases e
    | some ys =>
      rw [e'] at e
      cases e
      obtain ⟨v, rfl, a, rfl, ea⟩ := repl1 r
      obtain ⟨vs, t, rr, _⟩ := rm.items ea e'
      refine ⟨a, vs, rfl, .inl ⟨t, fun l hl => ?_⟩⟩
      exact q ad _ _ (ext_new hl) (rm.new hl) ⟨l, vs, rfl, .of upd_same, RepL.mono (ext_new hl) _ _ rr⟩
  · cases e
end
section
variable {X : Cx} {cl : String → Addr} {W : WX} {a b c e : Expr} {es : List Expr} {fa fb : FE} {fs : FA} {pos : Pos}
theorem room1 {k : Nat} {A : Around} (r : Room k A) : A.units + 1 < cLine := by have := r.un; omega
theorem dix (hu : X.A.units + 1 < cLine) (ha : DE X cl W a fa) (hb : DE X cl W b fb) (hs : PlainIx b := by exact fun _ _ => rfl) : DE X cl W (.Subscript a b pos) (op2 fa fb idxG) := PE.imp (pe_ix (i_ix hu) ha hb hs) fun _ _ _ h => tE_two h
theorem dtup {x1} (h : DA X cl W es fs) : DE X cl W (.Tuple es x1 pos) (opN fs tupD) := PE.imp (pe_tup h) fun σ H Q h => by
  obtain ⟨ad, r, m, rm, re, h⟩ := h
  refine tA_go rm re h fun ad1 H1 m1 x v x1 rm1 re1 rd h1 => ?_
  obtain ⟨d, m', e, q⟩ := fin_lft h1
  unfold tupD at e
  split at e
  · rename_i hz
    cases e
    refine ⟨by rw [← rd.length]; exact hz, fun p hp => ?_⟩
    exact q ad1 _ _ (x1.trans (ext_new hp)) (rm1.new hp) ⟨p, v, rfl, .of upd_same, RepL.mono (ext_new hp) _ _ rd⟩
  · cases e
theorem dlst (h : DA X cl W es fs) : DE X cl W (.List es pos) (opN fs lstD) := PE.imp (pe_lst h) fun σ H Q h => by
  obtain ⟨ad, r, m, rm, re, h⟩ := h
  refine tA_go rm re h fun ad1 H1 m1 x v x1 rm1 re1 rd h1 => ?_
  obtain ⟨d, m', e, q⟩ := fin_lft h1
  unfold lstD at e
  split at e
  · rename_i hz
    cases e
    refine ⟨by rw [← rd.length]; exact hz, fun p hp => ?_⟩
    exact q (ad1 ++ [p]) _ _ (x1.trans (ext_alloc hp)) (rm1.allocL hp rd) (new_ref' rm1 p)
  · cases e
theorem tyX_of {K : PySem.W.Frag} {H : Hp} {ad : List Addr} {m : Mem} (rm : RepM K ad m H) {d : D} {v : V} (r : RepD K H ad d v) {t : String} (e : tyN m d = some t) : TyX K H v (.type t) := by
  cases d with
  | non => cases e; cases (show v = .non from r); exact .base .non
  | bl b => cases e; cases (show v = .bl b from r); exact .base (.bl b)
  | int b => cases e; cases (show v = .int b from r); exact .base (.int b)
  | str b => cases e; cases (show v = .str b from r); exact .base (.str b)
  | tup ds =>
    cases e
    obtain ⟨a, vs, rfl, (h | ⟨ob, h⟩) | ⟨o, its, n, h1, h2, _⟩, _⟩ := r
    · exact .base (.tup h)
    · exact .fTuple h
    · exact .kTuple h1 h2
  | ref n =>
    cases q : itemsOf m n with
    | none => simp [tyN, q] at e
    | some ds =>
      simp only [tyN, q, Option.map_some, Option.some.injEq] at e
      subst e
      obtain ⟨a, rfl, ea⟩ := r
      obtain ⟨vs, h1, h2, h3⟩ := rm.items ea q
      exact h3
  | exn c => cases e
/-- isinstance(x, T) -/
theorem disi {T : String} {x : Str} {p p2 : Pos} (hg : Gl X "isinstance") (hm : X.mg "isinstance" = none) (hgT : Gl X x) (hmT : X.mg x = none) (hvT : bootBuiltins x = some (.type T)) (ha : DE X cl W a fa)
    (hn : x ≠ "__name__" := by decide) (hdb : (x == ("__debug__" : Str)) = false := by decide)
    (he1 : starEach [a, .Name x p2] X.env = (false, eval a X.env) :: starEach [.Name x p2] X.env := by rfl) (he2 : starEach [.Name x p2] X.env = (false, eval (.Name x p2) X.env) :: starEach [] X.env := by rfl) (hpl : (backTo pos (starEach [.Name x p2] X.env)).any (·.1) = false := by rfl) :
    DE X cl W (.Call (.Name "isinstance" p) [a, .Name x p2] [] pos) (op1 fa (isiG T)) := by
  refine PE.imp (pe_callB call_isi hg hm (by decide +kernel) (pa_cons ha (pa_cons (pe_bltn (v := .ty T) hgT hmT hvT rfl hn hdb) pa_nil he2) he1) (by decide) (by decide) he1 hpl) fun σ H Q h => ?_
  refine (tE_one h).elim fun ad h => ?_
  obtain ⟨r, m, rm, re, h⟩ := h
  refine ⟨ad, r, m, rm, re, Fin.imp h fun d m1 h1 ad1 H1 v x1 rm1 rd => ?_⟩
  obtain ⟨ad2, m2, dx, rm2, rd2, d', m', e, q⟩ := h1 ad1 H1 v x1 rm1 rd
  unfold isiG at e
  split at e
  · rename_i t et
    cases ek : kitB t T with
    | none => rw [ek] at e; cases e
    | some b =>
      rw [ek] at e
      cases e
      exact ⟨v, .ty T, .type t, .type T, b, rfl, .ty T, tyX_of rm2 rd2 et, kit_ty ek, q ad2 H1 _ Ext.refl rm2 rfl⟩
  · cases e
/-- f(..), f a module's name for a built-in -/
theorem dcallF {id : String} {x : Str} {p : Pos} {g : GN} (hc : CallR X (.builtin id) (rDN X.K g)) (hg : Gl X x) (hm : X.mg x = some (.builtin id)) (ha : DA X cl W (e :: es) fs) (hdb : (x == ("__debug__" : Str)) = false := by decide)
    (he : starEach (e :: es) X.env = (false, eval e X.env) :: starEach es X.env := by rfl) (hpl : (backTo pos (starEach es X.env)).any (·.1) = false := by rfl) :
    DE X cl W (.Call (.Name x p) (e :: es) [] pos) (opN fs g) := PE.imp (pe_callBfun hc hg hm ha hdb he hpl) fun _ _ _ h => tA_N h
end
/-- comparisons of ints -/
def ltI : G2 := cmpI fun i j => decide (i < j)
def leI : G2 := cmpI fun i j => decide (i ≤ j)
def gtI : G2 := cmpI fun i j => decide (j < i)
def geI : G2 := cmpI fun i j => decide (j ≤ i)
section
variable {X : Cx}
theorem o_ltI : OpR X (compareOp .Lt) (rD2 X.K ltI) := oimp op_lt fun x y H Q h => by
  obtain ⟨i, j, e1, e2, _, q⟩ := rD2_int h (fun i j => .bl (decide (i < j))) fun _ _ _ _ => rfl
  exact ⟨i, j, e1, e2, q⟩
theorem o_leI : OpR X (compareOp .LtE) (rD2 X.K leI) := oimp op_le fun x y H Q h => by
  obtain ⟨i, j, e1, e2, _, q⟩ := rD2_int h (fun i j => .bl (decide (i ≤ j))) fun _ _ _ _ => rfl
  exact ⟨i, j, e1, e2, q⟩
theorem o_gtI : OpR X (compareOp .Gt) (rD2 X.K gtI) := oimp op_gt fun x y H Q h => by
  obtain ⟨i, j, e1, e2, _, q⟩ := rD2_int h (fun i j => .bl (decide (j < i))) fun _ _ _ _ => rfl
  exact ⟨i, j, e1, e2, q⟩
theorem o_geI : OpR X (compareOp .GtE) (rD2 X.K geI) := oimp op_ge fun x y H Q h => by
  obtain ⟨i, j, e1, e2, _, q⟩ := rD2_int h (fun i j => .bl (decide (j ≤ i))) fun _ _ _ _ => rfl
  exact ⟨i, j, e1, e2, q⟩
end
end Mi

end

section
set_option Elab.async false
set_option linter.all false
set_option maxRecDepth 100000
set_option maxHeartbeats 4000000
namespace Mi
open PySem PySem.Spec L2
open PyProof.Rows hiding St
open scoped Classical

/-! ## statements -/
def nxS : FS := fun r m => .ok .nx r m
def seqS (f g : FS) : FS := fun r m => match f r m with
  | .ok .nx r' m' => g r' m'
  | x => x
def SRes.of {α : Type} (x : Res α) (r : Env) (g : α → Mem → SRes) : SRes := match x with
  | .ok a m => g a m
  | .exc c m => .exc c r m
  | .bad => .bad
def asgS (i : Nat) (f : FE) : FS := fun r m => SRes.of (f r m) r fun d m1 => .ok .nx (r.set i (some d)) m1
def dropS (f : FE) : FS := fun r m => SRes.of (f r m) r fun _ m1 => .ok .nx r m1
def retS (f : FE) : FS := fun r m => SRes.of (f r m) r fun d m1 => .ok (.rt d) r m1
def retN : FS := fun r m => .ok (.rt .non) r m
def bkS : FS := fun r m => .ok .bk r m
def ctS : FS := fun r m => .ok .ct r m
def ifS (c : FT) (f g : FS) : FS := fun r m => SRes.of (c r m) r fun b m1 => if b then f r m1 else g r m1
def raiseS (c : String) : FS := fun r m => .exc c r m
abbrev FG := D → Env → Option Env
def nameG (i : Nat) : FG := fun d r => some (r.set i (some d))
def nilG : List D → Env → Option Env := fun ds r => match ds with
  | [] => some r
  | _ => none
def consG (g : FG) (h : List D → Env → Option Env) : List D → Env → Option Env := fun ds r => match ds with
  | d :: ds => (g d r).bind fun r' => h ds r'
  | [] => none
def tupG (h : List D → Env → Option Env) : FG := fun d r => match d with
  | .tup ds => h ds r
  | _ => none
def asgG (g : FG) (f : FE) : FS := fun r m => SRes.of (f r m) r fun d m1 => match g d r with
  | some r' => .ok .nx r' m1
  | none => .bad
def parS (i j : Nat) (f : FA) : FS := fun r m => SRes.of (f r m) r fun ds m1 => match ds with
  | [a, b] => .ok .nx ((r.set i (some a)).set j (some b)) m1
  | _ => .bad
/-- o[i] = e of a list -/
def setG (o i e : FE) : FS := fun r m => SRes.of (e r m) r fun d m1 => SRes.of (o r m1) r fun x m2 => SRes.of (i r m2) r fun y m3 => match x, y with
  | .ref n, .int k => match m3[n]? with
    | some (.lst xs) => match ixN xs.length k with
      | some j => .ok .nx r (m3.set n (.lst (xs.set j d)))
      | none => .bad
    | _ => .bad
  | _, _ => .bad
inductive Src where
  | fix (ds : List D) | lst (n : Nat) (ds : List D) | gen (ds : List D) (ok : Mem → Prop)
def Src.items : Src → List D
  | .fix ds => ds
  | .lst _ ds => ds
  | .gen ds _ => ds
def Src.still (m : Mem) : Src → Prop
  | .fix _ => True
  | .lst n ds => itemsOf m n = some ds
  | .gen _ ok => ok m
abbrev FI := Env → Mem → Res Src
noncomputable def forL (s : Src) (tg : FG) (body : FS) : List D → FS
  | [], r, m => if s.still m then .ok .nx r m else .bad
  | d :: ds, r, m => if s.still m then match tg d r with
      | none => .bad
      | some r1 => match body r1 m with
        | .ok .nx r2 m2 => forL s tg body ds r2 m2
        | .ok .ct r2 m2 => forL s tg body ds r2 m2
        | .ok .bk r2 m2 => .ok .nx r2 m2
        | x => x
    else .bad
noncomputable def forS (f : FI) (tg : FG) (body : FS) : FS := fun r m => SRes.of (f r m) r fun s m1 => forL s tg body s.items r m1
def whileN (c : FT) (body : FS) : Nat → FS
  | 0, _, _ => .bad
  | n + 1, r, m => SRes.of (c r m) r fun b m1 => if b then (match body r m1 with
      | .ok .nx r2 m2 => whileN c body n r2 m2
      | .ok .ct r2 m2 => whileN c body n r2 m2
      | .ok .bk r2 m2 => .ok .nx r2 m2
      | x => x) else .ok .nx r m1
noncomputable def whileS (c : FT) (body : FS) : FS := fun r m => if h : ∃ n, whileN c body n r m ≠ .bad then whileN c body (Classical.choose h) r m else .bad
def callE (G : Fn) (f : FA) : FE := fun r m => (f r m).bind fun ds m1 => G ds m1
def startE (n : Nat) (ds : List D) : Env := ds.map some ++ List.replicate (n - ds.length) none
/-- a def: n names, so many parameters -/
def defF (n p : Nat) (body : FS) : Fn := fun ds m => if ds.length = p then (match body (startE n ds) m with
  | .ok .nx _ m' => .ok .non m'
  | .ok (.rt d) _ m' => .ok d m'
  | .exc c _ m' => .exc c m'
  | _ => .bad) else .bad
/-- try: body except .. (as n, slot i): a suite that hands back a constant -/
def tryR (i : Nat) (cs : List String) (h : String → Option D) (body : FS) : FS := fun r m => match body r m with
  | .exc c r' m' => if c ∈ cs ∧ i < r'.length then (match h c with
      | some d => .ok (.rt d) r' m'
      | none => .exc c r' m') else .bad
  | x => x

section
variable {K : PySem.W.Frag} {cl : String → Addr} {W : WX} {σ : St} {H : Hp} {ad : List Addr} {m : Mem}
theorem tE_of {f : FE} {r : Env} {D : Ends} {g : L2.V → Hp → Prop} {k : Mi.D → Mem → SRes} (rm : RepM K ad m H) (re : RepE K H ad r σ) (h : FinS K cl W H ad D (SRes.of (f r m) r k))
    (hk : ∀ ad1 H1 m1 x v, Ext K H ad H1 ad1 → RepM K ad1 m1 H1 → RepE K H1 ad1 r σ → RepD K H1 ad1 x v → FinS K cl W H1 ad1 D (k x m1) → g v H1) : tE K cl W f σ H g := by
  refine ⟨ad, r, m, rm, re, ?_⟩
  show Fin K cl W σ H ad (OkQ K H ad g) (f r m)
  cases e : f r m with
  | ok a m1 =>
    rw [e] at h
    exact fun ad1 H1 v x1 rm1 rd => hk ad1 H1 m1 a v x1 rm1 (RepE.mono x1 re) rd (FinS.mono x1 h)
  | exc c m1 =>
    rw [e] at h
    exact fun ad1 H1 x1 rm1 => h ad1 H1 σ x1 rm1 (RepE.mono x1 re)
  | bad => rw [e] at h; exact h.elim
theorem tA_of {f : FA} {r : Env} {D : Ends} {g : List L2.V → Hp → Prop} {k : List Mi.D → Mem → SRes} (rm : RepM K ad m H) (re : RepE K H ad r σ) (h : FinS K cl W H ad D (SRes.of (f r m) r k))
    (hk : ∀ ad1 H1 m1 x v, Ext K H ad H1 ad1 → RepM K ad1 m1 H1 → RepE K H1 ad1 r σ → RepL K H1 ad1 x v → FinS K cl W H1 ad1 D (k x m1) → g v H1) : tA K cl W f σ H g := by
  refine ⟨ad, r, m, rm, re, ?_⟩
  show Fin K cl W σ H ad (OkL K H ad g) (f r m)
  cases e : f r m with
  | ok a m1 =>
    rw [e] at h
    exact fun ad1 H1 v x1 rm1 rd => hk ad1 H1 m1 a v x1 rm1 (RepE.mono x1 re) rd (FinS.mono x1 h)
  | exc c m1 =>
    rw [e] at h
    exact fun ad1 H1 x1 rm1 => h ad1 H1 σ x1 rm1 (RepE.mono x1 re)
  | bad => rw [e] at h; exact h.elim
theorem tT_of {f : FT} {r : Env} {D : Ends} {g : Bool → Hp → Prop} {k : Bool → Mem → SRes} (rm : RepM K ad m H) (re : RepE K H ad r σ) (h : FinS K cl W H ad D (SRes.of (f r m) r k))
    (hk : ∀ ad1 H1 m1 b, Ext K H ad H1 ad1 → RepM K ad1 m1 H1 → RepE K H1 ad1 r σ → FinS K cl W H1 ad1 D (k b m1) → g b H1) : tT K cl W f σ H g := by
  refine ⟨ad, r, m, rm, re, ?_⟩
  show Fin K cl W σ H ad (OkB K H ad g) (f r m)
  cases e : f r m with
  | ok a m1 =>
    rw [e] at h
    exact fun ad1 H1 x1 rm1 => hk ad1 H1 m1 a x1 rm1 (RepE.mono x1 re) (FinS.mono x1 h)
  | exc c m1 =>
    rw [e] at h
    exact fun ad1 H1 x1 rm1 => h ad1 H1 σ x1 rm1 (RepE.mono x1 re)
  | bad => rw [e] at h; exact h.elim
end

section
variable {X : Cx} {cl : String → Addr} {W : WX} {e c : Expr} {es : List Expr} {fa fb : FE} {fs : FA} {f g : FS} {st : Stmt} {sts a b : List Stmt} {pos : Pos}
theorem snil : DSs X cl W [] nxS := PSs.imp pss_nil fun σ H D h => by
  obtain ⟨ad, r, m, rm, re, h⟩ := h
  exact h ad H σ Ext.refl rm re
theorem scons (h1 : DS X cl W st f) (h2 : DSs X cl W sts g) : DSs X cl W (st :: sts) (seqS f g) := PSs.imp (pss_cons h1 h2) fun σ H D h => by
  obtain ⟨ad, r, m, rm, re, h⟩ := h
  refine ⟨ad, r, m, rm, re, ?_⟩
  show FinS X.K cl W H ad { D with nx := tS X.K cl W g D } (f r m)
  unfold seqS at h
  cases e : f r m with
  | ok fl r' m' =>
    rw [e] at h
    cases fl with
    | nx => exact fun ad1 H1 σ1 x1 rm1 re1 => ⟨ad1, r', m', rm1, re1, FinS.mono x1 h⟩
    | rt d => exact h
    | bk => exact h
    | ct => exact h
  | exc c r' m' => rw [e] at h; exact h
  | bad => rw [e] at h; exact h.elim
theorem sone (h : DS X cl W st f) : DSs X cl W [st] f := pss_one h
theorem spass : DS X cl W (.Pass pos) nxS := PS.imp ps_pass fun σ H D h => by
  obtain ⟨ad, r, m, rm, re, h⟩ := h
  exact h ad H σ Ext.refl rm re
theorem sbk : DS X cl W (.Break pos) bkS := PS.imp ps_break fun σ H D h => by
  obtain ⟨ad, r, m, rm, re, h⟩ := h
  exact h ad H σ Ext.refl rm re
theorem sct : DS X cl W (.Continue pos) ctS := PS.imp ps_continue fun σ H D h => by
  obtain ⟨ad, r, m, rm, re, h⟩ := h
  exact h ad H σ Ext.refl rm re
theorem sset {i : Nat} {x : Str} {pos' : Pos} (hN : X.N.Nodup) (he : DE X cl W e fa) (hi : X.N[i]? = some x := by rfl) (hx : Loc X.env.scope x := by first | exact Or.inl rfl | exact Or.inr rfl) (hs : swapsWith e (some (.Name x pos')) pos.line X.env = pure false := by rfl) (hf : X.fn x = true ∨ X.env.scope.names.lookup x = some .local := by first | exact .inl rfl | exact .inr rfl | assumption) :
    DS X cl W (.Assign [.Name x pos'] e pos) (asgS i fa) := PS.imp (ps_set hN hi hx he hs hf) fun σ H D h => by
  obtain ⟨ad, r, m, rm, re, h⟩ := h
  exact tE_of rm re h fun ad1 H1 m1 x v x1 rm1 re1 rd h1 => h1 ad1 H1 _ Ext.refl rm1 (re1.set i rd)
theorem sdrop (he : DE X cl W e fa) (hs : swapsWith e none pos.line X.env = pure false := by rfl) : DS X cl W (.Expr e pos) (dropS fa) := PS.imp (ps_expr he hs) fun σ H D h => by
  obtain ⟨ad, r, m, rm, re, h⟩ := h
  exact tE_of rm re h fun ad1 H1 m1 x v x1 rm1 re1 rd h1 => h1 ad1 H1 _ Ext.refl rm1 re1
theorem sret (he : DE X cl W e fa) : DS X cl W (.Return (some e) pos) (retS fa) := PS.imp (ps_ret he) fun σ H D h => by
  obtain ⟨ad, r, m, rm, re, h⟩ := h
  exact tE_of rm re h fun ad1 H1 m1 x v x1 rm1 re1 rd h1 => h1 ad1 H1 σ Ext.refl rm1 re1 v rd
theorem sretN : DS X cl W (.Return none pos) retN := PS.imp ps_retN fun σ H D h => by
  obtain ⟨ad, r, m, rm, re, h⟩ := h
  exact h ad H σ Ext.refl rm re .non rfl
theorem sif {t : FT} (hc : DT X cl W c t) (ha : DSs X cl W a f) (hb : DSs X cl W b g) : DS X cl W (.If c a b pos) (ifS t f g) := PS.imp (ps_if hc ha hb) fun σ H D h => by
  obtain ⟨ad, r, m, rm, re, h⟩ := h
  refine tT_of rm re h fun ad1 H1 m1 b x1 rm1 re1 h1 => ?_
  cases b with
  | true => exact iteT ⟨ad1, r, m1, rm1, re1, h1⟩
  | false => exact iteF ⟨ad1, r, m1, rm1, re1, h1⟩
/-- own error classes -/
structure ErrC (K : PySem.W.Frag) (mg : Str → Option Value) (cl : String → Addr) (n : String) : Prop where
  ex : PySem.W.excIn K (cl n) [.type "ValueError", .type "Exception", .type "BaseException", .type "object"] "ValueError.__new__" = true
  g : mg (PySem.Str.ofString n) = some (.ref (cl n))
  k : PySem.W.keepIn K (.ref (cl n)) = true
  b : PySem.W.subIn K (.ref (cl n)) (.type "BaseException") = some true
  t : PySem.W.typeIn K (.ref (cl n)) = some (.type "type")
theorem sraise {n : String} {msg : Str} {j : Nat} {p p2 p3 : Pos} (hc : X.calm = true) (tk : Takes X W) (E : ErrC X.K X.mg cl n) (hg : Gl X (PySem.Str.ofString n) := by rfl) (hdb : (PySem.Str.ofString n == ("__debug__" : Str)) = false := by decide) :
    DS X cl W (.Raise (some (.Call (.Name (PySem.Str.ofString n) p) [.Constant (.str msg) j p2] [] p3)) none pos) (raiseS n) :=
  PS.imp (ps_raise hc tk (pmk_own PySem.F.excBase_ValueError E.ex E.g E.k (raises_own E.b E.t) hg hdb)) fun σ H D h => by
    obtain ⟨ad, r, m, rm, re, h⟩ := h
    exact h ad H σ Ext.refl rm re

/-! ## targets -/
/-- the slots outside `is` stay -/
def Agree (is : List Nat) (σ σ' : St) : Prop := σ'.length = σ.length ∧ ∀ j, j ∉ is → σ'[j]? = σ[j]?
theorem Agree.refl {is : List Nat} {σ : St} : Agree is σ σ := ⟨rfl, fun _ _ => rfl⟩
theorem Agree.set {i : Nat} {σ : St} {x : Option V} : Agree [i] σ (σ.set i x) := ⟨by simp, fun j hj => by
  rw [List.getElem?_set_ne]
  intro e
  exact hj (by simp [e])⟩
theorem Agree.trans {is js : List Nat} {σ σ1 σ2 : St} (a : Agree is σ σ1) (b : Agree js σ1 σ2) : Agree (is ++ js) σ σ2 := ⟨b.1.trans a.1, fun j hj => by
  rw [List.mem_append, not_or] at hj
  exact (b.2 j hj.2).trans (a.2 j hj.1)⟩
def gT (K : PySem.W.Frag) (is : List Nat) (g : FG) : TG := fun v σ H Q => ∃ ad r m d, RepM K ad m H ∧ RepE K H ad r σ ∧ RepD K H ad d v ∧ ∃ r', g d r = some r' ∧ ∀ σ', RepE K H ad r' σ' → Agree is σ σ' → Q σ' H
def gTs (K : PySem.W.Frag) (is : List Nat) (g : List D → Env → Option Env) : TGs := fun vs σ H Q => ∃ ad r m ds, RepM K ad m H ∧ RepE K H ad r σ ∧ RepL K H ad ds vs ∧ ∃ r', g ds r = some r' ∧ ∀ σ', RepE K H ad r' σ' → Agree is σ σ' → Q σ' H
abbrev DG (X : Cx) (is : List Nat) (tg : Expr) (g : FG) : Prop := PG X tg (gT X.K is g)
abbrev DGs (X : Cx) (is : List Nat) (tg : List Expr) (g : List D → Env → Option Env) : Prop := PGs X tg (gTs X.K is g)
theorem PG.imp {X : Cx} {e : Expr} {t t' : TG} (h : PG X e t) (i : ∀ v σ H Q, t' v σ H Q → t v σ H Q) : PG X e t' := ⟨fun pins s σ H v u Q I r q => h.run pins s σ H v u Q I r (i _ _ _ _ q)⟩
theorem PGs.imp {X : Cx} {e : List Expr} {t t' : TGs} (h : PGs X e t) (i : ∀ v σ H Q, t' v σ H Q → t v σ H Q) : PGs X e t' := ⟨fun pins s σ H v u Q I r q => h.run pins s σ H v u Q I r (i _ _ _ _ q)⟩
theorem gname (i : Nat) {x : Str} (hN : X.N.Nodup) (hi : X.N[i]? = some x := by rfl) (hx : Loc X.env.scope x := by first | exact Or.inl rfl | exact Or.inr rfl) (hf : X.fn x = true ∨ X.env.scope.names.lookup x = some .local := by first | exact .inl rfl | exact .inr rfl | assumption) : DG X [i] (.Name x pos) (nameG i) :=
  PG.imp (pg_name hN hi hx hf) fun v σ H Q h => by
    obtain ⟨ad, r, m, d, rm, re, rd, r', e, q⟩ := h
    cases e
    exact q _ (re.set i rd) Agree.set
theorem gnil : DGs X [] [] nilG := PGs.imp pgs_nil fun v σ H Q h => by
  obtain ⟨ad, r, m, ds, rm, re, rd, r', e, q⟩ := h
  cases ds with
  | nil =>
    cases e
    exact ⟨rd, q _ re Agree.refl⟩
  | cons _ _ => cases e
theorem gcons {is js : List Nat} {g : FG} {h : List D → Env → Option Env} (h1 : DG X is e g) (h2 : DGs X js es h) (hs : (assignEach (e :: es) X.env).map (·.2) = assign e X.env :: (assignEach es X.env).map (·.2) := by rfl) : DGs X (is ++ js) (e :: es) (consG g h) :=
  PGs.imp (pgs_cons h1 h2 hs) fun v σ H Q q => by
    obtain ⟨ad, r, m, ds, rm, re, rd, r', eq, q⟩ := q
    cases ds with
    | nil => cases eq
    | cons d ds =>
      obtain ⟨w, rest, rfl, r1, r2⟩ := rd
      cases e1 : g d r with
      | none => simp [consG, e1] at eq
      | some ra =>
        simp only [consG, e1, Option.bind_some] at eq
        exact ⟨w, rest, rfl, ad, r, m, d, rm, re, r1, ra, e1, fun σ' re' a1 => ⟨ad, ra, m, ds, rm, re', r2, r', eq, fun σ2 re2 a2 => q σ2 re2 (a1.trans a2)⟩⟩
theorem gtup {is : List Nat} {k : Nat} {h : List D → Env → Option Env} (hc : X.calm = true) (hh : DGs X is es h) (n : Nat) (hl : ∀ ds r r', h ds r = some r' → ds.length = n)
    (hn : (assignEach es X.env).length = n := by rfl) (hst : (assignEach es X.env).findIdx? (·.1) = none := by rfl) : DG X is (.Tuple es k pos) (tupG h) :=
  PG.imp (pg_tup hc hh hn hst) fun v σ H Q q => by
    obtain ⟨ad, r, m, d, rm, re, rd, r', eq, q⟩ := q
    cases d with
    | tup ds =>
      obtain ⟨a, vs, rfl, t, rl⟩ := rd
      exact ⟨a, vs, rfl, t, by rw [← rl.length]; exact hl _ _ _ eq, ad, r, m, ds, rm, re, rl, r', eq, q⟩
    | _ => cases eq
theorem lenG0 : ∀ ds r r', nilG ds r = some r' → ds.length = 0 := fun ds r r' h => by
  cases ds with
  | nil => rfl
  | cons _ _ => cases h
theorem lenGS {g : FG} {h : List D → Env → Option Env} {n : Nat} (hl : ∀ ds r r', h ds r = some r' → ds.length = n) : ∀ ds r r', consG g h ds r = some r' → ds.length = n + 1 := fun ds r r' e => by
  cases ds with
  | nil => cases e
  | cons d ds =>
    cases e1 : g d r with
    | none => simp [consG, e1] at e
    | some ra =>
      simp only [consG, e1, Option.bind_some] at e
      rw [List.length_cons, hl _ _ _ e]
theorem sasg {is : List Nat} {tg : Expr} {g : FG} (he : DE X cl W e fa) (hg : DG X is tg g) (hs : swapsWithSole [tg] e pos.line X.env = pure false := by rfl) (hw : swappedStores [tg] e X.env = pure none := by rfl)
    (h1 : (assignEach [tg] X.env).map (·.2) = [assign tg X.env] := by rfl) : DS X cl W (.Assign [tg] e pos) (asgG g fa) := PS.imp (ps_asg he hg hs hw h1) fun σ H D h => by
  obtain ⟨ad, r, m, rm, re, h⟩ := h
  refine tE_of rm re h fun ad1 H1 m1 x v x1 rm1 re1 rd h2 => ?_
  cases eg : g x r with
  | none => rw [eg] at h2; exact h2.elim
  | some r' =>
    rw [eg] at h2
    exact ⟨ad1, r, m1, x, rm1, re1, rd, r', eg, fun σ' re' _ => h2 ad1 H1 σ' Ext.refl rm1 re'⟩
theorem spar {i j : Nat} {x y : Str} {p1 p2 : Expr} {px py pt : Pos} {kt k2 pt2} (hc : X.calm = true) (hN : X.N.Nodup) (ha : DA X cl W [p1, p2] fs) (hi : X.N[i]? = some x := by rfl) (hj : X.N[j]? = some y := by rfl) (hij : i ≠ j := by decide)
    (hx : X.env.scope.names.lookup x = some .local := by rfl) (hy : X.env.scope.names.lookup y = some .local := by rfl)
    (hw : swappedStores [.Tuple [.Name x px, .Name y py] kt pt] (.Tuple [p1, p2] k2 pt2) X.env = pure (some [x, y]) := by rfl)
    (hs : swapsWithSole [.Tuple [.Name x px, .Name y py] kt pt] (.Tuple [p1, p2] k2 pt2) pos.line X.env = pure false := by rfl) :
    DS X cl W (.Assign [.Tuple [.Name x px, .Name y py] kt pt] (.Tuple [p1, p2] k2 pt2) pos) (parS i j fs) := PS.imp (ps_par hc hN hi hj hij hx hy ha hw hs) fun σ H D h => by
  obtain ⟨ad, r, m, rm, re, h⟩ := h
  refine tA_of rm re h fun ad1 H1 m1 ds vs x1 rm1 re1 rd h2 => ?_
  match ds, rd, h2 with
  | [a, b], rd, h2 =>
    obtain ⟨v, u, rfl, r1, r2⟩ := repl2 rd
    exact ⟨v, u, rfl, h2 ad1 H1 _ Ext.refl rm1 ((re1.set i r1).set j r2)⟩
  | [], _, h2 => exact h2.elim
  | [_], _, h2 => exact h2.elim
  | _ :: _ :: _ :: _, _, h2 => exact h2.elim
/-- o[i] = e -/
theorem ssub {o i : Expr} {fo fi : FE} {p2 : Pos} (he : DE X cl W e fa) (ho : DE X cl W o fo) (hi : DE X cl W i fi)
    (ha : ∀ v, assign (.Subscript o i p2) X.env v = (do
      let ov ← holding [v] (eval o X.env)
      let iv ← holding [v, ov] (eval i X.env)
      standAt p2
      holding [v, ov, iv] (setItem ov iv v)
      release [v, ov, iv] []) := by intro _; rfl) (hs : swapsWithSole [.Subscript o i p2] e pos.line X.env = pure false := by rfl) (hw : swappedStores [.Subscript o i p2] e X.env = pure none := by rfl)
    (h1 : (assignEach [.Subscript o i p2] X.env).map (·.2) = [assign (.Subscript o i p2) X.env] := by rfl) : DS X cl W (.Assign [.Subscript o i p2] e pos) (setG fo fi fa) :=
  PS.imp (ps_asg he (pg_sub ho hi set_list ha) hs hw h1) fun σ H D h => by
    obtain ⟨ad, r, m, rm, re, h⟩ := h
    refine tE_of rm re h fun ad1 H1 m1 x v x1 rm1 re1 rd h1 => ?_
    refine tE_of rm1 re1 h1 fun ad2 H2 m2 y u x2 rm2 re2 rd2 h2 => ?_
    refine tE_of rm2 re2 h2 fun ad3 H3 m3 z w x3 rm3 re3 rd3 h3 => ?_
    cases y with
    | ref n =>
      cases z with
      | int k =>
        obtain ⟨a, rfl, ea⟩ := RepD.mono x3 _ _ rd2
        cases (show w = .int k from rd3)
        cases em : m3[n]? with
        | none => simp only [em] at h3; exact h3.elim
        | some mo =>
          cases mo with
          | lst xs =>
            simp only [em] at h3
            cases ej : ixN xs.length k with
            | none => simp only [ej] at h3; exact h3.elim
            | some j =>
              simp only [ej] at h3
              obtain ⟨vs, q1, rl⟩ := rm3.obj n _ a em ea
              obtain ⟨rmw, xw⟩ := rm3.writeL ea em q1 (RepL.set (RepD.mono x3 _ _ (RepD.mono x2 _ _ rd)) j rl)
              refine ⟨a, vs, k, j, rfl, rfl, q1, by rw [← rl.length]; exact ej, ?_⟩
              exact h3 ad3 _ σ xw rmw (RepE.mono xw re3)
          | _ => simp only [em] at h3; exact h3.elim
      | _ => exact h3.elim
    | _ => exact h3.elim
end
end Mi

end

section
set_option Elab.async false
set_option linter.all false
set_option maxRecDepth 100000
set_option maxHeartbeats 4000000
namespace Mi
open PySem PySem.Spec L2
open PyProof.Rows hiding St
open scoped Classical

/-! ## what is walked -/
def WalkOf (K : PySem.W.Frag) (J : It) (H : Hp) (ad : List Addr) (s : Src) : Prop := ∀ ad2 H2 m2, Ext K H ad H2 ad2 → RepM K ad2 m2 H2 → s.still m2 → ∀ i : Nat,
  (∀ d, s.items[i]? = some d → J.go i H2 ∧ ∀ x H3, J.yld i H2 x H3 → Ext K H2 ad2 H3 ad2 ∧ RepM K ad2 m2 H3 ∧ RepD K H3 ad2 d x) ∧ (s.items.length ≤ i → J.stop i H2)
def tI (K : PySem.W.Frag) (cl : String → Addr) (W : WX) (fi : FI) : TI := fun σ H R => St0 K σ H fun ad r m => Fin K cl W σ H ad (fun s m1 => ∀ ad1 H1 J, Ext K H ad H1 ad1 → RepM K ad1 m1 H1 → WalkOf K J H1 ad1 s → R J H1) (fi r m)
abbrev DI (X : Cx) (cl : String → Addr) (W : WX) (tg it : Expr) (fi : FI) : Prop := PI X tg it (tI X.K cl W fi)
theorem PI.imp {X : Cx} {tg e : Expr} {t t' : TI} (h : PI X tg e t) (i : ∀ σ H Q, t' σ H Q → t σ H Q) : PI X tg e t' := ⟨fun pins s σ H Q I q => h.run pins s σ H Q I (i _ _ _ q)⟩
def strItems (z : Str) : List D := z.cps.toList.map fun c => .str ⟨#[c]⟩
def srcE (f : FE) : FI := fun r m => (f r m).bind fun d m1 => match d with
  | .tup ds => .ok (.fix ds) m1
  | .ref n => match itemsOf m1 n with
    | some ds => .ok (.lst n ds) m1
    | none => .bad
  | .str z => .ok (.fix (strItems z)) m1
  | _ => .bad
def iotaD (lo : Int) (n : Nat) : List D := (List.range n).map fun (k : Nat) => D.int (lo + (k : Int))
abbrev okI (i : Int) : Prop := -(2 ^ 62) ≤ i ∧ i < 2 ^ 62
noncomputable def rng1 (f : FA) : FI := fun r m => (f r m).bind fun ds m1 => match ds with
  | [.int j] => if okI j then .ok (.fix (iotaD 0 j.toNat)) m1 else .bad
  | _ => .bad
noncomputable def rng2 (f : FA) : FI := fun r m => (f r m).bind fun ds m1 => match ds with
  | [.int i, .int j] => if okI i ∧ okI j then .ok (.fix (iotaD i (j - i).toNat)) m1 else .bad
  | _ => .bad

section
variable {K : PySem.W.Frag} {H : Hp} {ad : List Addr}
theorem walk_tup {a : Addr} {ds : List D} {vs : List V} (t : SqT K H a vs) (r : RepL K H ad ds vs) : WalkOf K (Itt K a) H ad (.fix ds) := by
  intro ad2 H2 m2 x rm _ i
  have t2 := x.tup _ _ t
  have r2 := RepL.mono x ds vs r
  refine ⟨fun d e => ?_, fun hl => ⟨vs, t2, by rw [← r.length]; exact hl⟩⟩
  obtain ⟨v, e1, e2⟩ := r2.get e
  refine ⟨⟨vs, v, t2, e1⟩, fun y H3 hy => ?_⟩
  obtain ⟨rfl, f⟩ := hy
  have ev : y = v := Option.some.inj ((f vs t2).symm.trans e1)
  subst ev
  exact ⟨Ext.refl, rm, e2⟩
theorem walk_lst {a : Addr} {n : Nat} {ds : List D} (ea : ad[n]? = some a) : WalkOf K (Itl K a) H ad (.lst n ds) := by
  intro ad2 H2 m2 x rm hs i
  obtain ⟨vs, h1, h2, _⟩ := rm.items (pre_get x.pre ea) (show itemsOf m2 n = some ds from hs)
  refine ⟨fun d e => ?_, fun hl => ⟨vs, h1, by rw [← h2.length]; exact hl⟩⟩
  obtain ⟨v, e1, e2⟩ := h2.get e
  refine ⟨⟨vs, v, h1, e1⟩, fun y H3 hy => ?_⟩
  obtain ⟨rfl, f⟩ := hy
  have ev : y = v := Option.some.inj ((f vs h1).symm.trans e1)
  subst ev
  exact ⟨Ext.refl, rm, e2⟩
theorem iotaD_get {lo : Int} {n i : Nat} {d : D} (e : (iotaD lo n)[i]? = some d) : i < n ∧ d = .int (lo + i) := by
  unfold iotaD at e
  rw [List.getElem?_map] at e
  cases q : (List.range n)[i]? with
  | none => rw [q] at e; cases e
  | some k =>
    rw [q] at e
    obtain ⟨h1, h2⟩ := List.getElem?_eq_some_iff.mp q
    rw [List.getElem_range] at h2
    subst h2
    cases e
    exact ⟨by simpa using h1, rfl⟩
theorem iotaD_length {lo : Int} {n : Nat} : (iotaD lo n).length = n := by simp [iotaD]
theorem walk_rng {lo : Int} {n : Nat} : WalkOf K (Itr lo n) H ad (.fix (iotaD lo n)) := by
  intro ad2 H2 m2 x rm _ i
  refine ⟨fun d e => ?_, fun hl => by rw [show (Src.fix (iotaD lo n)).items = iotaD lo n from rfl, iotaD_length] at hl; exact hl⟩
  obtain ⟨hi, rfl⟩ := iotaD_get e
  refine ⟨hi, fun y H3 hy => ?_⟩
  obtain ⟨rfl, rfl⟩ := hy
  exact ⟨Ext.refl, rm, rfl⟩
theorem walk_str {z : Str} : WalkOf K (Its z) H ad (.fix (strItems z)) := by
  intro ad2 H2 m2 x rm _ i
  refine ⟨fun d e => ?_, fun hl => ?_⟩
  · have e : (strItems z)[i]? = some d := e
    unfold strItems at e
    rw [List.getElem?_map, Array.getElem?_toList] at e
    cases q : z.cps[i]? with
    | none => rw [q] at e; cases e
    | some c =>
      rw [q] at e
      cases e
      refine ⟨(Array.getElem?_eq_some_iff.mp q).1, fun y H3 hy => ?_⟩
      obtain ⟨rfl, c', e1, rfl⟩ := hy
      rw [q] at e1
      cases e1
      exact ⟨Ext.refl, rm, rfl⟩
  · have hl : (strItems z).length ≤ i := hl
    show z.cps.size ≤ i
    simpa [strItems] using hl
end
section
variable {X : Cx} {cl : String → Addr} {W : WX} {tg e : Expr} {es : List Expr} {fa : FE} {fs : FA} {pos : Pos}
/-- for x in e: a list, a tuple, a text -/
theorem ival (he : DE X cl W e fa) : DI X cl W tg e (srcE fa) := by
  refine ⟨fun pins s σ H R I h => ?_⟩
  obtain ⟨ad, r, m, rm, re, h⟩ := h
  have h' : tE X.K cl W fa σ H fun v H1 => ∃ ad1 m1 d, Ext X.K H ad H1 ad1 ∧ RepM X.K ad1 m1 H1 ∧ RepD X.K H1 ad1 d v ∧ Fin X.K cl W σ H ad (fun s m1 => ∀ ad1 H1 J, Ext X.K H ad H1 ad1 → RepM X.K ad1 m1 H1 → WalkOf X.K J H1 ad1 s → R J H1) (match d with
      | .tup ds => .ok (.fix ds) m1
      | .ref n => match itemsOf m1 n with
        | some ds => .ok (.lst n ds) m1
        | none => .bad
      | .str z => .ok (.fix (strItems z)) m1
      | _ => .bad) := tE_go rm re h fun ad1 H1 m1 x v x1 rm1 re1 rd h1 => ⟨ad1, m1, x, x1, rm1, rd, h1⟩
  refine thn (he.run pins s σ H _ I h') fun v s1 ⟨y, H1, I1, r1, q1⟩ => ?_
  obtain ⟨ad1, m1, d, x1, rm1, rd, q⟩ := q1
  cases d with
  | tup ds =>
    obtain ⟨a, vs, rfl, t, rl⟩ := rd
    cases r1
    obtain ⟨its, rv, p, hz⟩ := I1.tuple t
    refine wpAny_pyIter_tuple (show s1.heap.IsTuple a its.toArray from p) ?_
    refine ⟨s1.heap.objs.size, [s1.heap.objs.size], _, _, H1, rfl, I1.kept (t' := s1.toks) fun b o e => Heap.get?_push_of_some _ e, turn_tuple a _, ⟨_, Heap.get?_push_size _ rfl, rfl, rfl⟩, fun b hb => ?_, q ad1 H1 _ x1 rm1 (walk_tup t rl)⟩
    have e : b = s1.heap.objs.size := by simpa using hb
    subst e
    exact I1.fpOk (Nat.le_refl _) (I1.hok.fresh (Nat.le_refl _))
  | ref n =>
    cases ei : itemsOf m1 n with
    | none => simp only [ei] at q; exact q.elim
    | some ds =>
      simp only [ei] at q
      obtain ⟨a, rfl, ea⟩ := rd
      cases r1
      obtain ⟨vs, t, rl, _⟩ := rm1.items ea ei
      obtain ⟨its, rv, p, hz⟩ := I1.list t
      refine wpAny_pyIter_list p.isList ?_
      refine ⟨s1.heap.objs.size, [s1.heap.objs.size], _, _, H1, rfl, I1.kept (t' := s1.toks) fun b o e => Heap.get?_push_of_some _ e, turn_list a _, ⟨_, Heap.get?_push_size _ rfl, rfl, rfl⟩, fun b hb => ?_, q ad1 H1 _ x1 rm1 (walk_lst ea)⟩
      have e : b = s1.heap.objs.size := by simpa using hb
      subst e
      exact I1.fpOk (Nat.le_refl _) (I1.hok.fresh (Nat.le_refl _))
  | str z =>
    cases (show y = .str z from rd)
    obtain ⟨t, rfl⟩ := r1
    have q' := q ad1 H1 _ x1 rm1 (walk_str (z := z))
    cases ha : z.cps.all (· < 128)
    · exact wpAny_pyIter_wide ha (pi_one (tk := s1.toks) I1 _ (turn_str _ z t "str_iterator" (.inr rfl)) ⟨_, Heap.get?_push_size _ rfl, rfl, rfl⟩ q')
    · exact wpAny_pyIter_ascii ha (pi_one (tk := s1.toks) I1 _ (turn_str _ z t "str_ascii_iterator" (.inl rfl)) ⟨_, Heap.get?_push_size _ rfl, rfl, rfl⟩ q')
  | _ => exact q.elim
theorem irng1 {a : Expr} {p : Pos} (hg : Gl X "range") (hm : X.mg "range" = none) (ha : DA X cl W [a] fs) (hs : starEach [a] X.env = [(false, eval a X.env)] := by rfl) : DI X cl W tg (.Call (.Name "range" p) [a] [] pos) (rng1 fs) :=
  PI.imp (pi_range1 hg hm ha hs) fun σ H R h => by
    obtain ⟨ad, r, m, rm, re, h⟩ := h
    refine tA_go rm re h fun ad1 H1 m1 ds vs x1 rm1 re1 rd h1 => ?_
    match ds, rd, h1 with
    | [.int j], rd, h1 =>
      obtain ⟨v, rfl, rv⟩ := repl1 rd
      cases (show v = .int j from rv)
      by_cases hj : okI j
      · simp only [if_pos hj] at h1
        exact ⟨j, rfl, hj.1, hj.2, h1 ad1 H1 _ x1 rm1 walk_rng⟩
      · simp only [if_neg hj] at h1
        exact h1.elim
    | [], _, h1 => exact h1.elim
    | [.non], _, h1 => exact h1.elim
    | [.bl _], _, h1 => exact h1.elim
    | [.str _], _, h1 => exact h1.elim
    | [.tup _], _, h1 => exact h1.elim
    | [.ref _], _, h1 => exact h1.elim
    | [.exn _], _, h1 => exact h1.elim
    | a :: _ :: _, _, h1 => cases a <;> exact h1.elim
theorem irng2 {a b : Expr} {p : Pos} (hg : Gl X "range") (hm : X.mg "range" = none) (ha : DA X cl W [a, b] fs) (hs : starEach [a, b] X.env = [(false, eval a X.env), (false, eval b X.env)] := by rfl) (hs2 : starEach [b] X.env = [(false, eval b X.env)] := by rfl) : DI X cl W tg (.Call (.Name "range" p) [a, b] [] pos) (rng2 fs) :=
  PI.imp (pi_range2 hg hm ha hs hs2) fun σ H R h => by
    obtain ⟨ad, r, m, rm, re, h⟩ := h
    refine tA_go rm re h fun ad1 H1 m1 ds vs x1 rm1 re1 rd h1 => ?_
    split at h1
    · rename_i i j
      obtain ⟨v, u, rfl, rv, ru⟩ := repl2 rd
      cases (show v = .int i from rv)
      cases (show u = .int j from ru)
      by_cases hj : okI i ∧ okI j
      · rw [if_pos hj] at h1
        exact ⟨i, j, rfl, ⟨hj.1.1, hj.1.2, hj.2.1, hj.2.2⟩, h1 ad1 H1 _ x1 rm1 walk_rng⟩
      · rw [if_neg hj] at h1
        exact h1.elim
    · exact h1.elim
end

/-! ## for, while -/
section
variable {K : PySem.W.Frag} {cl : String → Addr} {W : WX}
theorem for_core {J : It} {s : Src} {g : FG} {is : List Nat} {f : FS} {D : Ends} {σ0 : St} {H0 : Hp} {ad0 : List Addr} (wk : WalkOf K J H0 ad0 s) {r0 : Env} {m0 : Mem} (rm0 : RepM K ad0 m0 H0) (re0 : RepE K H0 ad0 r0 σ0)
    (h0 : FinS K cl W H0 ad0 D (forL s g f s.items r0 m0)) :
    ∃ Wi : Nat → Nat → St → Hp → Prop, (∃ m, Wi 0 m σ0 H0) ∧ ∀ i m σ H, Wi i m σ H →
      (J.stop i H ∧ D.nx σ H) ∨ (J.go i H ∧ ∃ N : St → Hp → Prop, (∀ σ' H', N σ' H' → ∃ m', m' < m ∧ Wi (i + 1) m' σ' H') ∧ ∀ x H', J.yld i H x H' → gT K is g x σ H' fun σ2 H2 => tS K cl W f { D with nx := N, ct := N, bk := D.nx } σ2 H2) := by
  refine ⟨fun i k σ H => k = s.items.length - i ∧ i ≤ s.items.length ∧ ∃ ad r m, Ext K H0 ad0 H ad ∧ RepM K ad m H ∧ RepE K H ad r σ ∧ FinS K cl W H ad D (forL s g f (s.items.drop i) r m),
    ⟨_, rfl, Nat.zero_le _, ad0, r0, m0, Ext.refl, rm0, re0, h0⟩, ?_⟩
  rintro i k σ H ⟨rfl, hi, ad, r, m, x, rm, re, h⟩
  cases ed : s.items.drop i with
  | nil =>
    rw [ed, forL] at h
    have hl : s.items.length ≤ i := List.drop_eq_nil_iff.mp ed
    by_cases st : s.still m
    · rw [if_pos st] at h
      exact .inl ⟨(wk ad H m x rm st i).2 hl, h ad H σ Ext.refl rm re⟩
    · rw [if_neg st] at h
      exact h.elim
  | cons d rest =>
    rw [ed, forL] at h
    have hlt : i < s.items.length := by
      have := congrArg List.length ed
      simp at this
      omega
    have e0 : s.items[i]? = some d := by
      have := congrArg (fun l => l[0]?) ed
      simpa using this
    have e1 : s.items.drop (i + 1) = rest := by
      have := congrArg List.tail ed
      simpa using this
    by_cases st : s.still m
    · rw [if_pos st] at h
      obtain ⟨go, yl⟩ := (wk ad H m x rm st i).1 d e0
      refine .inr ⟨go, fun σ' H' => ∃ ad' r' m', Ext K H0 ad0 H' ad' ∧ RepM K ad' m' H' ∧ RepE K H' ad' r' σ' ∧ FinS K cl W H' ad' D (forL s g f rest r' m'), fun σ' H' hN => ⟨_, by omega, rfl, hlt, by rw [e1]; exact hN⟩, fun y H3 hy => ?_⟩
      obtain ⟨x3, rm3, rd3⟩ := yl y H3 hy
      cases eg : g d r with
      | none => rw [eg] at h; exact h.elim
      | some r1 =>
        rw [eg] at h
        refine ⟨ad, r, m, d, rm3, RepE.mono x3 re, rd3, r1, eg, fun σ2 re2 _ => ⟨ad, r1, m, rm3, re2, ?_⟩⟩
        show FinS K cl W H3 ad _ (f r1 m)
        dsimp only at h
        cases ef : f r1 m with
        | ok fl r2 m2 =>
          rw [ef] at h
          cases fl with
          | nx => exact fun ad4 H4 σ4 x4 rm4 re4 => ⟨ad4, r2, m2, x.trans (x3.trans x4), rm4, re4, FinS.mono (x3.trans x4) h⟩
          | ct => exact fun ad4 H4 σ4 x4 rm4 re4 => ⟨ad4, r2, m2, x.trans (x3.trans x4), rm4, re4, FinS.mono (x3.trans x4) h⟩
          | bk => exact fun ad4 H4 σ4 x4 rm4 re4 => h ad4 H4 σ4 (x3.trans x4) rm4 re4
          | rt d' => exact fun ad4 H4 σ4 x4 rm4 re4 => h ad4 H4 σ4 (x3.trans x4) rm4 re4
        | exc c r2 m2 =>
          rw [ef] at h
          exact fun ad4 H4 σ4 x4 rm4 re4 => h ad4 H4 σ4 (x3.trans x4) rm4 re4
        | bad => rw [ef] at h; exact h.elim
    · rw [if_neg st] at h
      exact h.elim
end
section
variable {X : Cx} {cl : String → Addr} {W : WX} {tg e it c : Expr} {es : List Expr} {body : List Stmt} {fa : FE} {fs : FA} {f : FS} {pos : Pos}
theorem sfor {is : List Nat} {fi : FI} {g : FG} (hp : PassesOwn (model X.prog X.w) X.A X.env X.xe) (hc : X.calm = true) (hi : DI X cl W tg it fi) (hg : DG X is tg g) (hb : DSs X cl W body f)
    (hs : ∀ x, foldedSetIterable it X.env x = pure x := by intro _; rfl) : DS X cl W (.For tg it body [] pos) (forS fi g f) := PS.imp (ps_for hp hc hi hg hb hs) fun σ H D h => by
  obtain ⟨ad, r, m, rm, re, h⟩ := h
  refine ⟨ad, r, m, rm, re, ?_⟩
  show Fin X.K cl W σ H ad _ (fi r m)
  unfold forS at h
  cases ei : fi r m with
  | ok s m1 =>
    rw [ei] at h
    exact fun ad1 H1 J x1 rm1 wk => for_core wk rm1 (RepE.mono x1 re) (FinS.mono x1 h)
  | exc c m1 =>
    rw [ei] at h
    exact fun ad1 H1 x1 rm1 => h ad1 H1 σ x1 rm1 (RepE.mono x1 re)
  | bad => rw [ei] at h; exact h.elim
theorem swhile {t : FT} (hp : PassesOwn (model X.prog X.w) X.A X.env X.xe) (hc : DT X cl W c t) (hb : DSs X cl W body f) : DS X cl W (.While c body [] pos) (whileS t f) := PS.imp (ps_while hp hc hb) fun σ H D h => by
  obtain ⟨ad, r, m, rm, re, h⟩ := h
  unfold whileS at h
  by_cases hn : ∃ n, whileN t f n r m ≠ .bad
  · rw [dif_pos hn] at h
    generalize Classical.choose hn = n at h
    refine ⟨fun n σ H => ∃ ad r m, RepM X.K ad m H ∧ RepE X.K H ad r σ ∧ FinS X.K cl W H ad D (whileN t f n r m), ⟨n, ad, r, m, rm, re, h⟩, ?_⟩
    rintro n σ H ⟨ad, r, m, rm, re, h⟩
    cases n with
    | zero => exact h.elim
    | succ n =>
      rw [whileN] at h
      refine tT_of rm re h fun ad1 H1 m1 b x1 rm1 re1 h1 => ?_
      cases b with
      | false => exact iteF (h1 ad1 H1 σ Ext.refl rm1 re1)
      | true =>
        refine iteT ⟨fun σ H => ∃ ad r m, RepM X.K ad m H ∧ RepE X.K H ad r σ ∧ FinS X.K cl W H ad D (whileN t f n r m), fun σ' H' hN => ⟨n, Nat.lt_succ_self n, hN⟩, ad1, r, m1, rm1, re1, ?_⟩
        show FinS X.K cl W H1 ad1 _ (f r m1)
        simp only [if_true] at h1
        cases ef : f r m1 with
        | ok fl r2 m2 =>
          rw [ef] at h1
          cases fl with
          | nx => exact fun ad4 H4 σ4 x4 rm4 re4 => ⟨ad4, r2, m2, rm4, re4, FinS.mono x4 h1⟩
          | ct => exact fun ad4 H4 σ4 x4 rm4 re4 => ⟨ad4, r2, m2, rm4, re4, FinS.mono x4 h1⟩
          | bk => exact fun ad4 H4 σ4 x4 rm4 re4 => h1 ad4 H4 σ4 x4 rm4 re4
          | rt d' => exact fun ad4 H4 σ4 x4 rm4 re4 => h1 ad4 H4 σ4 x4 rm4 re4
        | exc c r2 m2 =>
          rw [ef] at h1
          exact fun ad4 H4 σ4 x4 rm4 re4 => h1 ad4 H4 σ4 x4 rm4 re4
        | bad => rw [ef] at h1; exact h1.elim
  · rw [dif_neg hn] at h
    exact h.elim
/-! ## append -/
def appE (fo fe : FE) : FE := fun r m => (fo r m).bind fun x m1 => match x with
  | .ref n => match m1[n]? with
    | some (.lst _) => (fe r m1).bind fun d m2 => match m2[n]? with
      | some (.lst xs) => if xs.length < sizeLine then .ok .non (m2.set n (.lst (xs ++ [d]))) else .bad
      | _ => .bad
    | _ => .bad
  | _ => .bad
theorem dapp {o : Expr} {fo : FE} {apos : Pos} (ho : DE X cl W o fo) (ha : DE X cl W e fa)
    (hbase : attributeBase o "append" X.env (eval o X.env) = eval o X.env := by rfl)
    (hfew : ((backTo pos (starEach [e] X.env)).all (fun x => !x.1) && (backToKw pos (keywordEach [] X.env)).all (fun x => x.1.isSome)
      && decide ([e].length + ([] : List Keyword).length + (if ([] : List Keyword).isEmpty then 0 else 1) < 30)) = true := by rfl)
    (hline : (apos.endLine == pos.line) = true := by rfl) (hs : starEach [e] X.env = (false, eval e X.env) :: starEach [] X.env := by rfl) (hplain : (backTo pos (starEach [] X.env)).any (·.1) = false := by rfl) :
    DE X cl W (.Call (.Attribute o "append" apos) [e] [] pos) (appE fo fa) :=
  PE.imp (pe_bm PySem.F.plainAttrs_list PySem.F.slot_list_append PySem.F.type_list_append mt_append ho (pa_cons ha pa_nil hs) hbase hfew hline hs hplain) fun σ H Q h => by
    obtain ⟨ad, r, m, rm, re, h⟩ := h
    refine tE_go rm re h fun ad1 H1 m1 x v x1 rm1 re1 rd h1 => ?_
    cases x with
    | ref n =>
      cases em : m1[n]? with
      | none => simp only [em] at h1; exact h1.elim
      | some mo =>
        cases mo with
        | lst ys =>
          simp only [em] at h1
          obtain ⟨a, rfl, ea⟩ := rd
          obtain ⟨vs1, q1, rl1⟩ := rm1.obj n _ a em ea
          refine ⟨.inl ⟨rfl, vs1, .of q1⟩, ?_⟩
          refine tE_go rm1 re1 (Fin.mono x1 (fun _ _ q => OkQ.mono x1 q) h1) fun ad2 H2 m2 y u x2 rm2 re2 rd2 h2 => ?_
          cases em2 : m2[n]? with
          | none => simp only [em2] at h2; exact h2.elim
          | some mo2 =>
            cases mo2 with
            | lst xs =>
              simp only [em2] at h2
              have ea2 := pre_get x2.pre ea
              obtain ⟨vs, q2, rl⟩ := rm2.obj n _ a em2 ea2
              split at h2
              · rename_i hz
                obtain ⟨rmw, xw⟩ := rm2.writeL ea2 em2 q2 (rl.app (RepL.one rd2))
                exact ⟨a, vs, u, rfl, rfl, q2, by rw [← rl.length]; exact hz, h2 ad2 _ .non (x2.trans xw) rmw rfl⟩
              · exact h2.elim
            | _ => simp only [em2] at h2; exact h2.elim
        | _ => simp only [em] at h1; exact h1.elim
    | _ => exact h1.elim
/-! ## calls of own defs -/
theorem fin_sp {K : PySem.W.Frag} {σ : St} {H : Hp} {ad : List Addr} {Q : VK} {G : Fn} {ds : List D} {m : Mem} {vs : List V} (rm : RepM K ad m H) (rl : RepL K H ad ds vs) (h : Fin K cl W σ H ad (OkQ K H ad Q) (G ds m)) : spF K cl G vs H Q (WE W σ) := by
  refine ⟨ad, m, ds, rm, rl, ?_⟩
  cases e : G ds m with
  | ok d m' => rw [e] at h; exact h
  | exc c m' => rw [e] at h; exact h
  | bad => rw [e] at h; exact h.elim
theorem dcall {k : Nat} {fn : Addr} {fd : FuncData} {ps : List Str} {x : Str} {p : Pos} {G : Fn} (F : FnOk X.prog X.w X.K X.mg X.base (L2.CX X.prog X.w) k fn fd ps (spF X.K cl G)) (hr : Room k X.A) (tk : Takes X W) (hm : X.mg x = some (.ref fn)) (hk : PySem.W.keepIn X.K (.ref fn) = true) (hb : Binds X.K fd ps [])
    (ha : DA X cl W (e :: es) fs) (hg : Gl X x := by rfl) (hdb : (x == ("__debug__" : Str)) = false := by decide) (he : starEach (e :: es) X.env = (false, eval e X.env) :: starEach es X.env := by rfl) (hpl : (backTo pos (starEach es X.env)).any (·.1) = false := by rfl) :
    DE X cl W (.Call (.Name x p) (e :: es) [] pos) (callE G fs) := PE.imp (pe_callS F hr hg hm hk hb (fun σ => passAt tk σ) ha hdb he hpl) fun σ H Q h => by
  obtain ⟨ad, r, m, rm, re, h⟩ := h
  exact tA_go rm re h fun ad1 H1 m1 ds vs x1 rm1 re1 rd h1 => fin_sp rm1 rd (Fin.mono x1 (fun _ _ q => OkQ.mono x1 q) h1)
end

/-! ## a def -/
theorem repE_start {K : PySem.W.Frag} {H : Hp} {ad : List Addr} {ds : List D} {vs : List V} (N : List Str) (rl : RepL K H ad ds vs) : RepE K H ad (startE N.length ds) (L2.start N vs) := by
  have hl := rl.length
  refine ⟨by simp [startE, L2.start, hl], fun i d e => ?_⟩
  unfold startE at e
  unfold L2.start
  by_cases hi : i < ds.length
  · rw [List.getElem?_append_left (by simpa using hi), List.getElem?_map] at e
    cases q : ds[i]? with
    | none => rw [q] at e; cases e
    | some d' =>
      rw [q] at e
      cases e
      obtain ⟨v, e1, e2⟩ := rl.get q
      exact ⟨v, by rw [List.getElem?_append_left (by simpa [← hl] using hi), List.getElem?_map, e1]; rfl, e2⟩
  · rw [List.getElem?_append_right (by simpa using hi), List.getElem?_replicate] at e
    split at e <;> cases e
section
variable {P : Program} {w : World} {K : PySem.W.Frag} {mg : Str → Option Value} {base : Heap} {cl : String → Addr}
theorem fdef {x qual : Str} {st : Stmt} {f : Addr} {fd : FuncData} {N ps : List Str} {k : Nat} {body : FS} (F : Fun K x qual st f fd) (S : FnScope N ps (defScope st))
    (hb : ∀ (cdv : Value) (A : Around) (outer : List PySem.Env) (s : Shared) (H : Hp) (E : XK), Room k (A.deeper (envOfC qual (defScope st) s.heap.objs.size f cdv)) →
      DSs (cxOf (L2.CX P w) P w K mg base N qual (defScope st) f cdv A outer s H E) cl (fun cls d _ H => E cls d H) (defBody st) body) :
    FnOk P w K mg base (L2.CX P w) (k + 1) f fd ps (spF K cl (defF N.length ps.length body)) := by
  refine F.okX S (fun vs H Q E h => ?_) (fun cdv A outer s H vs Q E hr h => ⟨_, hb cdv A outer s H E hr, ?_⟩)
  · obtain ⟨ad, m, ds, rm, rl, h⟩ := h
    unfold defF at h
    rw [← rl.length]
    by_cases hl : ds.length = ps.length
    · exact hl
    · rw [if_neg hl] at h
      exact h.elim
  · obtain ⟨ad, m, ds, rm, rl, h⟩ := h
    refine ⟨ad, startE N.length ds, m, rm, repE_start N rl, ?_⟩
    unfold defF at h
    by_cases hl : ds.length = ps.length
    · rw [if_pos hl] at h
      show FinS K cl _ H ad _ (body (startE N.length ds) m)
      cases e : body (startE N.length ds) m with
      | ok fl r' m' =>
        rw [e] at h
        cases fl with
        | nx => exact fun ad1 H1 σ1 x1 rm1 re1 => h ad1 H1 .non x1 rm1 rfl
        | rt d => exact fun ad1 H1 σ1 x1 rm1 re1 v rd => h ad1 H1 v x1 rm1 rd
        | bk => exact h.elim
        | ct => exact h.elim
      | exc c r' m' =>
        rw [e] at h
        exact fun ad1 H1 σ1 x1 rm1 re1 => h ad1 H1 x1 rm1
      | bad => rw [e] at h; exact h.elim
    · rw [if_neg hl] at h
      exact h.elim
end
end Mi

end

section
set_option Elab.async false
set_option linter.all false
set_option maxRecDepth 100000
set_option maxHeartbeats 4000000
namespace Mi
open PySem PySem.Spec L2
open PyProof.Rows hiding St
open scoped Classical

/-! ## comprehensions -/
def wipeE (r : Env) : List Nat → Env
  | [] => r
  | v :: vs => (wipeE r vs).set v none
abbrev W0 : WX := fun _ _ _ _ => False
def yesT : FT := fun _ m => .ok true m
noncomputable def compL (s : Src) (tg : FG) (c : FT) (f : FE) (k : Nat) (r0 : Env) : List D → Mem → Res D
  | [], m => if s.still m then .ok (.ref k) m else .bad
  | d :: ds, m => if s.still m then match tg d r0 with
      | none => .bad
      | some r1 => match c r1 m with
        | .ok true m1 => match f r1 m1 with
          | .ok y m2 => match m2[k]? with
            | some (.lst acc) => if acc.length < sizeLine then compL s tg c f k r0 ds (m2.set k (.lst (acc ++ [y]))) else .bad
            | _ => .bad
          | _ => .bad
        | .ok false m1 => compL s tg c f k r0 ds m1
        | _ => .bad
    else .bad
noncomputable def compE (vs : List Nat) (fi : FI) (tg : FG) (c : FT) (f : FE) : FE := fun r m => (fi r m).bind fun s m1 => compL s tg c f m1.length (wipeE r vs) s.items (m1 ++ [.lst []])
section
variable {K : PySem.W.Frag} {H : Hp} {ad : List Addr}
theorem RepE.setN {r : Env} {σ : St} (h : RepE K H ad r σ) (i : Nat) : RepE K H ad (r.set i none) (σ.set i none) := by
  refine ⟨by simp [h.1], fun j d e => ?_⟩
  by_cases hj : i = j
  · subst hj
    have hl : i < r.length := by
      have := (List.getElem?_eq_some_iff.mp e).1
      simpa using this
    rw [List.getElem?_set_self hl] at e
    cases e
  · rw [List.getElem?_set_ne hj] at e
    rw [List.getElem?_set_ne hj]
    exact h.2 j d e
theorem repE_wipe {r : Env} {σ : St} (h : RepE K H ad r σ) : ∀ vs : List Nat, RepE K H ad (wipeE r vs) (wipe σ vs)
  | [] => h
  | v :: vs => by unfold wipeE wipe; exact (repE_wipe h vs).setN v
theorem wipe_get {σ : St} : ∀ {vs : List Nat} {j : Nat}, (wipe σ vs)[j]? = if j ∈ vs then (if j < σ.length then some none else none) else σ[j]?
  | [], j => by simp [wipe]
  | v :: vs, j => by
    unfold wipe
    rw [List.getElem?_set, wipe_length]
    by_cases hj : v = j
    · subst hj
      simp
    · rw [if_neg hj, wipe_get (vs := vs) (j := j)]
      simp [List.mem_cons, Ne.symm hj]
theorem wipe_agree {σ σ2 : St} {is vs : List Nat} (hs : ∀ i ∈ is, i ∈ vs) (a : Agree is (wipe σ vs) σ2) : wipe σ2 vs = wipe σ vs := by
  have hl : σ2.length = σ.length := a.1.trans (wipe_length σ vs)
  refine List.ext_getElem? fun j => ?_
  rw [wipe_get, wipe_get, hl]
  by_cases hj : j ∈ vs
  · rw [if_pos hj, if_pos hj]
  · rw [if_neg hj, if_neg hj, a.2 j (fun q => hj (hs j q)), wipe_get, if_neg hj]
end
section
variable {K : PySem.W.Frag} {cl : String → Addr} {W : WX}
theorem comp_core {J : It} {s : Src} {g : FG} {is vs : List Nat} {c : FT} {f : FE} {σ : St} {Q : Hp → Prop} {H0 : Hp} {ad0 : List Addr} {k : Nat} {D0 : Addr} (hs : ∀ i ∈ is, i ∈ vs) (wk : WalkOf K J H0 ad0 s) (ek : ad0[k]? = some D0) {r0 : Env} {m0 : Mem} (rm0 : RepM K ad0 m0 H0) (re0 : RepE K H0 ad0 (wipeE r0 vs) (wipe σ vs))
    {σ' : St} (h0 : Fin K cl W σ' H0 ad0 (fun d m => ∀ ad1 H1, Ext K H0 ad0 H1 ad1 → RepM K ad1 m H1 → d = .ref k → Q H1) (compL s g c f k (wipeE r0 vs) s.items m0)) :
    ∃ Wi : Nat → Nat → Hp → Prop, (∃ m, Wi 0 m H0) ∧ ∀ i m H, Wi i m H →
      (J.stop i H ∧ Q H) ∨ (J.go i H ∧ ∃ Nx : Hp → Prop, (∀ H', Nx H' → ∃ m', m' < m ∧ Wi (i + 1) m' H') ∧ ∀ x H', J.yld i H x H' → gT K is g x (wipe σ vs) H' fun σ2 H2 => wipe σ2 vs = wipe σ vs ∧ tT K cl W0 c σ2 H2 fun b H3 =>
        if b = true then tE K cl W0 f σ2 H3 fun y H4 => ∃ acc, H4 D0 = some (.lst acc) ∧ acc.length < sizeLine ∧ Nx (upd H4 D0 (.lst (acc ++ [y]))) else Nx H3) := by
  refine ⟨fun i n H => n = s.items.length - i ∧ i ≤ s.items.length ∧ ∃ ad m, Ext K H0 ad0 H ad ∧ RepM K ad m H ∧ Fin K cl W σ' H ad (fun d m => ∀ ad1 H1, Ext K H ad H1 ad1 → RepM K ad1 m H1 → d = .ref k → Q H1) (compL s g c f k (wipeE r0 vs) (s.items.drop i) m),
    ⟨_, rfl, Nat.zero_le _, ad0, m0, Ext.refl, rm0, h0⟩, ?_⟩
  rintro i n H ⟨rfl, hi, ad, m, x, rm, h⟩
  cases ed : s.items.drop i with
  | nil =>
    rw [ed, compL] at h
    have hl : s.items.length ≤ i := List.drop_eq_nil_iff.mp ed
    by_cases st : s.still m
    · rw [if_pos st] at h
      exact .inl ⟨(wk ad H m x rm st i).2 hl, h ad H Ext.refl rm rfl⟩
    · rw [if_neg st] at h
      exact h.elim
  | cons d rest =>
    rw [ed, compL] at h
    have hlt : i < s.items.length := by
      have := congrArg List.length ed
      simp at this
      omega
    have e0 : s.items[i]? = some d := by
      have := congrArg (fun l => l[0]?) ed
      simpa using this
    have e1 : s.items.drop (i + 1) = rest := by
      have := congrArg List.tail ed
      simpa using this
    by_cases st : s.still m
    · rw [if_pos st] at h
      obtain ⟨go, yl⟩ := (wk ad H m x rm st i).1 d e0
      refine .inr ⟨go, fun H' => ∃ ad' m', Ext K H0 ad0 H' ad' ∧ RepM K ad' m' H' ∧ Fin K cl W σ' H' ad' (fun d m => ∀ ad1 H1, Ext K H' ad' H1 ad1 → RepM K ad1 m H1 → d = .ref k → Q H1) (compL s g c f k (wipeE r0 vs) rest m'), fun H' hN => ⟨_, by omega, rfl, hlt, by rw [e1]; exact hN⟩, fun y H3 hy => ?_⟩
      obtain ⟨x3, rm3, rd3⟩ := yl y H3 hy
      cases eg : g d (wipeE r0 vs) with
      | none => rw [eg] at h; exact h.elim
      | some r1 =>
        rw [eg] at h
        refine ⟨ad, _, m, d, rm3, RepE.mono (x.trans x3) re0, rd3, r1, eg, fun σ2 re2 ag => ⟨wipe_agree hs ag, ad, r1, m, rm3, re2, ?_⟩⟩
        show Fin K cl W0 σ2 H3 ad _ (c r1 m)
        dsimp only at h
        cases ec : c r1 m with
        | ok b m1 =>
          rw [ec] at h
          cases b with
          | false => exact fun ad4 H4 x4 rm4 => iteF ⟨ad4, m1, x.trans (x3.trans x4), rm4, Fin.mono (x3.trans x4) (fun _ _ q ad1 H1 x1 => q ad1 H1 ((x3.trans x4).trans x1)) h⟩
          | true =>
            refine fun ad4 H4 x4 rm4 => iteT ⟨ad4, r1, m1, rm4, RepE.mono x4 re2, ?_⟩
            show Fin K cl W0 σ2 H4 ad4 _ (f r1 m1)
            dsimp only at h
            cases ef : f r1 m1 with
            | ok y2 m2 =>
              rw [ef] at h
              dsimp only at h
              refine fun ad5 H5 v5 x5 rm5 rd5 => ?_
              have xa : Ext K H ad H5 ad5 := x3.trans (x4.trans x5)
              cases em : m2[k]? with
              | none => rw [em] at h; exact h.elim
              | some mo =>
                rw [em] at h
                cases mo with
                | lst acc =>
                  dsimp only at h
                  have e5 : ad5[k]? = some D0 := pre_get (x.trans xa).pre ek
                  obtain ⟨ws, q2, rl⟩ := rm5.obj k _ D0 em e5
                  split at h
                  · rename_i hz
                    obtain ⟨rmw, xw⟩ := rm5.writeL e5 em q2 (rl.app (RepL.one rd5))
                    exact ⟨ws, q2, by rw [← rl.length]; exact hz, ad5, _, x.trans (xa.trans xw), rmw, Fin.mono (xa.trans xw) (fun _ _ q ad1 H1 x1 => q ad1 H1 ((xa.trans xw).trans x1)) h⟩
                  · exact h.elim
                | _ => exact h.elim
            | exc c2 m2 => rw [ef] at h; exact h.elim
            | bad => rw [ef] at h; exact h.elim
        | exc c2 m2 => rw [ec] at h; exact h.elim
        | bad => rw [ec] at h; exact h.elim
    · rw [if_neg st] at h
      exact h.elim
theorem compL_ref {s : Src} {g : FG} {c : FT} {f : FE} {k : Nat} {r0 : Env} : ∀ {ds : List D} {m : Mem} {d : D} {m' : Mem}, compL s g c f k r0 ds m = .ok d m' → d = .ref k
  | [], m, d, m', h => by
    rw [compL] at h
    split at h
    · cases h; rfl
    · cases h
  | a :: ds, m, d, m', h => by
    rw [compL] at h
    split at h
    · split at h
      · cases h
      · split at h
        · split at h
          · split at h
            · split at h
              · exact compL_ref h
              · cases h
            · cases h
          · cases h
        · exact compL_ref h
        · cases h
    · cases h
theorem comp_lc {vs is : List Nat} {fi : FI} {g : FG} {c : FT} {f : FE} {σ : St} {H : Hp} {Q : VK} (hs : ∀ i ∈ is, i ∈ vs) (h : tE K cl W (compE vs fi g c f) σ H Q) :
    tLc (tI K cl W fi) (gT K is g) (tT K cl W0 c) (tE K cl W0 f) vs σ H Q := by
  obtain ⟨ad, r, m, rm, re, h⟩ := h
  refine ⟨ad, r, m, rm, re, (fin_bind h).imp fun s m1 h1 ad1 H1 J x1 rm1 wk D hD => ?_⟩
  have xa := ext_alloc (K := K) (ad := ad1) (o := HO.lst []) hD
  have rma := rm1.allocL (ds := []) (vs := []) hD rfl
  have ek : (ad1 ++ [D])[m1.length]? = some D := by
    rw [← rm1.len, List.getElem?_append_right (Nat.le_refl _), Nat.sub_self]
    rfl
  have wka : WalkOf K J (upd H1 D (.lst [])) (ad1 ++ [D]) s := fun ad2 H2 m2 x2 rm2 st => wk ad2 H2 m2 (xa.trans x2) rm2 st
  refine comp_core hs wka ek rma (RepE.mono (x1.trans xa) (repE_wipe re vs)) (cl := cl) (W := W) (σ' := σ) ?_
  refine Fin.mono (x1.trans xa) (fun d m2 q ad2 H2 x2 rm2 ed => ?_) h1
  subst ed
  exact q ad2 H2 (.ref D) ((x1.trans xa).trans x2) rm2 ⟨D, rfl, pre_get x2.pre ek⟩
end
section
variable {X : Cx} {cl : String → Addr} {W : WX} {elt tg iter : Expr} {ifs : List Expr} {scope : Scope} {pos : Pos}
abbrev DTs (X : Cx) (cl : String → Addr) (W : WX) (ifs : List Expr) (c : FT) : Prop := PTs X ifs (tT X.K cl W c)
theorem tnil : DTs X cl W [] yesT := ⟨fun pins s σ H Q I h => by
  obtain ⟨ad, r, m, rm, re, h⟩ := h
  exact wpAny_tests_nil ⟨H, I, h ad H Ext.refl rm⟩⟩
theorem tone {c : Expr} {t : FT} (h : DT X cl W c t) : DTs X cl W [c] t := pts_one h
theorem dcomp {own : List (Str × Nat)} {is : List Nat} {fi : FI} {g : FG} {c : FT} {f : FE} (hc : X.calm = true) (hN : X.N.Nodup) (ok : BlkOk X.N X.env.scope scope own) (hi : DI X cl W tg iter fi)
    (hg : ∀ (s : Shared) (H : Hp) (C : Addr) (cc : List (Str × Addr)) (fp : List Addr), DG (X.blk s H scope (compEnvC scope cc C X.env) fp) is tg g)
    (ht : ∀ (s : Shared) (H : Hp) (C : Addr) (cc : List (Str × Addr)) (fp : List Addr), DTs (X.blk s H scope (compEnvC scope cc C X.env) fp) cl W0 ifs c)
    (he : ∀ (s : Shared) (H : Hp) (C : Addr) (cc : List (Str × Addr)) (fp : List Addr), DE (X.blk s H scope (compEnvC scope cc C X.env) fp) cl W0 elt f)
    (hsub : ∀ i ∈ is, i ∈ own.map (·.2) := by decide) (hs : ∀ x, foldedSetIterable iter X.env x = pure x := by intro _; rfl) :
    DE X cl W (.ListComp elt [⟨tg, iter, ifs, 0⟩] scope pos) (compE (own.map (·.2)) fi g c f) := PE.imp (pe_lc hc hN hi ok hg ht he hs) fun σ H Q h => comp_lc hsub h
/-- y = [..] on one line, y a local -/
theorem scomp {i : Nat} {y : Str} {py spos : Pos} {own : List (Str × Nat)} {is : List Nat} {fi : FI} {g : FG} {c : FT} {f : FE} (hc : X.calm = true) (hN : X.N.Nodup) (ok : BlkOk X.N X.env.scope scope own) (hi : DI X cl W tg iter fi)
    (hg : ∀ (s : Shared) (H : Hp) (C : Addr) (cc : List (Str × Addr)) (fp : List Addr), DG (X.blk s H scope (compEnvC scope cc C X.env) fp) is tg g)
    (ht : ∀ (s : Shared) (H : Hp) (C : Addr) (cc : List (Str × Addr)) (fp : List Addr), DTs (X.blk s H scope (compEnvC scope cc C X.env) fp) cl W0 ifs c)
    (he : ∀ (s : Shared) (H : Hp) (C : Addr) (cc : List (Str × Addr)) (fp : List Addr), DE (X.blk s H scope (compEnvC scope cc C X.env) fp) cl W0 elt f)
    (hy : X.N[i]? = some y := by rfl) (hyl : X.env.scope.names.lookup y = some .local := by rfl)
    (hsw : swapsWith (.ListComp elt [⟨tg, iter, ifs, 0⟩] scope pos) (some (.Name y py)) spos.line X.env = pure true := by exact sw_true rfl rfl rfl (by decide +kernel))
    (hsub : ∀ i ∈ is, i ∈ own.map (·.2) := by decide) (hs : ∀ x, foldedSetIterable iter X.env x = pure x := by intro _; rfl) :
    DS X cl W (.Assign [.Name y py] (.ListComp elt [⟨tg, iter, ifs, 0⟩] scope pos) spos) (asgS i (compE (own.map (·.2)) fi g c f)) := PS.imp (ps_setLc hc hN hy hyl hsw hi ok hg ht he hs) fun σ H D h => by
  have h' : tE X.K cl W (compE (own.map (·.2)) fi g c f) σ H fun x H1 => gName i x σ H1 D.nx := by
    obtain ⟨ad, r, m, rm, re, h⟩ := h
    exact tE_of rm re h fun ad1 H1 m1 x v x1 rm1 re1 rd h1 => h1 ad1 H1 _ Ext.refl rm1 (re1.set i rd)
  exact comp_lc hsub h'
end

/-! ## try: .. except X (as n): return a constant -/
/-- in a suite: a constant, told by the caught class -/
def SE (X : Cx) (i : Nat) (a : Addr) (e : Expr) (v : V) : Prop := PE X e (fun σ H Q => σ[i]? = some (some (.ref a)) ∧ Q v H)
def ST (X : Cx) (i : Nat) (a : Addr) (e : Expr) (b : Bool) : Prop := PT X e (fun σ H Q => σ[i]? = some (some (.ref a)) ∧ Q b H)
section
variable {X : Cx} {i : Nat} {a : Addr} {e e1 e2 c : Expr} {pos : Pos}
theorem se_c {v : V} (h : PE X e (tC v)) : SE X i a e v := PE.imp h fun _ _ _ q => q.2
theorem se_if {b : Bool} {v1 v2 : V} (hc : ST X i a c b) (h1 : SE X i a e1 v1) (h2 : SE X i a e2 v2) : SE X i a (.IfExp c e1 e2 pos) (if b = true then v1 else v2) := PE.imp (pe_ifExp hc h1 h2) fun σ H Q q => ⟨q.1, by
  cases b with
  | true => exact iteT ⟨q.1, by simpa using q.2⟩
  | false => exact iteF ⟨q.1, by simpa using q.2⟩⟩
theorem se_add {x y : Str} (h1 : SE X i a e1 (.str x)) (h2 : SE X i a e2 (.str y)) (hz : x.length + y.length ≤ sizeLine) : SE X i a (.BinOp e1 .Add e2 pos) (.str (x ++ y)) := PE.imp (pe_op op_add_str h1 h2) fun σ H Q q => ⟨q.1, q.1, x, y, rfl, rfl, hz, q.2⟩
theorem se_eq {v v' : V} (h : SE X i a e v) (q : v = v') : SE X i a e v' := q ▸ h
theorem st_val {b : Bool} (h : SE X i a e (.bl b)) (he : ∀ whole, isTrue e X.env whole = (do let v ← whole; standAt e.pos; holding [v] (truthy v)) := by intro _; rfl) : ST X i a e b := PT.imp (pt_val h he) fun σ H Q q => ⟨q.1, b, rfl, q.2⟩
/-- what handlers ask of the classes -/
structure HandC (K : PySem.W.Frag) (cl : String → Addr) (n c : String) (b : Bool) : Prop where
  exm : PySem.W.exmOne K (.ref (cl n)) (.ref (cl c)) = some b
  kit : PySem.W.kitOne K (.ref (cl n)) (.ref (cl c)) = some b
  exc : ExcC K (cl n)
end
/-- isinstance(e, C) of the caught one -/
theorem se_isi {X : Cx} {i : Nat} {a : Addr} {cl : String → Addr} {n c : String} {b : Bool} {oe : Obj} {pn : List (Addr × Obj)} {x : Str} {p p2 p3 pos : Pos} (E : HandC X.K cl n c b) (hz : Zc (.ref (cl n)) none oe) (hf : ∃ vs, oe.data = .fields vs) (hm : X.mg "isinstance" = none) (hgc : X.mg (PySem.Str.ofString c) = some (.ref (cl c)))
    (hN : (X.suite a ((a, oe) :: pn)).N[i]? = some x := by rfl) (hv : Vis X.env.scope x := by exact Or.inl rfl) (hd : (x == ("__debug__" : Str)) = false := by decide) (hcd : (x == ("__classdict__" : Str)) = false := by decide)
    (hg : Gl (X.suite a ((a, oe) :: pn)) "isinstance" := by rfl) (hg2 : Gl (X.suite a ((a, oe) :: pn)) (PySem.Str.ofString c) := by rfl) (hdb : (PySem.Str.ofString c == ("__debug__" : Str)) = false := by decide)
    (he1 : starEach [.Name x p2, .Name (PySem.Str.ofString c) p3] X.env = (false, eval (.Name x p2) X.env) :: starEach [.Name (PySem.Str.ofString c) p3] X.env := by rfl) (he2 : starEach [.Name (PySem.Str.ofString c) p3] X.env = (false, eval (.Name (PySem.Str.ofString c) p3) X.env) :: starEach [] X.env := by rfl) (hpl : (backTo pos (starEach [.Name (PySem.Str.ofString c) p3] X.env)).any (·.1) = false := by rfl) :
    SE (X.suite a ((a, oe) :: pn)) i a (.Call (.Name "isinstance" p) [.Name x p2, .Name (PySem.Str.ofString c) p3] [] pos) (.bl b) := by
  have hC : PE (X.suite a ((a, oe) :: pn)) (.Name (PySem.Str.ofString c) p3) (tC (.ref (cl c))) := pe_glob (X := X.suite a ((a, oe) :: pn)) hg2 hgc rfl hdb
  refine PE.imp (pe_callB (X := X.suite a ((a, oe) :: pn)) (call_isE E.exc hz hf) hg hm (by decide +kernel) (pa_cons (pe_var (i := i) hN hv hd hcd) (pa_cons hC pa_nil he2) he1) (by decide) (by decide) he1 hpl) fun σ H Q q => ?_
  exact ⟨_, q.1, .ref (cl c), .ref (cl c), b, rfl, fun u h => h, E.kit, q.2⟩
section
variable {X : Cx} {cl : String → Addr} {W : WX} {body : List Stmt} {f : FS} {e : Expr} {x n : Str} {i : Nat} {np rp pos pos' : Pos} {cs : List String}
theorem stry_as {C : String} {sub : String → Bool} {val : String → D} {vv : String → V} (hcl : Names X x (.ref (cl C))) (tk : Takes X W) (hx : ∀ n ∈ cs, HandC X.K cl n C (sub n)) (hval : ∀ n ∈ cs, sub n = true → ∀ H ad v, RepD X.K H ad (val n) v ↔ v = vv n)
    (hb : ∀ (W : WX) (pn : List (Addr × Obj)) (xe : Value → Shared → Prop), Takes (X.tr pn xe) W → PassesOwn (model X.prog X.w) X.A X.env xe → DSs (X.tr pn xe) cl W body f)
    (hsu : ∀ (c : String), c ∈ cs → ∀ (a : Addr) (oe : Obj) (pn : List (Addr × Obj)), Zc (.ref (cl c)) none oe → (∃ vs, oe.data = .fields vs) → SE (X.suite a ((a, oe) :: pn)) i a e (vv c))
    (hN : X.N.Nodup) (hi : X.N[i]? = some n := by rfl) (hln : X.env.kindOf n = some .local := by rfl) (hs : X.stack = X.env :: X.outer := by rfl) (hf : X.env.frame = some X.env.locals := by rfl) :
    DS X cl W (.Try body [.ExceptHandler (some (.Name x np)) (some n) [.Return (some e) rp] pos'] [] [] pos) (tryR i cs (fun c => if sub c = true then some (val c) else none) f) :=
  PS.imp (ps_try_as (tb := fun W => tS X.K cl W f) (ts := fun a cls d D σ H => ∃ c ∈ cs, sub c = true ∧ cls = .ref (cl c) ∧ d = none ∧ σ[i]? = some (some (.ref a)) ∧ D.rt (vv c) H) hs hf hN hi hln hcl tk hb fun a oe cls d pn hz hfl => by
      refine ⟨fun pins s σ H D I q => ?_⟩
      obtain ⟨c, hc, _, rfl, rfl, hσ, hq⟩ := q
      exact (pss_one (ps_ret (hsu c hc a oe pn hz hfl))).run pins s σ H D I ⟨hσ, hq⟩) fun σ H D h => by
    obtain ⟨ad, r, m, rm, re, h⟩ := h
    refine ⟨ad, r, m, rm, re, ?_⟩
    show FinS X.K cl _ H ad D (f r m)
    unfold tryR at h
    cases ef : f r m with
    | ok fl r' m' => rw [ef] at h; exact h
    | bad => rw [ef] at h; exact h.elim
    | exc c r' m' =>
      rw [ef] at h
      dsimp only at h
      split at h
      · rename_i hc
        intro ad1 H1 σ1 x1 rm1 re1
        refine ⟨sub c, (hx c hc.1).exm, fun hb a ha => ⟨c, hc.1, hb, rfl, rfl, List.getElem?_set_self (by rw [← re1.1]; exact hc.2), ?_⟩, fun hb => ?_⟩
        · rw [if_pos hb] at h
          exact h ad1 H1 σ1 x1 rm1 re1 (vv c) ((hval c hc.1 hb H1 ad1 _).mpr rfl)
        · rw [if_neg (by rw [hb]; decide)] at h
          exact h ad1 H1 σ1 x1 rm1 re1
      · exact h.elim
theorem stry_only {C : String} {sub : String → Bool} {val : D} {vv : V} {i : Nat} (hcl : Names X x (.ref (cl C))) (tk : Takes X W) (hx : ∀ n ∈ cs, HandC X.K cl n C (sub n)) (hval : ∀ H ad v, RepD X.K H ad val v ↔ v = vv)
    (hb : ∀ (W : WX) (pn : List (Addr × Obj)) (xe : Value → Shared → Prop), Takes (X.tr pn xe) W → PassesOwn (model X.prog X.w) X.A X.env xe → DSs (X.tr pn xe) cl W body f)
    (hsu : ∀ (a : Addr) (oe : Obj) (pn : List (Addr × Obj)), PE (X.suite a ((a, oe) :: pn)) e (tC vv)) (hs : X.stack = X.env :: X.outer := by rfl) (hf : X.env.frame = some X.env.locals := by rfl) :
    DS X cl W (.Try body [.ExceptHandler (some (.Name x np)) none [.Return (some e) rp] pos'] [] [] pos) (tryR i cs (fun c => if sub c = true then some val else none) f) :=
  PS.imp (ps_try_only (tb := fun W => tS X.K cl W f) (ts := fun a cls d D σ H => D.rt vv H) hs hf hcl tk hb fun a oe cls d pn hz hfl => pss_one (ps_ret (hsu a oe pn))) fun σ H D h => by
    obtain ⟨ad, r, m, rm, re, h⟩ := h
    refine ⟨ad, r, m, rm, re, ?_⟩
    show FinS X.K cl _ H ad D (f r m)
    unfold tryR at h
    cases ef : f r m with
    | ok fl r' m' => rw [ef] at h; exact h
    | bad => rw [ef] at h; exact h.elim
    | exc c r' m' =>
      rw [ef] at h
      dsimp only at h
      split at h
      · rename_i hc
        intro ad1 H1 σ1 x1 rm1 re1
        refine ⟨sub c, (hx c hc.1).exm, fun hb a ha => ?_, fun hb => ?_⟩
        · rw [if_pos hb] at h
          exact h ad1 H1 σ1 x1 rm1 re1 vv ((hval H1 ad1 _).mpr rfl)
        · rw [if_neg (by rw [hb]; decide)] at h
          exact h ad1 H1 σ1 x1 rm1 re1
      · exact h.elim
end
end Mi

end

section
set_option Elab.async false
set_option linter.all false
set_option maxRecDepth 100000
set_option maxHeartbeats 4000000
namespace Mi
open PySem PySem.Spec L2
open PyProof.Rows hiding St

/-! ## order -/
def isNon : PyData → Bool
  | .none => true
  | _ => false
def ordOk (p q : PyData) : Bool := PyData.canLay0 p && PyData.canLay0 q && PySem.W.alike p q && !isNon p && decide (p.depth ≤ 64)
def ordG (f : PyData → PyData → Bool) : G2 := fun x y m => if ordOk (pdM m x) (pdM m y) = true then some (.bl (f (pdM m x) (pdM m y)), m) else none
def ltG : G2 := ordG fun p q => PySem.W.dataLt p q
def gtG : G2 := ordG fun p q => PySem.W.dataLt q p
def leG : G2 := ordG fun p q => !PySem.W.dataLt q p
def geG : G2 := ordG fun p q => !PySem.W.dataLt p q
section
variable {X : Cx}
theorem ord_op {op : CmpOp} {f : PyData → PyData → Bool} (hu : X.A.units + 64 < cLine)
    (rule : ∀ (s : Shared) (a b : Value) (da db : PyData) (as bs : List Addr) (Q E : Value → Shared → Prop), Reads s.heap a da as → Reads s.heap b db bs → PySem.W.alike da db = true → da ≠ .none → X.A.units + min da.depth db.depth < cLine → Q (.bool (f da db)) s → wpAny (model X.prog X.w) X.A (compareOp op a b) Q E s) :
    OpR X (compareOp op) (rD2 X.K (ordG f)) := by
  intro pins s σ H x y v u Q I rx ry h
  obtain ⟨ad, m, dx, dy, rm, qx, qy, d, m', e, q⟩ := h
  unfold ordG at e
  split at e
  · rename_i hc
    unfold ordOk at hc
    simp only [Bool.and_eq_true, decide_eq_true_eq, Bool.not_eq_true'] at hc
    obtain ⟨⟨⟨⟨c1, c2⟩, c3⟩, c4⟩, c5⟩ := hc
    cases e
    obtain ⟨as, r1⟩ := Dp.reads I _ x v (qx.dpM rm c1) rx
    obtain ⟨bs, r2⟩ := Dp.reads I _ y u (qy.dpM rm c2) ry
    have hm : min (pdM m dx).depth (pdM m dy).depth ≤ (pdM m dx).depth := Nat.min_le_left _ _
    refine rule s v u _ _ as bs _ _ r1 r2 c3 (fun z => by rw [z] at c4; cases c4) (by omega) ⟨.bl _, H, I, rfl, q ad H _ Ext.refl rm rfl⟩
  · cases e
theorem o_lt (hu : X.A.units + 64 < cLine) : OpR X (compareOp .Lt) (rD2 X.K ltG) := ord_op hu fun s a b da db as bs Q E r1 r2 h hn hu q => PySem.W.lt_data r1 r2 h hn hu q
theorem o_gt (hu : X.A.units + 64 < cLine) : OpR X (compareOp .Gt) (rD2 X.K gtG) := ord_op hu fun s a b da db as bs Q E r1 r2 h hn hu q => PySem.W.gt_data r1 r2 h hn hu q
theorem o_le (hu : X.A.units + 64 < cLine) : OpR X (compareOp .LtE) (rD2 X.K leG) := ord_op hu fun s a b da db as bs Q E r1 r2 h hn hu q => PySem.W.le_data r1 r2 h hn hu q
theorem o_ge (hu : X.A.units + 64 < cLine) : OpR X (compareOp .GtE) (rD2 X.K geG) := ord_op hu fun s a b da db as bs Q E r1 r2 h hn hu q => PySem.W.ge_data r1 r2 h hn hu q
end

/-! ## the text's defs -/
section
variable (P : Program) (w : World) (K : PySem.W.Frag) (mg : Str → Option Value) (base : Heap) (cl : String → Addr)
/-- a def does what its mirror does -/
def Has (x : Str) (k : Nat) (ps : List Str) (G : Fn) : Prop := ∃ f fd, FnOk P w K mg base (L2.CX P w) k f fd ps (spF K cl G) ∧ mg x = some (.ref f) ∧ PySem.W.keepIn K (.ref f) = true ∧ Binds K fd ps [] ∧ ∃ o, K.lookup f = some o ∧ o.data = .func fd
/-- a def stands in the text -/
def Def (x : Str) (st : Stmt) (ps : List Str) : Prop := ∃ f fd, Fun K x x st f fd ∧ mg x = some (.ref f) ∧ Binds K fd ps []
end
section
variable {P : Program} {w : World} {K : PySem.W.Frag} {mg : Str → Option Value} {base : Heap} {cl : String → Addr}
theorem has_of {x : Str} {st : Stmt} {N ps : List Str} {k : Nat} {body : FS} (D : Def K mg x st ps) (S : FnScope N ps (defScope st))
    (hb : ∀ (f : Addr) (cdv : Value) (A : Around) (outer : List PySem.Env) (s : Shared) (H : Hp) (E : XK), Room k (A.deeper (envOfC x (defScope st) s.heap.objs.size f cdv)) →
      DSs (cxOf (L2.CX P w) P w K mg base N x (defScope st) f cdv A outer s H E) cl (fun cls d _ H => E cls d H) (defBody st) body) :
    Has P w K mg base cl x (k + 1) ps (defF N.length ps.length body) := by
  obtain ⟨f, fd, F, hm, bi⟩ := D
  refine ⟨f, fd, fdef F S (hb f), hm, F.kp, bi, ?_⟩
  obtain ⟨oc, od, kV, doc, pm, an, cdv, ct, osl, _, l, _⟩ := F.ex
  exact ⟨_, l, rfl⟩
end
section
variable {X : Cx} {cl : String → Addr} {W : WX} {e : Expr} {es : List Expr} {fs : FA} {pos : Pos}
theorem dcl {k j : Nat} {ps : List Str} {x : Str} {p : Pos} {G : Fn} (F : Has X.prog X.w X.K X.mg X.base cl x k ps G) (hr : Room j X.A) (tk : Takes X W) 
    (ha : DA X cl W (e :: es) fs) (hj : k ≤ j := by decide) (hg : Gl X x := by rfl) (hdb : (x == ("__debug__" : Str)) = false := by decide) (he : starEach (e :: es) X.env = (false, eval e X.env) :: starEach es X.env := by rfl) (hpl : (backTo pos (starEach es X.env)).any (·.1) = false := by rfl) :
    DE X cl W (.Call (.Name x p) (e :: es) [] pos) (callE G fs) := by
  obtain ⟨f, fd, F, hm, hk, bi, _⟩ := F
  exact dcall F (hr.mono hj) tk hm hk bi ha hg hdb he hpl
end
theorem def_mk {K : PySem.W.Frag} {mg : Str → Option Value} {h : Heap} {x : Str} {st : Stmt} {ps : List Str} (X : K.In h) (G : h.Ns mainGlobals mg) {f : Addr} {oc : Value} {od an : Option Addr} {osl : Array (Option Value)} {kV doc pm cdv ct : Value}
    (a : PySem.W.nsIn K mainGlobals x = some (some (.ref f))) (l : K.lookup f = some ⟨oc, od, .func (PySem.W.fnOf x x (defArgs st) (defBody st) (defScope st) .none kV doc pm an cdv ct), osl⟩)
    (c : PySem.W.codeIn K cdv x = true) (k : PySem.W.keepIn K (.ref f) = true)
    (b : ∀ (kV doc pm : Value) (an : Option Addr) (cdv ct : Value) (us : List Value), us.length = ps.length → bindArgs (PySem.W.fnOf x x (defArgs st) (defBody st) (defScope st) .none kV doc pm an cdv ct) ⟨us, []⟩ = pure (ps.zip us)) : Def K mg x st ps :=
  ⟨f, _, fun_mk l c k, PySem.W.mg_of X G a, (fun_mk (st := st) l c k).binds b⟩

/-- the classes' places -/
def clK (K : PySem.W.Frag) (n : String) : Addr := match PySem.W.nsIn K mainGlobals (PySem.Str.ofString n) with
  | some (some (.ref a)) => a
  | _ => 0
theorem clK_eq {K : PySem.W.Frag} {n : String} {C : Addr} (a : PySem.W.nsIn K mainGlobals (PySem.Str.ofString n) = some (some (.ref C))) : clK K n = C := by
  unfold clK
  rw [a]
def isSub (c C : String) : Bool := c == C || C == "HallError"
theorem errC_mk {K : PySem.W.Frag} {mg : Str → Option Value} {h : Heap} {n : String} {C : Addr} (X : K.In h) (G : h.Ns mainGlobals mg) (a : PySem.W.nsIn K mainGlobals (PySem.Str.ofString n) = some (some (.ref C)))
    (ex : PySem.W.excIn K C [.type "ValueError", .type "Exception", .type "BaseException", .type "object"] "ValueError.__new__" = true) (k : PySem.W.keepIn K (.ref C) = true) (b : PySem.W.subIn K (.ref C) (.type "BaseException") = some true) (t : PySem.W.typeIn K (.ref C) = some (.type "type")) : ErrC K mg (clK K) n := by
  have e := clK_eq a
  exact ⟨by rw [e]; exact ex, by rw [e]; exact PySem.W.mg_of X G a, by rw [e]; exact k, by rw [e]; exact b, by rw [e]; exact t⟩
theorem handC_mk {K : PySem.W.Frag} {n c : String} {C D : Addr} {r : Bool} (a : PySem.W.nsIn K mainGlobals (PySem.Str.ofString n) = some (some (.ref D))) (b : PySem.W.nsIn K mainGlobals (PySem.Str.ofString c) = some (some (.ref C)))
    (hs : PySem.W.subIn K (.ref D) (.ref C) = some r) (h1 : PySem.W.subIn K (.ref C) (.type "BaseException") = some true) (hdct : PySem.W.hasDictIn K C = true) (ht : PySem.W.typeIn K (.ref C) = some (.type "type")) (ne : r = true ∨ D ≠ C) (exc : ExcC K D) : HandC K (clK K) n c r := by
  have e := clK_eq a
  have e2 := clK_eq b
  have kc : PySem.W.kitCls K (.ref D) (.ref C) = some r := by
    have x := PySem.W.exm_ref h1 hdct ht hs
    unfold PySem.W.exmOne at x
    rw [if_pos (by rw [h1]; rfl)] at x
    exact x
  refine ⟨by rw [e, e2]; exact PySem.W.exm_ref h1 hdct ht hs, ?_, by rw [e]; exact exc⟩
  rw [e, e2]
  unfold PySem.W.kitOne
  by_cases q : D = C
  · subst q
    rw [if_pos (by simp)]
    rcases ne with rfl | z
    · rfl
    · exact absurd rfl z
  · rw [if_neg (by simpa using q)]
    exact kc

/-! ## a law's end -/
theorem law_sp {K : PySem.W.Frag} {cl : String → Addr} {F : Fn} {ns : List Int} (h : ∃ m', F [.ref 0] [.con (ns.map .int)] = .ok (.bl true) m') {H : Hp} {a : Addr} (ho : Only H) (hs : SqL K H a (ns.map V.int)) :
    spF K cl F [.ref a] H (fun v _ => v = .bl true) fun _ _ _ => False := by
  obtain ⟨m', e⟩ := h
  have ri : ∀ (ns : List Int), RepL K H [a] (ns.map .int) (ns.map V.int) := fun ns => by
    induction ns with
    | nil => rfl
    | cons n ns ih => exact ⟨.int n, _, rfl, rfl, ih⟩
  refine ⟨[a], [.con (ns.map .int)], [.ref 0], ⟨rfl, fun n k b o u e1 e2 e3 e4 ne => ?_, fun n o b e1 e2 => ?_⟩, ⟨.ref a, [], rfl, ⟨a, rfl, rfl⟩, rfl⟩, ?_⟩
  · cases n with
    | zero => cases e3; exact .inl trivial
    | succ n => simp at e3
  · cases n with
    | zero =>
      cases e1
      cases e2
      refine ⟨_, ?_, ri ns⟩
      rcases hs with (q | ⟨ob, q⟩) | q
      · rcases ho a with z | ⟨o, xs, z⟩
        · rw [z] at q; cases q
        · rw [z] at q; cases q
      · exact .inl ⟨ob, q⟩
      · exact .inr q
    | succ n => simp at e1
  · rw [e]
    exact fun ad1 H1 v x rm rd => rd
def spK (F : Fn) (K : PySem.W.Frag) : Sp := spF K (clK K) F
theorem law_spK {K : PySem.W.Frag} {F : Fn} {ns : List Int} (h : ∃ m', F [.ref 0] [.con (ns.map .int)] = .ok (.bl true) m') {H : Hp} {a : Addr} (ho : Only H) (hs : SqL K H a (ns.map V.int)) : spK F K [.ref a] H (fun v _ => v = .bl true) fun _ _ _ => False := law_sp h ho hs
/-- two looks at one def -/
theorem fn_same {P : Program} {w : World} {K : PySem.W.Frag} {mg : Str → Option Value} {base : Heap} {cl : String → Addr} {k : Nat} {f : Addr} {fd : FuncData} {ps : List Str} {G : Fn} {x : Str} {st : Stmt} (F : Fun K x x st f fd) (hm : mg x = some (.ref f)) (h : Has P w K mg base cl x k ps G) : FnOk P w K mg base (L2.CX P w) k f fd ps (spF K cl G) := by
  obtain ⟨f2, fd2, F2, hm2, _, _, o, l2, d2⟩ := h
  have e := hm2.symm.trans hm
  cases e
  obtain ⟨oc, od, kV, doc, pm, an, cdv, ct, osl, _, l, _⟩ := F.ex
  rw [l] at l2
  cases l2
  cases d2
  exact F2
theorem law_cx {P : Program} {w : World} {H : Hp} {s : Shared} {e : Value} {s' : Shared} (h : L2.CX P w [] H s (fun _ _ _ => False) e s') : False := by
  obtain ⟨_, _, _, _, _, _, _, _, _, _, _, _, z⟩ := h
  exact z
end Mi

end

section
set_option Elab.async false
set_option linter.all false
set_option maxRecDepth 100000
set_option maxHeartbeats 4000000
namespace Mi
open PySem PySem.Spec L2
open PyProof.Rows hiding St

/-! ## reckoning with mirrors -/
section
variable {α β : Type} {a : α} {m : Mem} {g : α → Mem → Res β} {c : String} {k : α → Mem → SRes} {r : Env}
theorem bind_ok : Res.bind (.ok a m) g = g a m := rfl
theorem bind_exc : Res.bind (.exc c m : Res α) g = .exc c m := rfl
theorem of_ok : SRes.of (.ok a m) r k = k a m := rfl
theorem of_exc : SRes.of (.exc c m : Res α) r k = .exc c r m := rfl
end
theorem nc0 : ((0 : Nat) : Int) = 0 := rfl
theorem nc1 : ((1 : Nat) : Int) = 1 := rfl
theorem nc2 : ((2 : Nat) : Int) = 2 := rfl
theorem nc3 : ((3 : Nat) : Int) = 3 := rfl
theorem nc4 : ((4 : Nat) : Int) = 4 := rfl
theorem nc5 : ((5 : Nat) : Int) = 5 := rfl
theorem nc6 : ((6 : Nat) : Int) = 6 := rfl
theorem nc7 : ((7 : Nat) : Int) = 7 := rfl
theorem nc8 : ((8 : Nat) : Int) = 8 := rfl
theorem nc9 : ((9 : Nat) : Int) = 9 := rfl
theorem lft_some {d : D} {m : Mem} : lft (some (d, m)) = .ok d m := rfl
/-! ### by value -/
def kseq (x : SRes) (g : FS) : SRes := match x with
  | .ok .nx r' m' => g r' m'
  | x => x
def k1 (x : Res D) (g : G1) : Res D := match x with
  | .ok d m => lft (g d m)
  | .exc c m => .exc c m
  | .bad => .bad
def k2a (x : Res D) (b : FE) (g : G2) (r : Env) : Res D := match x with
  | .ok d m => (b r m).bind fun y m2 => lft (g d y m2)
  | .exc c m => .exc c m
  | .bad => .bad
def k2b (x : D) (y : Res D) (g : G2) : Res D := match y with
  | .ok d m => lft (g x d m)
  | .exc c m => .exc c m
  | .bad => .bad
def kN (x : Res (List D)) (g : GN) : Res D := match x with
  | .ok d m => lft (g d m)
  | .exc c m => .exc c m
  | .bad => .bad
def kca (x : Res D) (b : FA) (r : Env) : Res (List D) := match x with
  | .ok d m => (b r m).bind fun y m2 => .ok (d :: y) m2
  | .exc c m => .exc c m
  | .bad => .bad
def kcb (x : D) (y : Res (List D)) : Res (List D) := match y with
  | .ok d m => .ok (x :: d) m
  | .exc c m => .exc c m
  | .bad => .bad
def kasg (i : Nat) (x : Res D) (r : Env) : SRes := match x with
  | .ok d m => .ok .nx (r.set i (some d)) m
  | .exc c m => .exc c r m
  | .bad => .bad
def kret (x : Res D) (r : Env) : SRes := match x with
  | .ok d m => .ok (.rt d) r m
  | .exc c m => .exc c r m
  | .bad => .bad
def kdrop (x : Res D) (r : Env) : SRes := match x with
  | .ok _ m => .ok .nx r m
  | .exc c m => .exc c r m
  | .bad => .bad
def kif (x : Res Bool) (f g : FS) (r : Env) : SRes := match x with
  | .ok b m => if b then f r m else g r m
  | .exc c m => .exc c r m
  | .bad => .bad
def kife (x : Res Bool) (f g : FE) (r : Env) : Res D := match x with
  | .ok b m => if b then f r m else g r m
  | .exc c m => .exc c m
  | .bad => .bad
def kval (x : Res D) : Res Bool := match x with
  | .ok (.bl b) m => .ok b m
  | .exc c m => .exc c m
  | _ => .bad
def knot (x : Res Bool) : Res Bool := match x with
  | .ok b m => .ok (!b) m
  | .exc c m => .exc c m
  | _ => .bad
def kand (x : Res Bool) (g : FT) (r : Env) : Res Bool := match x with
  | .ok b m => if b then g r m else .ok false m
  | .exc c m => .exc c m
  | _ => .bad
def kor (x : Res Bool) (g : FT) (r : Env) : Res Bool := match x with
  | .ok b m => if b then .ok true m else g r m
  | .exc c m => .exc c m
  | _ => .bad
def kandv (x : Res D) (g : FE) (r : Env) : Res D := match x with
  | .ok (.bl b) m => if b then g r m else .ok (.bl false) m
  | .exc c m => .exc c m
  | _ => .bad
def korv (x : Res D) (g : FE) (r : Env) : Res D := match x with
  | .ok (.bl b) m => if b then .ok (.bl true) m else g r m
  | .exc c m => .exc c m
  | _ => .bad
def knotv (x : Res D) : Res D := match x with
  | .ok (.bl b) m => .ok (.bl (!b)) m
  | .exc c m => .exc c m
  | _ => .bad
def kcall (x : Res (List D)) (G : Fn) : Res D := match x with
  | .ok d m => G d m
  | .exc c m => .exc c m
  | .bad => .bad
def kpar (i j : Nat) (x : Res (List D)) (r : Env) : SRes := match x with
  | .ok [a, b] m => .ok .nx ((r.set i (some a)).set j (some b)) m
  | .exc c m => .exc c r m
  | _ => .bad
def kasgG (g : FG) (x : Res D) (r : Env) : SRes := match x with
  | .ok d m => match g d r with
    | some r' => .ok .nx r' m
    | none => .bad
  | .exc c m => .exc c r m
  | .bad => .bad
def kapp (x : Res D) (e : FE) (r : Env) : Res D := match x with
  | .ok (.ref n) m => match m[n]? with
    | some (.lst _) => (e r m).bind fun d m2 => match m2[n]? with
      | some (.lst xs) => if xs.length < sizeLine then .ok .non (m2.set n (.lst (xs ++ [d]))) else .bad
      | _ => .bad
    | _ => .bad
  | .exc c m => .exc c m
  | _ => .bad
noncomputable def kfor (x : Res Src) (tg : FG) (b : FS) (r : Env) : SRes := match x with
  | .ok s m => forL s tg b s.items r m
  | .exc c m => .exc c r m
  | .bad => .bad
def ksrc (x : Res D) : Res Src := match x with
  | .ok (.tup ds) m => .ok (.fix ds) m
  | .ok (.ref n) m => match itemsOf m n with
    | some ds => .ok (.lst n ds) m
    | none => .bad
  | .ok (.str z) m => .ok (.fix (strItems z)) m
  | .exc c m => .exc c m
  | _ => .bad
def pick (x : Option (Option D)) (m : Mem) : Res D := match x with
  | some (some d) => .ok d m
  | _ => .bad
def finF (x : SRes) : Res D := match x with
  | .ok .nx _ m' => .ok .non m'
  | .ok (.rt d) _ m' => .ok d m'
  | .exc c _ m' => .exc c m'
  | _ => .bad
section
variable {f g : FS} {a b : FE} {h : FA} {c t : FT} {g1 : G1} {g2 : G2} {gn : GN} {r r' : Env} {m m' : Mem} {i j n p : Nat} {G : Fn} {tg : FG} {d x y : D} {ds : List D} {e : String} {k : Bool}
theorem seqS_ap : seqS f g r m = kseq (f r m) g := rfl
theorem kseq_nx : kseq (.ok .nx r m) g = g r m := rfl
theorem kseq_rt : kseq (.ok (.rt d) r m) g = .ok (.rt d) r m := rfl
theorem kseq_bk : kseq (.ok .bk r m) g = .ok .bk r m := rfl
theorem kseq_ct : kseq (.ok .ct r m) g = .ok .ct r m := rfl
theorem kseq_exc : kseq (.exc e r m) g = .exc e r m := rfl
theorem kseq_bad : kseq .bad g = .bad := rfl
theorem nxS_ap : nxS r m = .ok .nx r m := rfl
theorem bkS_ap : bkS r m = .ok .bk r m := rfl
theorem ctS_ap : ctS r m = .ok .ct r m := rfl
theorem raiseS_ap : raiseS e r m = .exc e r m := rfl
theorem retN_ap : retN r m = .ok (.rt .non) r m := rfl
theorem op1_ap : op1 a g1 r m = k1 (a r m) g1 := by unfold op1 k1 Res.bind; cases a r m <;> rfl
theorem k1_ok : k1 (.ok d m) g1 = lft (g1 d m) := rfl
theorem op2_ap : op2 a b g2 r m = k2a (a r m) b g2 r := by unfold op2 k2a Res.bind; cases a r m <;> rfl
theorem k2a_ok : k2a (.ok d m) b g2 r = k2b d (b r m) g2 := by
  show (b r m).bind (fun y m2 => lft (g2 d y m2)) = k2b d (b r m) g2
  cases b r m <;> rfl
theorem k2b_ok : k2b x (.ok d m) g2 = lft (g2 x d m) := rfl
theorem opN_ap : opN h gn r m = kN (h r m) gn := by unfold opN kN Res.bind; cases h r m <;> rfl
theorem kN_ok : kN (.ok ds m) gn = lft (gn ds m) := rfl
theorem nilA_ap : nilA r m = .ok [] m := rfl
theorem consA_ap : consA a h r m = kca (a r m) h r := by unfold consA kca Res.bind; cases a r m <;> rfl
theorem kca_ok : kca (.ok d m) h r = kcb d (h r m) := by
  show (h r m).bind (fun y m2 => .ok (d :: y) m2) = kcb d (h r m)
  cases h r m <;> rfl
theorem kcb_ok : kcb x (.ok ds m) = .ok (x :: ds) m := rfl
theorem varE_ap : varE i r m = pick r[i]? m := rfl
theorem pick_ok : pick (some (some d)) m = .ok d m := rfl
theorem cstE_ap : cstE d r m = .ok d m := rfl
theorem asgS_ap : asgS i a r m = kasg i (a r m) r := by unfold asgS kasg SRes.of; cases a r m <;> rfl
theorem kasg_ok : kasg i (.ok d m) r = .ok .nx (r.set i (some d)) m := rfl
theorem kasg_exc : kasg i (.exc e m) r = .exc e r m := rfl
theorem retS_ap : retS a r m = kret (a r m) r := by unfold retS kret SRes.of; cases a r m <;> rfl
theorem kret_ok : kret (.ok d m) r = .ok (.rt d) r m := rfl
theorem kret_exc : kret (.exc e m) r = .exc e r m := rfl
theorem dropS_ap : dropS a r m = kdrop (a r m) r := by unfold dropS kdrop SRes.of; cases a r m <;> rfl
theorem kdrop_ok : kdrop (.ok d m) r = .ok .nx r m := rfl
theorem kdrop_exc : kdrop (.exc e m) r = .exc e r m := rfl
theorem ifS_ap : ifS c f g r m = kif (c r m) f g r := by unfold ifS kif SRes.of; cases c r m <;> rfl
theorem kif_t : kif (.ok true m) f g r = f r m := rfl
theorem kif_f : kif (.ok false m) f g r = g r m := rfl
theorem ifE_ap : ifE c a b r m = kife (c r m) a b r := by unfold ifE kife Res.bind; cases c r m <;> rfl
theorem kife_t : kife (.ok true m) a b r = a r m := rfl
theorem kife_f : kife (.ok false m) a b r = b r m := rfl
theorem valT_ap : valT a r m = kval (a r m) := by unfold valT kval Res.bind; cases a r m <;> first | rfl | (rename_i d _; cases d <;> rfl)
theorem kval_ok : kval (.ok (.bl k) m) = .ok k m := rfl
theorem notT_ap : notT c r m = knot (c r m) := by unfold notT knot Res.bind; cases c r m <;> rfl
theorem knot_ok : knot (.ok k m) = .ok (!k) m := rfl
theorem andT_ap : andT c t r m = kand (c r m) t r := by unfold andT kand Res.bind; cases c r m <;> rfl
theorem kand_t : kand (.ok true m) t r = t r m := rfl
theorem kand_f : kand (.ok false m) t r = .ok false m := rfl
theorem orT_ap : orT c t r m = kor (c r m) t r := by unfold orT kor Res.bind; cases c r m <;> rfl
theorem kor_t : kor (.ok true m) t r = .ok true m := rfl
theorem kor_f : kor (.ok false m) t r = t r m := rfl
theorem andV_ap : andV a b r m = kandv (a r m) b r := by unfold andV kandv Res.bind; cases a r m <;> first | rfl | (rename_i d _; cases d <;> rfl)
theorem kandv_t : kandv (.ok (.bl true) m) b r = b r m := rfl
theorem kandv_f : kandv (.ok (.bl false) m) b r = .ok (.bl false) m := rfl
theorem orV_ap : orV a b r m = korv (a r m) b r := by unfold orV korv Res.bind; cases a r m <;> first | rfl | (rename_i d _; cases d <;> rfl)
theorem korv_t : korv (.ok (.bl true) m) b r = .ok (.bl true) m := rfl
theorem korv_f : korv (.ok (.bl false) m) b r = b r m := rfl
theorem notV_ap : notV a r m = knotv (a r m) := by unfold notV knotv Res.bind; cases a r m <;> first | rfl | (rename_i d _; cases d <;> rfl)
theorem knotv_ok : knotv (.ok (.bl k) m) = .ok (.bl (!k)) m := rfl
theorem callE_ap : callE G h r m = kcall (h r m) G := by unfold callE kcall Res.bind; cases h r m <;> rfl
theorem kcall_ok : kcall (.ok ds m) G = G ds m := rfl
theorem parS_ap : parS i j h r m = kpar i j (h r m) r := by
  unfold parS kpar SRes.of
  cases h r m with
  | ok ds m1 => match ds with
    | [] => rfl
    | [_] => rfl
    | [_, _] => rfl
    | _ :: _ :: _ :: _ => rfl
  | exc _ _ => rfl
  | bad => rfl
theorem kpar_ok : kpar i j (.ok [x, y] m) r = .ok .nx ((r.set i (some x)).set j (some y)) m := rfl
theorem asgG_ap : asgG tg a r m = kasgG tg (a r m) r := by unfold asgG kasgG SRes.of; cases a r m <;> rfl
theorem kasgG_ok (e : tg d r = some r') : kasgG tg (.ok d m) r = .ok .nx r' m := by unfold kasgG; simp only [e]
theorem appE_ap : appE a b r m = kapp (a r m) b r := by unfold appE kapp Res.bind; cases a r m <;> first | rfl | (rename_i d _; cases d <;> rfl)
theorem kapp_ok {xs xs2 : List D} {m2 : Mem} (h1 : m[n]? = some (.lst xs)) (hb : b r m = .ok d m2) (h2 : m2[n]? = some (.lst xs2)) (hl : xs2.length < sizeLine) : kapp (.ok (.ref n) m) b r = .ok .non (m2.set n (.lst (xs2 ++ [d]))) := by
  unfold kapp
  simp only [h1, hb, bind_ok, h2, hl, if_true]
theorem forS_ap {fi : FI} : forS fi tg f r m = kfor (fi r m) tg f r := by unfold forS kfor SRes.of; cases fi r m <;> rfl
theorem kfor_ok {s : Src} : kfor (.ok s m) tg f r = forL s tg f s.items r m := rfl
theorem srcE_ap : srcE a r m = ksrc (a r m) := by unfold srcE ksrc Res.bind; cases a r m <;> first | rfl | (rename_i d _; cases d <;> rfl)
theorem ksrc_tup : ksrc (.ok (.tup ds) m) = .ok (.fix ds) m := rfl
theorem ksrc_ref (e : itemsOf m n = some ds) : ksrc (.ok (.ref n) m) = .ok (.lst n ds) m := by unfold ksrc; simp only [e]
theorem ksrc_str {z : PySem.Str} : ksrc (.ok (.str z) m) = .ok (.fix (strItems z)) m := rfl
theorem rng1_ap {j : Int} (hj : okI j) (e : h r m = .ok [.int j] m') : rng1 h r m = .ok (.fix (iotaD 0 j.toNat)) m' := by
  unfold rng1
  rw [e, bind_ok]
  simp only [if_pos hj]
theorem rng2_ap {i j : Int} (hi : okI i) (hj : okI j) (e : h r m = .ok [.int i, .int j] m') : rng2 h r m = .ok (.fix (iotaD i (j - i).toNat)) m' := by
  unfold rng2
  rw [e, bind_ok]
  simp only [if_pos (And.intro hi hj)]
theorem defF_ap (hl : ds.length = p) : defF n p f ds m = finF (f (startE n ds) m) := by unfold defF finF; rw [if_pos hl] <;> rfl
theorem defF1 : defF n 1 f [d] m = finF (f (startE n [d]) m) := defF_ap rfl
theorem defF2 : defF n 2 f [d, x] m = finF (f (startE n [d, x]) m) := defF_ap rfl
theorem defF3 : defF n 3 f [d, x, y] m = finF (f (startE n [d, x, y]) m) := defF_ap rfl
theorem defF4 {z : D} : defF n 4 f [d, x, y, z] m = finF (f (startE n [d, x, y, z]) m) := defF_ap rfl
theorem defF5 {z u : D} : defF n 5 f [d, x, y, z, u] m = finF (f (startE n [d, x, y, z, u]) m) := defF_ap rfl
theorem finF_nx : finF (.ok .nx r m) = .ok .non m := rfl
theorem finF_rt : finF (.ok (.rt d) r m) = .ok d m := rfl
theorem finF_exc : finF (.exc e r m) = .exc e m := rfl
/-- o[i] = e -/
theorem setG_ap {o i v : FE} {k : Int} {j : Nat} {xs : List D} {m1 m2 m3 : Mem} (hv : v r m = .ok d m1) (ho : o r m1 = .ok (.ref n) m2) (hi : i r m2 = .ok (.int k) m3) (hm : m3[n]? = some (.lst xs)) (hj : ixN xs.length k = some j) :
    setG o i v r m = .ok .nx r (m3.set n (.lst (xs.set j d))) := by
  unfold setG
  simp only [hv, of_ok, ho, hi, hm, hj]
end
section
variable {i j : Int} {m : Mem}
theorem eqG_int : eqG (.int i) (.int j) m = some (.bl (i == j), m) := rfl
theorem neG_int : neG (.int i) (.int j) m = some (.bl (!(i == j)), m) := rfl
theorem eqG_str {x y : PySem.Str} (hx : PyData.canLay0 (.str x) = true) (hy : PyData.canLay0 (.str y) = true) : eqG (.str x) (.str y) m = some (.bl (x == y), m) := by
  simp [eqG, pdM, D.pd, SeqAt.shaped, hx, hy, PyData.depth, PyData.eqv]
theorem ordOk_int : ordOk (.int i) (.int j) = true := by simp [ordOk, PyData.canLay0, PySem.W.alike, isNon, PyData.depth]
theorem ltG_int : ltG (.int i) (.int j) m = some (.bl (decide (i < j)), m) := by
  simp [ltG, ordG, pdM, D.pd, ordOk_int, PySem.W.dataLt_int]
theorem gtG_int : gtG (.int i) (.int j) m = some (.bl (decide (j < i)), m) := by
  simp [gtG, ordG, pdM, D.pd, ordOk_int, PySem.W.dataLt_int]
theorem leG_int : leG (.int i) (.int j) m = some (.bl (decide (i ≤ j)), m) := by
  simp [leG, ordG, pdM, D.pd, ordOk_int, PySem.W.dataLt_int]
  rw [Bool.eq_iff_iff]; simp
theorem geG_int : geG (.int i) (.int j) m = some (.bl (decide (j ≤ i)), m) := by
  simp [geG, ordG, pdM, D.pd, ordOk_int, PySem.W.dataLt_int]
  rw [Bool.eq_iff_iff]; simp
theorem addG_int : addG (.int i) (.int j) m = some (.int (i + j), m) := rfl
theorem subG_int : subG (.int i) (.int j) m = some (.int (i - j), m) := rfl
theorem mulG_int (h : i.natAbs.log2 + j.natAbs.log2 < 1000000) : mulG (.int i) (.int j) m = some (.int (i * j), m) := by
  simp [mulG, int2, cmul, h]
theorem modG_pos (h : 0 < j) : modG (.int i) (.int j) m = some (.int (i % j), m) := by
  simp only [modG, int2, cmod]
  rw [if_pos (decide_eq_true (by omega)), Int.fmod_eq_emod_of_nonneg i (by omega)]
theorem fdivG_of (h : j ≠ 0) (h2 : j.natAbs.log2 < 9000) : fdivG (.int i) (.int j) m = some (.int (i.fdiv j), m) := by
  simp only [fdivG, int2, cdiv]
  rw [if_pos (by simp [h, PyProof.noPylong_of_log2 h2])]
theorem fdivG_pos (h : 0 < j) (h2 : j.natAbs.log2 < 9000) : fdivG (.int i) (.int j) m = some (.int (i / j), m) := by
  rw [fdivG_of (by omega) h2, Int.fdiv_eq_ediv_of_nonneg i (by omega)]
theorem negG_int : negG (.int i) m = some (.int (-i), m) := rfl
theorem absG_int : absG [.int i] m = some (.int (if i < 0 then -i else i), m) := rfl
theorem intG_int : intG [.int i] m = some (.int i, m) := rfl
theorem gcdG_int : gcdG [.int i, .int j] m = some (.int ((Nat.gcd i.natAbs j.natAbs : Nat) : Int), m) := rfl
theorem idxG_tup {xs : List D} {d : D} (h : atI xs i = some d) : idxG (.tup xs) (.int i) m = some (d, m) := by
  simp [idxG, h, ofI]
theorem idxG_ref {n : Nat} {xs : List D} {d : D} (hm : itemsOf m n = some xs) (h : atI xs i = some d) : idxG (.ref n) (.int i) m = some (d, m) := by
  simp [idxG, hm, h, ofI]
theorem items_lst {n : Nat} {xs : List D} (h : m[n]? = some (.lst xs)) : itemsOf m n = some xs := by simp [itemsOf, h]
theorem items_con {n : Nat} {xs : List D} (h : m[n]? = some (.con xs)) : itemsOf m n = some xs := by simp [itemsOf, h]
theorem tupD_of {xs : List D} (h : xs.length ≤ sizeLine) : tupD xs m = some (.tup xs, m) := by simp [tupD, h]
theorem lstD_of {xs : List D} (h : xs.length ≤ sizeLine) : lstD xs m = some (.ref m.length, m ++ [.lst xs]) := by simp [lstD, h]
theorem tupD0 : tupD [] m = some (.tup [], m) := rfl
theorem tupD1 {a : D} : tupD [a] m = some (.tup [a], m) := tupD_of (by show 1 ≤ sizeLine; decide)
theorem tupD2 {a b : D} : tupD [a, b] m = some (.tup [a, b], m) := tupD_of (by show 2 ≤ sizeLine; decide)
theorem tupD3 {a b c : D} : tupD [a, b, c] m = some (.tup [a, b, c], m) := tupD_of (by show 3 ≤ sizeLine; decide)
theorem tupD4 {a b c d : D} : tupD [a, b, c, d] m = some (.tup [a, b, c, d], m) := tupD_of (by show 4 ≤ sizeLine; decide)
theorem lstD0 : lstD [] m = some (.ref m.length, m ++ [.lst []]) := rfl
theorem lstD1 {a : D} : lstD [a] m = some (.ref m.length, m ++ [.lst [a]]) := lstD_of (by show 1 ≤ sizeLine; decide)
theorem lstD4 {a b c d : D} : lstD [a, b, c, d] m = some (.ref m.length, m ++ [.lst [a, b, c, d]]) := lstD_of (by show 4 ≤ sizeLine; decide)
theorem isi_int_int : isiG "int" (.int i) m = some (.bl true, m) := rfl
theorem isi_bool_int : isiG "bool" (.int i) m = some (.bl false, m) := rfl
theorem isi_tup_tup {xs : List D} : isiG "tuple" (.tup xs) m = some (.bl true, m) := rfl
theorem lenG_tup {xs : List D} : lenG [.tup xs] m = some (.int xs.length, m) := rfl
theorem lenG_ref {n : Nat} {xs : List D} (hm : itemsOf m n = some xs) : lenG [.ref n] m = some (.int xs.length, m) := by simp [lenG, hm]
theorem sl2 : (2 : Nat) ≤ sizeLine := by decide
theorem sl4 : (4 : Nat) ≤ sizeLine := by decide
end
theorem atI_of {α : Type} {xs : List α} {i : Int} {v : α} (h0 : 0 ≤ i) (e : xs[i.toNat]? = some v) : atI xs i = some v := by
  unfold atI ixN
  have hl := (List.getElem?_eq_some_iff.mp e).1
  rw [if_pos h0, if_pos (by omega)]
  exact e
theorem atI_c0 {α : Type} {a : α} {l : List α} : atI (a :: l) 0 = some a := atI_of (by omega) rfl
theorem atI_c1 {α : Type} {a b : α} {l : List α} : atI (a :: b :: l) 1 = some b := atI_of (by omega) rfl
theorem atI_c2 {α : Type} {a b c : α} {l : List α} : atI (a :: b :: c :: l) 2 = some c := atI_of (by omega) rfl
theorem atI_c3 {α : Type} {a b c d : α} {l : List α} : atI (a :: b :: c :: d :: l) 3 = some d := atI_of (by omega) rfl
theorem tupleG_refE {n : Nat} {xs : List D} {m : Mem} (h : itemsOf m n = some xs) : tupleG [.ref n] m = some (.tup xs, m) := by simp [tupleG, h]
/-! ### memory, by value -/
def kit (o : Option MO) : Option (List D) := match o with
  | some (.lst ds) => some ds
  | some (.con ds) => some ds
  | _ => none
def kix (n : Nat) (o : Option (List D)) (k : Int) (m : Mem) : Option (D × Mem) := match o with
  | some xs => ofI (atI xs k) m
  | none => dicG n (.int k) m
def klen (o : Option (List D)) (m : Mem) : Option (D × Mem) := match o with
  | some xs => some (.int xs.length, m)
  | none => none
def ksv (x : Res D) (o i : FE) (r : Env) : SRes := SRes.of x r fun d m1 => SRes.of (o r m1) r fun x m2 => SRes.of (i r m2) r fun y m3 => match x, y with
  | .ref n, .int k => match m3[n]? with
    | some (.lst xs) => match ixN xs.length k with
      | some j => .ok .nx r (m3.set n (.lst (xs.set j d)))
      | none => .bad
    | _ => .bad
  | _, _ => .bad
def kso (d : D) (x : Res D) (i : FE) (r : Env) : SRes := SRes.of x r fun x m2 => SRes.of (i r m2) r fun y m3 => match x, y with
  | .ref n, .int k => match m3[n]? with
    | some (.lst xs) => match ixN xs.length k with
      | some j => .ok .nx r (m3.set n (.lst (xs.set j d)))
      | none => .bad
    | _ => .bad
  | _, _ => .bad
def ksi (d x : D) (y : Res D) (r : Env) : SRes := SRes.of y r fun y m3 => match x, y with
  | .ref n, .int k => match m3[n]? with
    | some (.lst xs) => match ixN xs.length k with
      | some j => .ok .nx r (m3.set n (.lst (xs.set j d)))
      | none => .bad
    | _ => .bad
  | _, _ => .bad
def ksx (d : D) (n : Nat) (o : Option MO) (k : Int) (r : Env) (m : Mem) : SRes := match o with
  | some (.lst xs) => match ixN xs.length k with
      | some j => .ok .nx r (m.set n (.lst (xs.set j d)))
      | none => .bad
  | _ => .bad
def ksy (d : D) (n : Nat) (xs : List D) (j : Option Nat) (r : Env) (m : Mem) : SRes := match j with
  | some j => .ok .nx r (m.set n (.lst (xs.set j d)))
  | none => .bad
section
variable {o i v : FE} {r : Env} {m : Mem} {d x y : D} {n j : Nat} {k : Int} {xs : List D}
theorem setG_v : setG o i v r m = ksv (v r m) o i r := rfl
theorem ksv_ok : ksv (.ok d m) o i r = kso d (o r m) i r := rfl
theorem ksv_exc {c : String} : ksv (.exc c m) o i r = .exc c r m := rfl
theorem kso_ok : kso d (.ok x m) i r = ksi d x (i r m) r := rfl
theorem ksi_ok : ksi d (.ref n) (.ok (.int k) m) r = ksx d n m[n]? k r m := rfl
theorem ksx_ok : ksx d n (some (.lst xs)) k r m = ksy d n xs (ixN xs.length k) r m := rfl
theorem ksy_ok : ksy d n xs (some j) r m = .ok .nx r (m.set n (.lst (xs.set j d))) := rfl
theorem items_kit : itemsOf m n = kit m[n]? := rfl
theorem kit_lst : kit (some (.lst xs)) = some xs := rfl
theorem kit_con : kit (some (.con xs)) = some xs := rfl
theorem idxG_refE : idxG (.ref n) (.int k) m = kix n (itemsOf m n) k m := by
  simp only [idxG, kix] <;> (cases itemsOf m n <;> rfl)
theorem kix_some : kix n (some xs) k m = ofI (atI xs k) m := rfl
theorem idxG_tupE : idxG (.tup xs) (.int k) m = ofI (atI xs k) m := rfl
theorem ofI_some : ofI (some d) m = some (d, m) := rfl
theorem lenG_refE : lenG [.ref n] m = klen (itemsOf m n) m := by
  simp only [lenG, klen] <;> (cases itemsOf m n <;> rfl)
theorem klen_some : klen (some xs) m = some (.int xs.length, m) := rfl
end
/-- the loop: while, by its runs -/
theorem whileN_mono {c : FT} {b : FS} : ∀ {n : Nat} {r : Env} {m : Mem}, whileN c b n r m ≠ .bad → ∀ {k : Nat}, n ≤ k → whileN c b k r m = whileN c b n r m
  | 0, _, _, h, _, _ => absurd rfl h
  | n + 1, r, m, h, 0, hk => absurd hk (by omega)
  | n + 1, r, m, h, k + 1, hk => by
    rw [whileN] at h
    rw [whileN, whileN]
    cases e : c r m with
    | ok t m1 =>
      rw [e] at h
      cases t with
      | false => rfl
      | true =>
        simp only [of_ok, if_true] at h ⊢
        cases e2 : b r m1 with
        | ok f r2 m2 =>
          rw [e2] at h
          cases f with
          | nx => exact whileN_mono (by simpa using h) (by omega)
          | ct => exact whileN_mono (by simpa using h) (by omega)
          | bk => rfl
          | rt d => rfl
        | exc c r2 m2 => rfl
        | bad => rfl
    | exc c m1 => rfl
    | bad => rfl
theorem whileS_eq {c : FT} {b : FS} {n : Nat} {r : Env} {m : Mem} {x : SRes} (h : whileN c b n r m = x) (hx : x ≠ .bad) : whileS c b r m = x := by
  have hn : ∃ n, whileN c b n r m ≠ .bad := ⟨n, by rw [h]; exact hx⟩
  unfold whileS
  rw [dif_pos hn]
  have h2 := Classical.choose_spec hn
  by_cases q : n ≤ Classical.choose hn
  · rw [← h]
    exact whileN_mono (by rw [h]; exact hx) q
  · rw [← h]
    exact (whileN_mono h2 (by omega)).symm
/-- one turn more -/
theorem whileS_step {c : FT} {b : FS} {r r2 : Env} {m m1 m2 : Mem} {x : SRes} (hc : c r m = .ok true m1) (hb : b r m1 = .ok .nx r2 m2) (h : whileS c b r2 m2 = x) (hx : x ≠ .bad) : whileS c b r m = x := by
  have hn : ∃ n, whileN c b n r2 m2 = x := by
    unfold whileS at h
    split at h
    · exact ⟨_, h⟩
    · exact absurd h.symm hx
  obtain ⟨n, hn⟩ := hn
  refine whileS_eq (n := n + 1) ?_ hx
  rw [whileN, hc, of_ok, if_pos rfl, hb]
  exact hn
theorem whileS_end {c : FT} {b : FS} {r : Env} {m m1 : Mem} (hc : c r m = .ok false m1) : whileS c b r m = .ok .nx r m1 := by
  refine whileS_eq (n := 1) ?_ (by intro h; cases h)
  rw [whileN, hc, of_ok]
  rfl
/-- a loop over fixed items, by an invariant -/
theorem forL_fix {s : Src} {tg : FG} {b : FS} (P : List D → Env → Mem → Prop) (hs : ∀ ds r m, P ds r m → s.still m) (step : ∀ d ds r m, P (d :: ds) r m → ∃ r1, tg d r = some r1 ∧ ∃ r2 m2, (b r1 m = .ok .nx r2 m2 ∨ b r1 m = .ok .ct r2 m2) ∧ P ds r2 m2) :
    ∀ (ds : List D) (r : Env) (m : Mem), P ds r m → ∃ r' m', forL s tg b ds r m = .ok .nx r' m' ∧ P [] r' m'
  | [], r, m, h => ⟨r, m, by rw [forL, if_pos (hs _ _ _ h)], h⟩
  | d :: ds, r, m, h => by
    obtain ⟨r1, e1, r2, m2, e2, h2⟩ := step d ds r m h
    obtain ⟨r', m', e3, h3⟩ := forL_fix P hs step ds r2 m2 h2
    refine ⟨r', m', ?_, h3⟩
    rw [forL, if_pos (hs _ _ _ h), e1]
    rcases e2 with e2 | e2
    · simp only [e2]
      exact e3
    · simp only [e2]
      exact e3
end Mi

end

section
set_option Elab.async false
set_option linter.all false
set_option maxRecDepth 100000
set_option maxHeartbeats 4000000
namespace Mi
open PySem PySem.Spec L2
open PyProof.Rows hiding St
open scoped Classical

/-! ## in, not in, is, is not -/
def inSD (a z : PySem.Str) : Bool := match a.cps.toList with
  | [c] => decide (c ∈ z.cps.toList)
  | _ => !(Builtin.Str.occurrences z a 0 z.length 1).isEmpty
/-- in a set of ints, in a dict -/
def inO (o : Option MO) (x : D) : Option Bool := match o with
  | some (.sti ns) => match x with
    | .int i => some (decide (i ∈ ns))
    | _ => none
  | some (.dic kvs) => (keyD x).map fun k => (valM kvs k).isSome
  | _ => none
def inB (x y : D) (m : Mem) : Option Bool := match y with
  | .str z => match x with
    | .str a => some (inSD a z)
    | _ => none
  | .tup ds => if (SeqAt.shaped (pdM m x) && SeqAt.shaped (PyData.tuple (D.pdL ds))) = true then some ((D.pdL ds).any fun e => PyData.eqv e (pdM m x)) else none
  | .ref n => match itemsOf m n with
    | some ds => if (SeqAt.shaped (pdM m x) && SeqAt.shaped (PyData.list (D.pdL ds))) = true then some ((D.pdL ds).any fun e => PyData.eqv e (pdM m x)) else none
    | none => inO m[n]? x
  | _ => none
def inG : G2 := fun x y m => (inB x y m).map fun b => (.bl b, m)
def ninG : G2 := fun x y m => (inB x y m).map fun b => (.bl (!b), m)
def isNonD : D → Bool
  | .non => true
  | _ => false
def isG : G2 := fun x y m => match y with
  | .non => some (.bl (isNonD x), m)
  | _ => none
def isnG : G2 := fun x y m => match y with
  | .non => some (.bl (!isNonD x), m)
  | _ => none
section
variable {X : Cx}
theorem str_one {a : PySem.Str} {c : Nat} (e : a.cps.toList = [c]) : a = ⟨#[c]⟩ := by
  obtain ⟨⟨l⟩⟩ := a
  cases (show l = [c] from e)
  rfl
theorem inO_core {X : Cx} (neg : Bool) {pins s σ H} {x y : V} {v u : Value} {Q : VK} (hu : X.A.units + 1 < cLine) (I : Inv X pins σ H s) (rx : RelV x v) (ry : RelV y u) {ad m dx n} (rm : RepM X.K ad m H) (qx : RepD X.K H ad dx x) (qy : RepD X.K H ad (.ref n) y) {b : Bool} (e : inO m[n]? dx = some b)
    (q : Q (.bl (cond neg (!b) b)) H) : wpAny (model X.prog X.w) X.A (compareOp (cond neg .NotIn .In) v u) (EP X pins σ Q) X.xe s := by
  obtain ⟨a, rfl, ea⟩ := qy
  cases ry
  unfold inO at e
  split at e
  · rename_i ns em
    obtain ⟨S, c, e1, e2⟩ := rm.obj n _ a em ea
    split at e
    · rename_i i
      cases e
      cases (show x = V.int i from qx)
      obtain ⟨tk, rfl⟩ := rx
      have so : s.heap.SetOf (intKind X.prog X.w) a S c := I.hok a _ e1
      rw [← e2 i] at q
      cases neg with
      | false => exact wpAny_inSet_of (intKind_is _ _ _ _) rfl so ⟨.bl (S i), H, I.tok _, rfl, q⟩
      | true => exact wpAny_notInSet_of (intKind_is _ _ _ _) rfl so ⟨.bl (!S i), H, I.tok _, rfl, q⟩
    · cases e
  · rename_i kvs em
    cases ek : keyD dx with
    | none => rw [ek] at e; cases e
    | some k =>
      rw [ek] at e
      cases e
      obtain ⟨ks, h1, h2, h3⟩ := rm.obj n _ a em ea
      have ex := keyD_eq ek qx
      subst ex
      have hv : (valM kvs k).isSome = (valV ks k).isSome := by
        rcases valM_rep k h2 h3 with ⟨z1, z2⟩ | ⟨d, w, z1, z2, _⟩ <;> rw [z1, z2] <;> rfl
      replace q : Q (V.bl (cond neg (!(valM kvs k).isSome) (valM kvs k).isSome)) H := q
      rw [hv] at q
      cases neg with
      | false => exact d_in hu I (DGet.k h1) rx fun s' I' => ⟨.bl _, H, I', rfl, q⟩
      | true => exact d_notIn hu I (DGet.k h1) rx fun s' I' => ⟨.bl _, H, I', rfl, q⟩
  · cases e
theorem in_core {X : Cx} (neg : Bool) {pins s σ H} {x y : V} {v u : Value} {Q : VK} (hu : X.A.units + 65 < cLine) (I : Inv X pins σ H s) (rx : RelV x v) (ry : RelV y u) {ad m dx dy} (rm : RepM X.K ad m H) (qx : RepD X.K H ad dx x) (qy : RepD X.K H ad dy y) {b : Bool} (e : inB dx dy m = some b)
    (q : Q (.bl (cond neg (!b) b)) H) : wpAny (model X.prog X.w) X.A (compareOp (cond neg .NotIn .In) v u) (EP X pins σ Q) X.xe s := by
  unfold inB at e
  split at e
  · rename_i z
    split at e
    · rename_i a
      cases e
      unfold inSD at q
      split at q
      · rename_i c ec
        cases str_one ec
        cases neg with
        | false => exact op_in_sign pins s σ H x y v u Q I rx ry ⟨c, z, qx, qy, q⟩
        | true => exact op_notIn_sign pins s σ H x y v u Q I rx ry ⟨c, z, qx, qy, q⟩
      · cases neg with
        | false => exact op_in_str pins s σ H x y v u Q I rx ry ⟨a, z, qx, qy, q⟩
        | true => exact op_notIn_str pins s σ H x y v u Q I rx ry ⟨a, z, qx, qy, q⟩
    · cases e
  · rename_i ds
    split at e
    · rename_i hc
      rw [Bool.and_eq_true] at hc
      cases e
      obtain ⟨as, r1⟩ := Dp.reads I _ x v (qx.dpM rm (SeqAt.canLay_of_shaped hc.1)) rx
      obtain ⟨bs, r2⟩ := Dp.reads I (.tuple (D.pdL ds)) y u (RepD.dp (.tup ds) y qy (SeqAt.canLay_of_shaped hc.2)) ry
      cases neg with
      | false => exact SeqAt.in_tuple_reads r2 r1 (show PyData.canLayAll0 (D.pdL ds) = true from SeqAt.canLay_of_shaped (d := .tuple (D.pdL ds)) hc.2) (SeqAt.canLay_of_shaped hc.1) (room_in_shaped hc.1 hu) ⟨.bl _, H, I, rfl, q⟩
      | true => exact SeqAt.notIn_tuple_reads r2 r1 (show PyData.canLayAll0 (D.pdL ds) = true from SeqAt.canLay_of_shaped (d := .tuple (D.pdL ds)) hc.2) (SeqAt.canLay_of_shaped hc.1) (room_in_shaped hc.1 hu) ⟨.bl _, H, I, rfl, q⟩
    · cases e
  · rename_i n
    split at e
    · rename_i ds ei
      split at e
      · rename_i hc
        rw [Bool.and_eq_true] at hc
        cases e
        have ep : pdM m (.ref n) = .list (D.pdL ds) := by simp [pdM, ei]
        have dy := qy.dpM rm (by rw [ep]; exact SeqAt.canLay_of_shaped hc.2)
        rw [ep] at dy
        have dx := qx.dpM rm (SeqAt.canLay_of_shaped hc.1)
        cases neg with
        | false => exact op_inD hu pins s σ H x y v u Q I rx ry ⟨_, _, dx, dy, hc.1, hc.2, q⟩
        | true => exact op_notInD hu pins s σ H x y v u Q I rx ry ⟨_, _, dx, dy, hc.1, hc.2, q⟩
      · cases e
    · exact inO_core neg (by omega) I rx ry rm qx qy e q
  · cases e
theorem o_in (hu : X.A.units + 65 < cLine) : OpR X (compareOp .In) (rD2 X.K inG) := by
  intro pins s σ H x y v u Q I rx ry h
  obtain ⟨ad, m, dx, dy, rm, qx, qy, d, m', e, q⟩ := h
  cases eb : inB dx dy m with
  | none => simp [inG, eb] at e
  | some b =>
    simp only [inG, eb, Option.map_some, Option.some.injEq, Prod.mk.injEq] at e
    obtain ⟨rfl, rfl⟩ := e
    exact in_core false hu I rx ry rm qx qy eb (q ad H _ Ext.refl rm rfl)
theorem o_nin (hu : X.A.units + 65 < cLine) : OpR X (compareOp .NotIn) (rD2 X.K ninG) := by
  intro pins s σ H x y v u Q I rx ry h
  obtain ⟨ad, m, dx, dy, rm, qx, qy, d, m', e, q⟩ := h
  cases eb : inB dx dy m with
  | none => simp [ninG, eb] at e
  | some b =>
    simp only [ninG, eb, Option.map_some, Option.some.injEq, Prod.mk.injEq] at e
    obtain ⟨rfl, rfl⟩ := e
    exact in_core true hu I rx ry rm qx qy eb (q ad H _ Ext.refl rm rfl)
theorem isNonD_v {K : PySem.W.Frag} {H : Hp} {ad : List Addr} {d : D} {v : V} (r : RepD K H ad d v) : decide (v = .non) = isNonD d := by
  cases d with
  | non => cases (show v = .non from r); rfl
  | bl b => cases (show v = .bl b from r); rfl
  | int b => cases (show v = .int b from r); rfl
  | str b => cases (show v = .str b from r); rfl
  | tup ds => obtain ⟨a, vs, rfl, _⟩ := r; rfl
  | ref n => obtain ⟨a, rfl, _⟩ := r; rfl
  | exn c => exact r.elim
theorem o_is : OpR X (compareOp .Is) (rD2 X.K isG) := oimp op_isN fun x y H Q h => by
  obtain ⟨ad, m, dx, dy, rm, rx, ry, d, m', e, q⟩ := h
  unfold isG at e
  split at e
  · cases e
    exact ⟨ry, by rw [isNonD_v rx]; exact q ad H _ Ext.refl rm rfl⟩
  · cases e
theorem o_isn : OpR X (compareOp .IsNot) (rD2 X.K isnG) := oimp op_notN fun x y H Q h => by
  obtain ⟨ad, m, dx, dy, rm, rx, ry, d, m', e, q⟩ := h
  unfold isnG at e
  split at e
  · cases e
    exact ⟨ry, by rw [isNonD_v rx]; exact q ad H _ Ext.refl rm rfl⟩
  · cases e
end
theorem room65 {k : Nat} {A : Around} (r : Room k A) : A.units + 65 < cLine := by have := r.un; omega

/-! ## slices -/
def cutD (ds : List D) (lo hi : Option Int) : List D := (ds.drop (HT.sIx ds.length 0 lo)).take (HT.sIx ds.length ds.length hi - HT.sIx ds.length 0 lo)
def sliceD (x : D) (lo hi : Option Int) (m : Mem) : Option (D × Mem) := match x with
  | .tup ds => some (.tup (cutD ds lo hi), m)
  | .ref n => (itemsOf m n).map fun ds => (.ref m.length, m ++ [.lst (cutD ds lo hi)])
  | .str z => if z.length ≤ sizeLine then some (.str (cutS z lo hi), m) else none
  | _ => none
def optE (f : Option FE) (r : Env) (m : Mem) : Res (Option Int) := match f with
  | none => .ok none m
  | some f => (f r m).bind fun d m1 => match d with
    | .int i => .ok (some i) m1
    | _ => .bad
def sliceE (fa : FE) (lo hi : Option FE) : FE := fun r m => (fa r m).bind fun x m1 => (optE lo r m1).bind fun l m2 => (optE hi r m2).bind fun h m3 => lft (sliceD x l h m3)
section
variable {K : PySem.W.Frag} {H : Hp} {ad : List Addr}
theorem RepL.drop : ∀ {ds : List D} {vs : List V} (k : Nat), RepL K H ad ds vs → RepL K H ad (ds.drop k) (vs.drop k)
  | _, _, 0, h => h
  | [], _, k + 1, h => by cases h; rfl
  | d :: ds, _, k + 1, h => by
    obtain ⟨v, r, rfl, _, h2⟩ := h
    exact RepL.drop k h2
theorem RepL.take : ∀ {ds : List D} {vs : List V} (k : Nat), RepL K H ad ds vs → RepL K H ad (ds.take k) (vs.take k)
  | _, _, 0, _ => by simp [RepL]
  | [], _, k + 1, h => by cases h; rfl
  | d :: ds, _, k + 1, h => by
    obtain ⟨v, r, rfl, h1, h2⟩ := h
    exact ⟨v, r.take k, rfl, h1, RepL.take k h2⟩
theorem RepL.cut {ds : List D} {vs : List V} (lo hi : Option Int) (h : RepL K H ad ds vs) : RepL K H ad (cutD ds lo hi) (cutV vs lo hi) := by
  unfold cutD cutV
  rw [h.length]
  exact (h.drop _).take _
theorem cutD_whole {ds : List D} {lo hi : Option Int} (h : HT.sIx ds.length 0 lo = 0 ∧ HT.sIx ds.length ds.length hi = ds.length) : cutD ds lo hi = ds := by
  unfold cutD
  rw [h.1, h.2]
  simp
end
section
variable {X : Cx} {cl : String → Addr} {W : WX} {e : Expr} {fa : FE} {pos p2 : Pos}
def rSlD (K : PySem.W.Frag) : V → Option Int → Option Int → Hp → VK → Prop := fun x lo hi H Q => ∃ ad m dx, RepM K ad m H ∧ RepD K H ad dx x ∧ ∃ d m', sliceD dx lo hi m = some (d, m') ∧ OkQ K H ad Q d m'
theorem sl_D : SlR X (rSlD X.K) := by
  intro pins s σ H x v vl vu lo hi sl Q I rx hs pl pu h
  obtain ⟨ad, m, dx, rm, qx, d, m', e, q⟩ := h
  unfold sliceD at e
  split at e
  · rename_i ds
    cases e
    obtain ⟨a, vs, rfl, t, r⟩ := qx
    refine sl_tupA pins s σ H _ v vl vu lo hi sl Q I rx hs pl pu ⟨a, vs, rfl, t, fun hw => ?_, fun _ p hp => ?_⟩
    · rw [← r.length] at hw
      rw [cutD_whole hw] at q
      exact q ad H _ Ext.refl rm ⟨a, vs, rfl, t, r⟩
    · exact q ad _ _ (ext_new hp) (rm.new hp) ⟨p, cutV vs lo hi, rfl, .of upd_same, RepL.mono (ext_new hp) _ _ (r.cut lo hi)⟩
  · rename_i n
    cases ei : itemsOf m n with
    | none => rw [ei] at e; cases e
    | some ds =>
      rw [ei] at e
      cases e
      obtain ⟨a, rfl, ea⟩ := qx
      obtain ⟨vs, t, r, _⟩ := rm.items ea ei
      exact sl_list pins s σ H _ v vl vu lo hi sl Q I rx hs pl pu ⟨a, vs, rfl, t, fun p hp => q (ad ++ [p]) _ _ (ext_alloc hp) (rm.allocL hp (r.cut lo hi)) (new_ref' rm p)⟩
  · rename_i z
    split at e
    · rename_i hz
      cases e
      exact sl_str pins s σ H _ v vl vu lo hi sl Q I rx hs pl pu ⟨z, qx, hz, q ad H _ Ext.refl rm rfl⟩
    · cases e
  · cases e
def tO (K : PySem.W.Frag) (cl : String → Addr) (W : WX) (f : Option FE) : TO := fun σ H Q => St0 K σ H fun ad r m => Fin K cl W σ H ad (fun o m1 => ∀ ad1 H1, Ext K H ad H1 ad1 → RepM K ad1 m1 H1 → Q o H1) (optE f r m)
abbrev DO (X : Cx) (cl : String → Addr) (W : WX) (e : Option Expr) (f : Option FE) : Prop := PO X e (tO X.K cl W f)
theorem PO.imp {X : Cx} {e : Option Expr} {t t' : TO} (h : PO X e t) (i : ∀ σ H Q, t' σ H Q → t σ H Q) : PO X e t' := ⟨fun pins s σ H Q I q => h.run pins s σ H Q I (i _ _ _ q)⟩
theorem dponil : DO X cl W none none := PO.imp po_none fun σ H Q h => by
  obtain ⟨ad, r, m, rm, re, h⟩ := h
  exact h ad H Ext.refl rm
theorem dpo (h : DE X cl W e fa) : DO X cl W (some e) (some fa) := PO.imp (po_some h) fun σ H Q h => by
  obtain ⟨ad, r, m, rm, re, h⟩ := h
  refine tE_go rm re h fun ad1 H1 m1 x v x1 rm1 re1 rd h1 => ?_
  cases x with
  | int i =>
    cases (show v = .int i from rd)
    exact ⟨i, rfl, h1 ad1 H1 x1 rm1⟩
  | _ => exact h1.elim
theorem tO_go {K : PySem.W.Frag} {σ : St} {H : Hp} {ad : List Addr} {m : Mem} {α : Type} {f : Option FE} {r : Env} {P : α → Mem → Prop} {g : Option Int → Mem → Res α} (rm : RepM K ad m H) (re : RepE K H ad r σ) {R : Option Int → Hp → Prop}
    (h : Fin K cl W σ H ad P ((optE f r m).bind g))
    (k : ∀ ad1 H1 m1 o, Ext K H ad H1 ad1 → RepM K ad1 m1 H1 → RepE K H1 ad1 r σ → Fin K cl W σ H ad P (g o m1) → R o H1) :
    tO K cl W f σ H R := ⟨ad, r, m, rm, re, (fin_bind h).imp fun b m1 h1 ad1 H1 x1 rm => k ad1 H1 m1 b x1 rm (RepE.mono x1 re) h1⟩
theorem dslice {lo hi : Option Expr} {fl fh : Option FE} (he : DE X cl W e fa) (hl : DO X cl W lo fl) (hu : DO X cl W hi fh) : DE X cl W (.Subscript e (.Slice lo hi none p2) pos) (sliceE fa fl fh) := PE.imp (pe_slice sl_D he hl hu) fun σ H Q h => by
  obtain ⟨ad, r, m, rm, re, h⟩ := h
  refine tE_go rm re h fun ad1 H1 m1 x v x1 rm1 re1 rd h1 => ?_
  refine tO_go rm1 re1 (Fin.mono x1 (fun _ _ q => OkQ.mono x1 q) h1) fun ad2 H2 m2 o x2 rm2 re2 h2 => ?_
  refine tO_go rm2 re2 (Fin.mono x2 (fun _ _ q => OkQ.mono x2 q) h2) fun ad3 H3 m3 o2 x3 rm3 re3 h3 => ?_
  obtain ⟨d, m', e, q⟩ := fin_lft h3
  exact ⟨ad3, m3, x, rm3, RepD.mono x3 _ _ (RepD.mono x2 _ _ rd), d, m', e, OkQ.mono x3 q⟩
end

/-! ## a < b < c -/
def chainE (fa fb fc : FE) (g g2 : G2) : FE := fun r m => (fa r m).bind fun x m1 => (fb r m1).bind fun y m2 => match g x y m2 with
  | some (.bl true, m3) => (fc r m3).bind fun z m4 => lft (g2 y z m4)
  | some (.bl false, m3) => .ok (.bl false) m3
  | _ => .bad
section
variable {X : Cx} {cl : String → Addr} {W : WX} {a b c : Expr} {fa fb fc : FE} {g g2 : G2} {op op' : CmpOp} {pos : Pos}
theorem chain_t {K : PySem.W.Frag} {σ : St} {H : Hp} {Q : VK} (h : tE K cl W (chainE fa fb fc g g2) σ H Q) : tChain (rD2 K g) (rD2 K g2) (tE K cl W fa) (tE K cl W fb) (tE K cl W fc) σ H Q := by
  obtain ⟨ad, r, m, rm, re, h⟩ := h
  refine tE_go rm re h fun ad1 H1 m1 x v x1 rm1 re1 rd h1 => ?_
  refine tE_go rm1 re1 (Fin.mono x1 (fun _ _ q => OkQ.mono x1 q) h1) fun ad2 H2 m2 y u x2 rm2 re2 rd2 h2 => ?_
  split at h2
  · rename_i m3 eg
    refine ⟨ad2, m2, x, y, rm2, RepD.mono x2 _ _ rd, rd2, _, m3, eg, fun ad3 H3 v3 x3 rm3 rd3 => ⟨true, rd3, ?_⟩⟩
    rw [if_pos rfl]
    refine tE_go rm3 (RepE.mono x3 re2) (Fin.mono (x2.trans x3) (fun _ _ q => OkQ.mono (x2.trans x3) q) h2) fun ad4 H4 m4 z w x4 rm4 re4 rd4 h4 => ?_
    obtain ⟨d, m', e, q⟩ := fin_lft h4
    exact ⟨ad4, m4, y, z, rm4, RepD.mono x4 _ _ (RepD.mono x3 _ _ rd2), rd4, d, m', e, OkQ.mono x4 q⟩
  · rename_i m3 eg
    refine ⟨ad2, m2, x, y, rm2, RepD.mono x2 _ _ rd, rd2, _, m3, eg, fun ad3 H3 v3 x3 rm3 rd3 => ⟨false, rd3, ?_⟩⟩
    rw [if_neg (by decide)]
    exact h2 ad3 H3 _ (x2.trans x3) rm3 rfl
  · exact h2.elim
theorem dchain (ho : OpR X (compareOp op) (rD2 X.K g)) (ho' : OpR X (compareOp op') (rD2 X.K g2)) (ha : DE X cl W a fa) (hb : DE X cl W b fb) (hc : DE X cl W c fc) (hm : lastMarks [op, op'] [b, c] = false := by with_unfolding_all rfl) :
    DE X cl W (.Compare a [op, op'] [b, c] pos) (chainE fa fb fc g g2) := PE.imp (pe_chain ho ho' ha hb hc hm) fun σ H Q h => chain_t h
theorem dtchain (ho : OpR X (compareOp op) (rD2 X.K g)) (ho' : OpR X (compareOp op') (rD2 X.K g2)) (ha : DE X cl W a fa) (hb : DE X cl W b fb) (hc : DE X cl W c fc) (hm : lastMarks [op, op'] [b, c] = false := by with_unfolding_all rfl) :
    DT X cl W (.Compare a [op, op'] [b, c] pos) (valT (chainE fa fb fc g g2)) := PT.imp (pt_chain ho ho' ha hb hc hm) fun σ H Q h => by
  obtain ⟨ad, r, m, rm, re, h⟩ := h
  have h' : tE X.K cl W (chainE fa fb fc g g2) σ H fun x H' => ∃ k, x = .bl k ∧ Q k H' := tT_val ⟨ad, r, m, rm, re, h⟩
  exact chain_t h'
end
end Mi

end

section
set_option Elab.async false
set_option linter.all false
set_option maxRecDepth 100000
set_option maxHeartbeats 4000000
namespace Mi
open PySem PySem.Spec L2
open PyProof.Rows hiding St
open scoped Classical

/-! ## all, any, max, min, sum, str -/
def blsOf : List D → Option (List Bool)
  | [] => some []
  | .bl b :: ds => (blsOf ds).map (b :: ·)
  | _ => none
def intsOf : List D → Option (List Int)
  | [] => some []
  | .int b :: ds => (intsOf ds).map (b :: ·)
  | _ => none
theorem blsOf_eq : ∀ {ds : List D} {bs : List Bool}, blsOf ds = some bs → ds = bs.map .bl
  | [], _, h => by cases h; rfl
  | .bl b :: ds, _, h => by
    unfold blsOf at h
    cases e : blsOf ds with
    | none => rw [e] at h; cases h
    | some l =>
      rw [e] at h
      cases h
      rw [blsOf_eq e]
      rfl
  | .non :: _, _, h => by cases h
  | .int _ :: _, _, h => by cases h
  | .str _ :: _, _, h => by cases h
  | .tup _ :: _, _, h => by cases h
  | .ref _ :: _, _, h => by cases h
  | .exn _ :: _, _, h => by cases h
theorem intsOf_eq : ∀ {ds : List D} {bs : List Int}, intsOf ds = some bs → ds = bs.map .int
  | [], _, h => by cases h; rfl
  | .int b :: ds, _, h => by
    unfold intsOf at h
    cases e : intsOf ds with
    | none => rw [e] at h; cases h
    | some l =>
      rw [e] at h
      cases h
      rw [intsOf_eq e]
      rfl
  | .non :: _, _, h => by cases h
  | .bl _ :: _, _, h => by cases h
  | .str _ :: _, _, h => by cases h
  | .tup _ :: _, _, h => by cases h
  | .ref _ :: _, _, h => by cases h
  | .exn _ :: _, _, h => by cases h
theorem blsOf_map : ∀ bs : List Bool, blsOf (bs.map .bl) = some bs
  | [] => rfl
  | b :: bs => by
    show (blsOf (bs.map D.bl)).map (b :: ·) = _
    rw [blsOf_map bs]
    rfl
theorem intsOf_map : ∀ bs : List Int, intsOf (bs.map .int) = some bs
  | [] => rfl
  | b :: bs => by
    show (intsOf (bs.map D.int)).map (b :: ·) = _
    rw [intsOf_map bs]
    rfl
section
variable {K : PySem.W.Frag} {H : Hp} {ad : List Addr}
theorem repl_bls : ∀ {bs : List Bool} {vs : List V}, RepL K H ad (bs.map .bl) vs → vs = bs.map .bl
  | [], _, h => h
  | b :: bs, _, h => by
    obtain ⟨v, r, rfl, h1, h2⟩ := h
    rw [repl_bls h2]
    cases (show v = .bl b from h1)
    rfl
theorem repl_ints : ∀ {bs : List Int} {vs : List V}, RepL K H ad (bs.map .int) vs → vs = bs.map .int
  | [], _, h => h
  | b :: bs, _, h => by
    obtain ⟨v, r, rfl, h1, h2⟩ := h
    rw [repl_ints h2]
    cases (show v = .int b from h1)
    rfl
end
def mxL : List Int → Int
  | [] => 0
  | a :: l => l.foldl max a
def mnL : List Int → Int
  | [] => 0
  | a :: l => l.foldl min a
theorem foldl_max_le : ∀ (l : List Int) (a : Int), a ≤ l.foldl max a ∧ (∀ y ∈ l, y ≤ l.foldl max a) ∧ (l.foldl max a = a ∨ l.foldl max a ∈ l)
  | [], a => ⟨Int.le_refl _, (fun y hy => by cases hy), .inl rfl⟩
  | b :: l, a => by
    obtain ⟨h1, h2, h3⟩ := foldl_max_le l (max a b)
    refine ⟨Int.le_trans (Int.le_max_left a b) h1, fun y hy => ?_, ?_⟩
    · rcases List.mem_cons.mp hy with rfl | hy
      · exact Int.le_trans (Int.le_max_right a y) h1
      · exact h2 y hy
    · rcases h3 with h3 | h3
      · have h3 : (b :: l).foldl max a = max a b := h3
        by_cases q : a ≤ b
        · rw [Int.max_eq_right q] at h3; rw [h3]; exact .inr List.mem_cons_self
        · rw [Int.max_eq_left (by omega)] at h3; exact .inl h3
      · exact .inr (List.mem_cons_of_mem _ h3)
theorem foldl_min_le : ∀ (l : List Int) (a : Int), l.foldl min a ≤ a ∧ (∀ y ∈ l, l.foldl min a ≤ y) ∧ (l.foldl min a = a ∨ l.foldl min a ∈ l)
  | [], a => ⟨Int.le_refl _, (fun y hy => by cases hy), .inl rfl⟩
  | b :: l, a => by
    obtain ⟨h1, h2, h3⟩ := foldl_min_le l (min a b)
    refine ⟨Int.le_trans h1 (Int.min_le_left a b), fun y hy => ?_, ?_⟩
    · rcases List.mem_cons.mp hy with rfl | hy
      · exact Int.le_trans h1 (Int.min_le_right a y)
      · exact h2 y hy
    · rcases h3 with h3 | h3
      · have h3 : (b :: l).foldl min a = min a b := h3
        by_cases q : a ≤ b
        · rw [Int.min_eq_left q] at h3; exact .inl h3
        · rw [Int.min_eq_right (by omega)] at h3; rw [h3]; exact .inr List.mem_cons_self
      · exact .inr (List.mem_cons_of_mem _ h3)
theorem mxL_is {l : List Int} (h : 0 < l.length) : mxL l ∈ l ∧ ∀ y ∈ l, y ≤ mxL l := by
  cases l with
  | nil => exact absurd h (by decide)
  | cons a l =>
    obtain ⟨h1, h2, h3⟩ := foldl_max_le l a
    refine ⟨?_, fun y hy => ?_⟩
    · rcases h3 with h3 | h3
      · show l.foldl max a ∈ _
        rw [h3]; exact List.mem_cons_self
      · exact List.mem_cons_of_mem _ h3
    · rcases List.mem_cons.mp hy with rfl | hy
      · exact h1
      · exact h2 y hy
theorem mnL_is {l : List Int} (h : 0 < l.length) : mnL l ∈ l ∧ ∀ y ∈ l, mnL l ≤ y := by
  cases l with
  | nil => exact absurd h (by decide)
  | cons a l =>
    obtain ⟨h1, h2, h3⟩ := foldl_min_le l a
    refine ⟨?_, fun y hy => ?_⟩
    · rcases h3 with h3 | h3
      · show l.foldl min a ∈ _
        rw [h3]; exact List.mem_cons_self
      · exact List.mem_cons_of_mem _ h3
    · rcases List.mem_cons.mp hy with rfl | hy
      · exact h1
      · exact h2 y hy
def allG : GN := fun xs m => match xs with
  | [.ref n] => ((itemsOf m n).bind blsOf).map fun bs => (.bl (bs.all id), m)
  | _ => none
def anyG : GN := fun xs m => match xs with
  | [.ref n] => ((itemsOf m n).bind blsOf).map fun bs => (.bl (bs.any id), m)
  | _ => none
def sumG : GN := fun xs m => match xs with
  | [.ref n] => ((itemsOf m n).bind intsOf).map fun bs => (.int bs.sum, m)
  | _ => none
def maxG : GN := fun xs m => match xs with
  | [.int i, .int j] => some (.int (max i j), m)
  | [.ref n] => match (itemsOf m n).bind intsOf with
    | some ns => if 0 < ns.length then some (.int (mxL ns), m) else none
    | none => none
  | _ => none
def minG : GN := fun xs m => match xs with
  | [.int i, .int j] => some (.int (min i j), m)
  | [.ref n] => match (itemsOf m n).bind intsOf with
    | some ns => if 0 < ns.length then some (.int (mnL ns), m) else none
    | none => none
  | _ => none
def strG : GN := fun xs m => match xs with
  | [.int i] => if i.natAbs.log2 < 1920 then some (.str (toString i : String), m) else none
  | _ => none
section
variable {X : Cx}
theorem items_bls {K : PySem.W.Frag} {ad : List Addr} {m : Mem} {H : Hp} (rm : RepM K ad m H) {n : Nat} {vs : List V} (r : RepL K H ad [.ref n] vs) {bs : List Bool} (e : (itemsOf m n).bind blsOf = some bs) : ∃ a, vs = [V.ref a] ∧ SqL K H a (bs.map V.bl) := by
  cases ei : itemsOf m n with
  | none => rw [ei] at e; cases e
  | some ds =>
    rw [ei] at e
    have e2 := blsOf_eq (show blsOf ds = some bs from e)
    subst e2
    obtain ⟨v, rfl, a, rfl, ea⟩ := repl1 r
    obtain ⟨us, t, rr, _⟩ := rm.items ea ei
    rw [repl_bls rr] at t
    exact ⟨a, rfl, t⟩
theorem items_ints {K : PySem.W.Frag} {ad : List Addr} {m : Mem} {H : Hp} (rm : RepM K ad m H) {n : Nat} {vs : List V} (r : RepL K H ad [.ref n] vs) {bs : List Int} (e : (itemsOf m n).bind intsOf = some bs) : ∃ a, vs = [V.ref a] ∧ SqL K H a (bs.map V.int) := by
  cases ei : itemsOf m n with
  | none => rw [ei] at e; cases e
  | some ds =>
    rw [ei] at e
    have e2 := intsOf_eq (show intsOf ds = some bs from e)
    subst e2
    obtain ⟨v, rfl, a, rfl, ea⟩ := repl1 r
    obtain ⟨us, t, rr, _⟩ := rm.items ea ei
    rw [repl_ints rr] at t
    exact ⟨a, rfl, t⟩
theorem c_all {k : Nat} {A : Around} (hc : X.calm = true) (hr : Room k A) : CallR X (.builtin "all") (rDN X.K allG) := cimp (cr_all hc) fun xs H Q h => by
  obtain ⟨ad, m, ds, rm, r, d, m', e, q⟩ := h
  unfold allG at e
  split at e
  · rename_i n
    cases eb : (itemsOf m n).bind blsOf with
    | none => rw [eb] at e; cases e
    | some bs =>
      rw [eb] at e
      cases e
      obtain ⟨a, rfl, t⟩ := items_bls rm r eb
      exact ⟨a, bs, rfl, t, q ad H _ Ext.refl rm rfl⟩
  · cases e
theorem c_any {k : Nat} {A : Around} (hc : X.calm = true) (hr : Room k A) : CallR X (.builtin "any") (rDN X.K anyG) := cimp (cr_any hc) fun xs H Q h => by
  obtain ⟨ad, m, ds, rm, r, d, m', e, q⟩ := h
  unfold anyG at e
  split at e
  · rename_i n
    cases eb : (itemsOf m n).bind blsOf with
    | none => rw [eb] at e; cases e
    | some bs =>
      rw [eb] at e
      cases e
      obtain ⟨a, rfl, t⟩ := items_bls rm r eb
      exact ⟨a, bs, rfl, t, q ad H _ Ext.refl rm rfl⟩
  · cases e
theorem c_sum {k : Nat} {A : Around} (hc : X.calm = true) (hr : Room k A) : CallR X (.builtin "sum") (rDN X.K sumG) := cimp (cr_sum hc) fun xs H Q h => by
  obtain ⟨ad, m, ds, rm, r, d, m', e, q⟩ := h
  unfold sumG at e
  split at e
  · rename_i n
    cases eb : (itemsOf m n).bind intsOf with
    | none => rw [eb] at e; cases e
    | some bs =>
      rw [eb] at e
      cases e
      obtain ⟨a, rfl, t⟩ := items_ints rm r eb
      exact ⟨a, bs, rfl, t, q ad H _ Ext.refl rm rfl⟩
  · cases e
theorem cor {f : Value} {r1 r2 : List V → Hp → VK → Prop} (h1 : CallR X f r1) (h2 : CallR X f r2) : CallR X f (fun xs H Q => r1 xs H Q ∨ r2 xs H Q) := by
  intro pins s σ H xs us Q I rv q
  rcases q with q | q
  · exact h1 pins s σ H xs us Q I rv q
  · exact h2 pins s σ H xs us Q I rv q
theorem c_max {k : Nat} {A : Around} (hc : X.calm = true) (hr : Room k A) : CallR X (.builtin "max") (rDN X.K maxG) := cimp (cor (call_max2 hc) (cr_max hc)) fun xs H Q h => by
  obtain ⟨ad, m, ds, rm, r, d, m', e, q⟩ := h
  unfold maxG at e
  split at e
  · rename_i i j
    cases e
    obtain ⟨v, u, rfl, rv, ru⟩ := repl2 r
    cases (show v = .int i from rv)
    cases (show u = .int j from ru)
    refine .inl ⟨i, j, rfl, ?_⟩
    rw [show (if j > i then j else i) = max i j by
      by_cases h : j > i
      · rw [if_pos h, Int.max_eq_right (by omega)]
      · rw [if_neg h, Int.max_eq_left (by omega)]]
    exact q ad H _ Ext.refl rm rfl
  · rename_i n
    split at e
    · rename_i ns en
      split at e
      · rename_i hz
        cases e
        obtain ⟨a, rfl, t⟩ := items_ints rm r en
        refine .inr ⟨a, ns, rfl, t, hz, fun x hx hm => ?_⟩
        have e0 : x = mxL ns := Int.le_antisymm ((mxL_is hz).2 x hx) (hm _ (mxL_is hz).1)
        subst e0
        exact q ad H _ Ext.refl rm rfl
      · cases e
    · cases e
  · cases e
theorem c_min {k : Nat} {A : Around} (hc : X.calm = true) (hr : Room k A) : CallR X (.builtin "min") (rDN X.K minG) := cimp (cor (call_min2 hc) (cr_min hc)) fun xs H Q h => by
  obtain ⟨ad, m, ds, rm, r, d, m', e, q⟩ := h
  unfold minG at e
  split at e
  · rename_i i j
    cases e
    obtain ⟨v, u, rfl, rv, ru⟩ := repl2 r
    cases (show v = .int i from rv)
    cases (show u = .int j from ru)
    refine .inl ⟨i, j, rfl, ?_⟩
    rw [show (if j < i then j else i) = min i j by
      by_cases h : j < i
      · rw [if_pos h, Int.min_eq_right (by omega)]
      · rw [if_neg h, Int.min_eq_left (by omega)]]
    exact q ad H _ Ext.refl rm rfl
  · rename_i n
    split at e
    · rename_i ns en
      split at e
      · rename_i hz
        cases e
        obtain ⟨a, rfl, t⟩ := items_ints rm r en
        refine .inr ⟨a, ns, rfl, t, hz, fun x hx hm => ?_⟩
        have e0 : x = mnL ns := Int.le_antisymm (hm _ (mnL_is hz).1) ((mnL_is hz).2 x hx)
        subst e0
        exact q ad H _ Ext.refl rm rfl
      · cases e
    · cases e
  · cases e
theorem c_str : CallR X (.type "str") (rDN X.K strG) := cimp call_str_int fun xs H Q h => by
  obtain ⟨ad, m, ds, rm, r, d, m', e, q⟩ := h
  unfold strG at e
  split at e
  · rename_i i
    split at e
    · rename_i hz
      cases e
      obtain ⟨v, rfl, rv⟩ := repl1 r
      cases (show v = .int i from rv)
      exact ⟨i, rfl, hz, q ad H _ Ext.refl rm rfl⟩
    · cases e
  · cases e
end

/-! ## text * int -/
def repS (z : PySem.Str) (n : Int) : PySem.Str := if n < 1 then Str.empty else if (n == 1 || z.length == 0) = true then z else ⟨(List.replicate n.toNat z.cps).foldl (· ++ ·) #[]⟩
def mulSG : G2 := fun x y m => match x, y with
  | .str z, .int n => if n ≤ 10000 ∧ -10000 ≤ n ∧ z.length ≤ 1000 ∧ (repS z n).length ≤ sizeLine then some (.str (repS z n), m) else none
  | _, _ => none
theorem o_mulS {X : Cx} : OpR X (binaryOp .Mult) (rD2 X.K mulSG) := by
  intro pins s σ H x y v u Q I rx ry h
  obtain ⟨ad, m, dx, dy, rm, qx, qy, d, m', e, q⟩ := h
  unfold mulSG at e
  split at e
  · rename_i z n
    split at e
    · rename_i hz
      cases e
      obtain ⟨h1, h2, h3, h4⟩ := hz
      cases (show x = .str z from qx)
      cases (show y = .int n from qy)
      obtain ⟨t, rfl⟩ := rx
      obtain ⟨t', rfl⟩ := ry
      refine PySem.P.mul_str (by simp; omega) (fun h5 h6 => ?_) (fun h5 h6 => ?_) ?_
      · have hn : (1 : Int) ≤ n := by omega
        have : (10000000 : Int) ≤ (2 ^ 63 - 1) / n := by
          rw [Int.le_ediv_iff_mul_le (by omega)]
          omega
        omega
      · have hb : z.length * n.toNat ≤ 1000 * 10000 := Nat.mul_le_mul h3 (by omega)
        unfold Builtin.Str.tooLong
        simp only [decide_eq_false_iff_not]
        have hs := sizeLine_eq
        omega
      · have q' := q ad H _ Ext.refl rm rfl
        unfold repS at q' h4
        by_cases c1 : n < 1
        · rw [if_pos c1] at q' h4 ⊢
          exact ⟨h4, .str _, H, I.tok _, ⟨_, rfl⟩, q'⟩
        · rw [if_neg c1] at q' h4 ⊢
          by_cases c2 : (n == 1 || z.length == 0) = true
          · rw [if_pos c2] at q' h4 ⊢
            exact ⟨.str _, H, I, ⟨_, rfl⟩, q'⟩
          · rw [if_neg c2] at q' h4 ⊢
            exact ⟨h4, .str _, H, I.tok _, ⟨_, rfl⟩, q'⟩
    · cases e
  · cases e

/-! ## zip -/
def zipD (xs ys : List D) : List D := List.zipWith (fun a b => .tup [a, b]) xs ys
def zipI (f : FA) : FI := fun r m => (f r m).bind fun ds m1 => match ds with
  | [.tup xs, .tup ys] => .ok (.fix (zipD xs ys)) m1
  | [.ref n, .ref k] => match itemsOf m1 n, itemsOf m1 k with
    | some xs, some ys => .ok (.gen (zipD xs ys) fun m => itemsOf m n = some xs ∧ itemsOf m k = some ys) m1
    | _, _ => .bad
  | _ => .bad
section
variable {K : PySem.W.Frag} {H : Hp} {ad : List Addr}
theorem zipD_get {xs ys : List D} {i : Nat} {d : D} (h : (zipD xs ys)[i]? = some d) : ∃ a b, xs[i]? = some a ∧ ys[i]? = some b ∧ d = .tup [a, b] := by
  unfold zipD at h
  rw [List.getElem?_zipWith] at h
  cases ex : xs[i]? with
  | none => rw [ex] at h; cases h
  | some a =>
    cases ey : ys[i]? with
    | none => rw [ex, ey] at h; cases h
    | some b =>
      rw [ex, ey] at h
      cases h
      exact ⟨a, b, rfl, rfl, rfl⟩
theorem zipD_len {xs ys : List D} {i : Nat} (h : (zipD xs ys).length ≤ i) : xs.length ≤ i ∨ ys.length ≤ i := by
  unfold zipD at h
  rw [List.length_zipWith] at h
  omega
theorem rep_pair {p : Addr} {x y : V} {a b : D} {m : Mem} (rm : RepM K ad m H) (hp : H p = none) (ra : RepD K H ad a x) (rb : RepD K H ad b y) :
    Ext K H ad (upd H p (.tup [x, y])) ad ∧ RepM K ad m (upd H p (.tup [x, y])) ∧ RepD K (upd H p (.tup [x, y])) ad (.tup [a, b]) (.ref p) :=
  ⟨ext_new hp, rm.new hp, p, [x, y], rfl, .of upd_same, x, [y], rfl, RepD.mono (ext_new hp) _ _ ra, y, [], rfl, RepD.mono (ext_new hp) _ _ rb, rfl⟩
theorem walk_zipT {a b : Addr} {xs ys : List D} {vs us : List V} (t : SqT K H a vs) (r : RepL K H ad xs vs) (t' : SqT K H b us) (r' : RepL K H ad ys us) : WalkOf K (RZ.ItzT K a b) H ad (.fix (zipD xs ys)) := by
  intro ad2 H2 m2 x rm _ i
  have t2 := x.tup _ _ t
  have r2 := RepL.mono x xs vs r
  have t2' := x.tup _ _ t'
  have r2' := RepL.mono x ys us r'
  refine ⟨fun d e => ?_, fun hl => ⟨vs, us, t2, t2', by rw [← r.length, ← r'.length]; exact zipD_len hl⟩⟩
  obtain ⟨da, db, ea, eb, rfl⟩ := zipD_get e
  obtain ⟨v, e1, e2⟩ := r2.get ea
  obtain ⟨u, f1, f2⟩ := r2'.get eb
  refine ⟨⟨vs, us, v, u, t2, t2', e1, f1⟩, fun y H3 hy => ?_⟩
  obtain ⟨T, p, q, rfl, hT, rfl, g1, g2⟩ := hy
  cases Option.some.inj ((g1 vs t2).symm.trans e1)
  cases Option.some.inj ((g2 us t2').symm.trans f1)
  exact rep_pair rm hT e2 f2
theorem walk_zipL {n k : Nat} {a b : Addr} {xs ys : List D} (ea : ad[n]? = some a) (eb : ad[k]? = some b) : WalkOf K (Itz K a b) H ad (.gen (zipD xs ys) fun m => itemsOf m n = some xs ∧ itemsOf m k = some ys) := by
  intro ad2 H2 m2 x rm hs i
  obtain ⟨s1, s2⟩ := (show itemsOf m2 n = some xs ∧ itemsOf m2 k = some ys from hs)
  obtain ⟨vs, t2, r2, _⟩ := rm.items (pre_get x.pre ea) s1
  obtain ⟨us, t2', r2', _⟩ := rm.items (pre_get x.pre eb) s2
  refine ⟨fun d e => ?_, fun hl => ⟨vs, us, t2, t2', by rw [← r2.length, ← r2'.length]; exact zipD_len hl⟩⟩
  obtain ⟨da, db, ea, eb, rfl⟩ := zipD_get e
  obtain ⟨v, e1, e2⟩ := r2.get ea
  obtain ⟨u, f1, f2⟩ := r2'.get eb
  refine ⟨⟨vs, us, v, u, t2, t2', e1, f1⟩, fun y H3 hy => ?_⟩
  obtain ⟨T, p, q, rfl, hT, rfl, g1, g2⟩ := hy
  cases Option.some.inj ((g1 vs t2).symm.trans e1)
  cases Option.some.inj ((g2 us t2').symm.trans f1)
  exact rep_pair rm hT e2 f2
end
section
variable {X : Cx} {cl : String → Addr} {W : WX} {e e2 : Expr} {fs : FA} {p pos tpos : Pos} {elts : List Expr} {kk : Nat}
theorem izip (hg : Gl X "zip") (hm : X.mg "zip" = none) (ha : DA X cl W [e, e2] fs) (hs : starEach [e, e2] X.env = (false, eval e X.env) :: starEach [e2] X.env := by rfl) (hpl : (backTo pos (starEach [e2] X.env)).any (·.1) = false := by rfl) :
    DI X cl W (.Tuple elts kk tpos) (.Call (.Name "zip" p) [e, e2] [] pos) (zipI fs) := PI.imp (RZ.pi_zipA hg hm ha hs hpl) fun σ H R h => by
  obtain ⟨ad, r, m, rm, re, h⟩ := h
  refine tA_go rm re h fun ad1 H1 m1 ds vs x1 rm1 re1 rd h1 => ?_
  split at h1
  · rename_i xs ys
    obtain ⟨v, u, rfl, rv, ru⟩ := repl2 rd
    obtain ⟨a, ws, rfl, t, r⟩ := rv
    obtain ⟨b, zs, rfl, t', r'⟩ := ru
    exact ⟨a, b, ws, zs, rfl, .inr ⟨t, t', h1 ad1 H1 _ x1 rm1 (walk_zipT t r t' r')⟩⟩
  · rename_i n k
    split at h1
    · rename_i xs ys en ek
      obtain ⟨v, u, rfl, rv, ru⟩ := repl2 rd
      obtain ⟨a, rfl, ea⟩ := rv
      obtain ⟨b, rfl, eb⟩ := ru
      obtain ⟨ws, t, r, _⟩ := rm1.items ea en
      obtain ⟨zs, t', r', _⟩ := rm1.items eb ek
      exact ⟨a, b, ws, zs, rfl, .inl ⟨t, t', h1 ad1 H1 _ x1 rm1 (walk_zipL ea eb)⟩⟩
    · exact h1.elim
  · exact h1.elim
end
end Mi

end

section
set_option Elab.async false
set_option linter.all false
set_option maxRecDepth 100000
set_option maxHeartbeats 4000000
namespace Mi
open PySem PySem.Spec L2
open PyProof.Rows hiding St
open scoped Classical

/-! ## sorted -/
structure SortOk (ds : List D) : Prop where
  al : 2 ≤ ds.length → PySem.W.AllAlike (ds.map D.pd)
  so : 2 ≤ ds.length → PySem.W.Sortable (ds.map D.pd)
  lay : ∀ d ∈ ds, PyData.canLay0 d.pd = true ∧ d.pd.depth ≤ 64
noncomputable def sortD (ds : List D) : List D := ds.mergeSort (PySem.W.dataLe false D.pd)
noncomputable def sortedG : GN := fun xs m => match xs with
  | [.ref n] => match itemsOf m n with
    | some ds => if SortOk ds then some (.ref m.length, m ++ [.lst (sortD ds)]) else none
    | none => none
  | [.tup ds] => if SortOk ds then some (.ref m.length, m ++ [.lst (sortD ds)]) else none
  | _ => none
section
variable {prog : Program} {w : World} {A : Around} {E : Value → Shared → Prop} {s : Shared}
theorem sorted_tup {t : Addr} {vs : List Value} {Q : Value → Shared → Prop} (ht : IsTup s.heap t vs.toArray) (hL : vs.length ≤ sizeLine)
    (body : ∀ h' : Heap, (∀ b o, s.heap.get? b = some o → h'.get? b = some o) → ∀ E' : Value → Shared → Prop, wpAny (model prog w) A.in1.in1 (Builtin.«list.sort» ⟨[.ref h'.objs.size], []⟩) (fun f s' => f = .done (.ret .none) ∧ Q (.ref h'.objs.size) s') E' { s with heap := h'.push (seqObj "list" vs.toArray 0) }) :
    wpAny (model prog w) A (call (.builtin "sorted") [.ref t]) Q E s := by
  obtain ⟨o, ho, hc, n, hd⟩ := ht
  refine Calls.call_function_entry kind_sorted plain_sorted entry_sorted (args_sorted1 _) ?_
  unfold Builtin.«sorted»
  refine wpAny_bind (m := checkCount "sorted" 1 1 _) (wpAny_pure ?_)
  refine wpAny_bind (wpAny_collect_seq t (.inr rfl) ho hc hd (fun h' k => ?_) (by rw [List.size_toArray]; exact hL))
  refine wpAny_bind (wpAny_newList ?_ hL)
  refine wpAny_bind (wpAny_holding (wpAny_call_entry slot_list_sort ⟨_, Heap.get?_push_size _ rfl, rfl⟩ entry_list_sort ?body (args_list_sort _)))
  case body =>
    refine wpAny_mono (body h' k _) (fun f s' hf => ?_) fun _ _ e => e
    obtain ⟨rfl, hq⟩ := hf
    exact ⟨_, rfl, wpAny_pure ⟨_, rfl, hq⟩⟩
end
section
variable {K : PySem.W.Frag} {H : Hp} {ad : List Addr}
abbrev RD (K : PySem.W.Frag) (H : Hp) (ad : List Addr) (u : Value) (d : D) : Prop := ∃ v, RelV v u ∧ RepD K H ad d v
theorem each_of : ∀ {ds : List D} {vs : List V} {us : List Value}, RepL K H ad ds vs → Vals vs us → PySem.W.EachIs (RD K H ad) us ds
  | [], _, _, h, r => by cases h; cases r; exact .nil
  | d :: ds, _, _, h, r => by
    obtain ⟨v, w, rfl, h1, h2⟩ := h
    cases r with
    | cons r1 r2 => exact .cons ⟨v, r1, h1⟩ (each_of h2 r2)
theorem of_each : ∀ {ds : List D} {us : List Value}, PySem.W.EachIs (RD K H ad) us ds → ∃ vs, RepL K H ad ds vs ∧ Vals vs us
  | _, _, .nil => ⟨[], rfl, .nil⟩
  | _, _, .cons ⟨v, r1, h1⟩ t => by
    obtain ⟨vs, h2, r2⟩ := of_each t
    exact ⟨v :: vs, ⟨v, vs, rfl, h1, h2⟩, .cons r1 r2⟩
theorem each_reads {X : Cx} {pins : List (Addr × Obj)} {σ : St} {s : Shared} (I : Inv X pins σ H s) : ∀ {ds : List D} {us : List Value}, (∀ d ∈ ds, PyData.canLay0 d.pd = true ∧ d.pd.depth ≤ 64) → PySem.W.EachIs (RD X.K H ad) us ds → PySem.W.EachIs (fun u (d : D) => ∃ as, Reads s.heap u d.pd as) us ds
  | _, _, _, .nil => .nil
  | d :: ds, _, hl, .cons ⟨v, r1, h1⟩ t => .cons (Dp.reads I _ v _ (RepD.dp d v h1 (hl d List.mem_cons_self).1) r1) (each_reads I (fun e he => hl e (List.mem_cons_of_mem _ he)) t)
end
theorem short_out {α : Type} {xs ys : List α} (h : ys.length < 2) (p : xs.Perm ys) : xs = ys := by
  match ys, h, p with
  | [], _, p => exact p.eq_nil
  | [y], _, p => exact List.perm_singleton.mp p
theorem short_sort {α : Type} {ys : List α} {le : α → α → Bool} (h : ys.length < 2) : ys.mergeSort le = ys := short_out h (List.mergeSort_perm ys le)
section
variable {X : Cx}
theorem c_sorted {k : Nat} (hc : X.calm = true) (hr : Room k X.A) : CallR X (.builtin "sorted") (rDN X.K sortedG) := by
  intro pins s σ H vs us Q I r h
  obtain ⟨ad, m, ds, rm, qr, d, m', e, q⟩ := h
  unfold sortedG at e
  split at e
  · rename_i n
    split at e
    · rename_i xs ei
      split at e
      · rename_i ok
        cases e
        obtain ⟨v, rfl, a, rfl, ea⟩ := repl1 qr
        obtain ⟨ws, t, rl, _⟩ := rm.items ea ei
        obtain ⟨its, rv, hl, hz⟩ := I.list t
        rw [Vals.ref1 r]
        have el := each_of rl rv
        have hlen : its.length = xs.length := by rw [rl.length, rv.length]
        have fin : ∀ out : List Value, PySem.W.EachIs (RD X.K H ad) out (sortD xs) → EP X pins σ Q (.ref (s.heap.objs.size + 1)) { s with heap := sortedAll s.heap its out.toArray } := fun out eo => by
          obtain ⟨zs, rz, vz⟩ := of_each eo
          obtain ⟨ep, he'⟩ := PyProof.Rows.sortedAll_at s.heap its out.toArray
          have hp : H (s.heap.objs.size + 1) = none := I.hok.fresh (Nat.le_succ _)
          have hl2 : zs.length ≤ sizeLine := by
            rw [← rz.length]
            unfold sortD
            rw [List.length_mergeSort, ← hlen, ← rv.length]
            exact hz
          exact ⟨.ref _, upd H (s.heap.objs.size + 1) (.lst zs), I.laid (t' := s.toks) (fun _ _ => PyProof.Rows.sortedAll_old) (Nat.le_succ _) ⟨hl2, out, ep, vz, he'⟩, rfl, q _ _ _ (ext_alloc hp) (rm.allocL hp rz) (new_ref' rm _)⟩
        by_cases h2 : 2 ≤ xs.length
        · refine PySem.W.sorted_data (enc := D.pd) (bs := xs) hl.isList el (each_reads I ok.lay el) (ok.al h2) (ok.so h2) (by rw [← hlen, ← rv.length]; exact hz) (fun b hb => ?_) fun out _ eo => fin out eo
          have := (ok.lay b hb).2
          have := hr.un
          omega
        · refine SrtO.sorted_ord SrtO.swo_int hl.isList (by rw [← rv.length]; exact hz) (fun h3 => absurd (by rw [← hlen]; exact h3) h2) fun out _ hb => ?_
          have e1 : out = its := short_out (by rw [hlen]; omega) hb.perm
          subst e1
          refine fin out ?_
          unfold sortD
          rw [short_sort (by omega)]
          exact el
      · cases e
    · cases e
  · rename_i xs
    split at e
    · rename_i ok
      cases e
      obtain ⟨v, rfl, a, ws, rfl, t, rl⟩ := repl1 qr
      obtain ⟨its, rv, ht, hz⟩ := I.tuple t
      rw [Vals.ref1 r]
      have el := each_of rl rv
      have hlen : its.length = xs.length := by rw [rl.length, rv.length]
      have hzi : its.length ≤ sizeLine := by rw [← rv.length]; exact hz
      refine sorted_tup ht hzi fun h' kp E' => ?_
      have I' : L2.Inv X pins σ H { s with heap := h' } := I.kept (t' := s.toks) kp
      have hob : (h'.push (seqObj "list" its.toArray 0)).get? h'.objs.size = some (seqObj "list" its.toArray 0) := Heap.get?_push_size _ rfl
      have fin : ∀ out : List Value, PySem.W.EachIs (RD X.K H ad) out (sortD xs) → EP X pins σ Q (.ref h'.objs.size) { s with heap := sortedHeap (h'.push (seqObj "list" its.toArray 0)) h'.objs.size its out.toArray } := fun out eo => by
        obtain ⟨zs, rz, vz⟩ := of_each eo
        obtain ⟨ep, he'⟩ := PyProof.Rows.sortedHeap_at (vs := its) (out := out.toArray) hob
        have hp : H h'.objs.size = none := I'.hok.fresh (Nat.le_refl _)
        have hl2 : zs.length ≤ sizeLine := by
          rw [← rz.length]
          unfold sortD
          rw [List.length_mergeSort, ← hlen]
          exact hzi
        refine ⟨.ref _, upd H h'.objs.size (.lst zs), I'.laid (t' := s.toks) (fun b o eb => ?_) (Nat.le_refl _) ⟨hl2, out, ep, vz, he'⟩, rfl, q _ _ _ (ext_alloc hp) (rm.allocL hp rz) (new_ref' rm _)⟩
        have hb : b < h'.objs.size := Heap.lt_size eb
        rw [PyProof.Rows.sortedHeap_old (Nat.ne_of_lt hb) (by rw [size_push']; exact Nat.lt_succ_of_lt hb)]
        exact Heap.get?_push_of_some _ eb
      by_cases h2 : 2 ≤ xs.length
      · have er' : PySem.W.EachIs (fun u (d : D) => ∃ as, Reads (PySem.W.sortingHeap (h'.push (seqObj "list" its.toArray 0)) h'.objs.size its) u d.pd as) its xs := (each_reads I' ok.lay el).mono fun _ _ ⟨as, r⟩ => ⟨as, PyProof.Rows.Reads.keeps (fun b o eb => PySem.W.sortingHeap_old (Nat.ne_of_lt (Heap.lt_size eb)) (Heap.get?_push_of_some _ eb)) r⟩
        refine PySem.W.list_sort_vals (s := { s with heap := h'.push (seqObj "list" its.toArray 0) }) hob (PySem.W.SortsAt.data (s := { s with heap := PySem.W.sortingHeap (h'.push (seqObj "list" its.toArray 0)) h'.objs.size its }) (PySem.W.each_map (R := fun v d => ∃ as, Reads (PySem.W.sortingHeap (h'.push (seqObj "list" its.toArray 0)) h'.objs.size its) v d as) D.pd er') (ok.al h2) (ok.so h2) (PySem.W.bound_map fun b hb => ?_)) hzi ⟨rfl, fin _ (PySem.W.sortVals_data false el er' (ok.al h2))⟩
        have := (ok.lay b hb).2
        have := hr.un
        show X.A.units + 1 + 1 + b.pd.depth < cLine
        omega
      · refine SrtO.list_sort_ord SrtO.swo_int hob hzi (fun h3 => absurd (by rw [← hlen]; exact h3) h2) fun out _ hb => ⟨rfl, ?_⟩
        have e1 : out = its := short_out (by rw [hlen]; omega) hb.perm
        subst e1
        refine fin out ?_
        unfold sortD
        rw [short_sort (by omega)]
        exact el
    · cases e
  · cases e
end
end Mi

end

section
set_option Elab.async false
set_option linter.all false
set_option maxRecDepth 100000
set_option maxHeartbeats 4000000
namespace Mi
open PySem PySem.Spec L2
open PyProof.Rows hiding St
open scoped Classical

/-! ## x[::-1] -/
section
variable {prog : Program} {w : World} {A : Around} {E : Value → Shared → Prop} {s : Shared}
theorem adjust_rev (n : Nat) : Builtin.Slice.sliceAdjust none none (-1) (n : Int) = ((n : Int) - 1, -1) := by
  unfold Builtin.Slice.sliceAdjust
  simp
theorem places_rev (n : Nat) : Builtin.Slice.slicePlaces ((n : Int) - 1) (-1) (-1) = n := by
  unfold Builtin.Slice.slicePlaces
  simp
  split <;> omega
theorem pick_rev (xs : Array Value) : ((List.range xs.size).filterMap fun (m : Nat) => xs[(((xs.size : Nat) : Int) - 1 + (m : Int) * -1).toNat]?).toArray = xs.toList.reverse.toArray := by
  refine congrArg _ ?_
  obtain ⟨l⟩ := xs
  show (List.range l.length).filterMap _ = l.reverse
  have e : ∀ k, k ≤ l.length → (List.range k).filterMap (fun (m : Nat) => (⟨l⟩ : Array Value)[(((l.length : Nat) : Int) - 1 + (m : Int) * -1).toNat]?) = l.reverse.take k := by
    intro k
    induction k with
    | zero => intro _; rfl
    | succ k ih =>
      intro hk
      have hn : (((l.length : Nat) : Int) - 1 + (k : Int) * -1).toNat = l.length - 1 - k := by omega
      have hr : k < l.reverse.length := by rw [List.length_reverse]; omega
      have hi : (⟨l⟩ : Array Value)[l.length - 1 - k]? = some (l.reverse[k]) := by
        rw [List.getElem_reverse]
        simp only [List.getElem?_toArray]
        exact List.getElem?_eq_getElem (by omega)
      rw [List.range_succ, List.filterMap_append, ih (by omega), List.take_succ_eq_append_getElem hr]
      congr 1
      show List.filterMap _ [k] = _
      rw [List.filterMap_cons, hn, hi]
      rfl
  have := e l.length (Nat.le_refl _)
  rw [List.take_of_length_le (by rw [List.length_reverse]; exact Nat.le_refl _)] at this
  exact this
theorem sliceApplied_rev {sl : Addr} {vl vu vs : Value} {n : Nat} {Q : Int × Int × Nat → Shared → Prop} (hs : s.heap.IsSliceOf sl vl vu vs) (pl : IsPart vl none) (pu : IsPart vu none) (ps : IsPart vs (some (-1)))
    (h : Q ((n : Int) - 1, -1, n) s) : wpAny (model prog w) A (Builtin.Slice.sliceApplied (.ref sl) (pure (n : Int))) Q E s := by
  obtain ⟨os, hos, hcs, hds⟩ := id hs
  unfold Builtin.Slice.sliceApplied Builtin.Slice.sliceFields
  refine wpAny_bind (wpAny_bind (wpAny_field hos hds (x := vl) rfl (wpAny_bind (wpAny_field hos hds (x := vu) rfl (wpAny_bind (wpAny_field hos hds (x := vs) rfl (wpAny_pure ?_)))))))
  refine wpAny_bind (HT.slicePart_ ps ?_)
  show wpAny _ _ (if ((-1 : Int) == 0) = true then _ else _) _ _ s
  rw [if_neg (by decide)]
  refine wpAny_bind (HT.slicePart_ pl (wpAny_bind (HT.slicePart_ pu (wpAny_bind (wpAny_pure ?_)))))
  show wpAny _ _ (match Builtin.Slice.sliceAdjust none none (-1) (n : Int) with | (lo, hi) => pure (lo, (-1 : Int), Builtin.Slice.slicePlaces lo hi (-1))) _ _ s
  rw [adjust_rev n]
  show wpAny _ _ (pure ((n : Int) - 1, (-1 : Int), Builtin.Slice.slicePlaces ((n : Int) - 1) (-1) (-1))) _ _ s
  rw [places_rev]
  exact wpAny_pure h
theorem getItem_tuple_rev {t sl : Addr} {items : Array Value} {vl vu vs : Value} {Q : Value → Shared → Prop} (ht : IsTup s.heap t items) (hs : s.heap.IsSliceOf sl vl vu vs) (pl : IsPart vl none) (pu : IsPart vu none) (ps : IsPart vs (some (-1)))
    (h : Q (.ref s.heap.objs.size) { s with heap := s.heap.push { cls := .type "tuple", data := .seq items.toList.reverse.toArray } }) (hsz : items.size ≤ sizeLine) : wpAny (model prog w) A (getItem (.ref t) (.ref sl)) Q E s := by
  have htake : sizeOk (.seq items.toList.reverse.toArray) := by
    show items.toList.reverse.toArray.size ≤ sizeLine
    simpa using hsz
  obtain ⟨os, hos, hcs, hds⟩ := id hs
  have hTs : s.TypeIs (.ref sl) "slice" := ⟨os, hos, hcs⟩
  unfold getItem
  try with_reducible refine wpAny_holding ?_
  first | refine wpAny_bind (wpAny_pure ?_) | skip
  refine wpAny_bind (wpAny_sequenceKey ht.typeIs (by decide) ?_)
  refine wpAny_bind (wpAny_callSpecial?_slot (name := Str.ofString "__getitem__") ht.typeIs PyProof.Rows.slot_tuple_getitem
    (wpAny_call_entry PyProof.Rows.slot_tuple_getitem ht.typeIs entry_tuple_getitem ?_ (args_tuple_getitem _ _)))
  show wpAny _ _ (Builtin.Tuple.tupleItemsOf (.ref t) >>= _) _ _ s
  refine wpAny_bind (tupleItemsOf_ ht ?_)
  refine wpAny_bind (wpAny_typeOf hTs ?_)
  rw [if_pos (by decide)]
  refine wpAny_bind (sliceApplied_rev hs pl pu ps ?_)
  have hno : ¬ (((((items.size : Nat) : Int) - 1) == 0 && (-1 : Int) == 1 && items.size == items.size) = true) := by
    rw [show ((-1 : Int) == 1) = false by decide]
    simp
  show wpAny _ _ (if ((((items.size : Nat) : Int) - 1) == 0 && (-1 : Int) == 1 && items.size == items.size) = true then _ else _) _ _ s
  rw [if_neg hno, pick_rev]
  first
    | exact wpAny_bind (m := Builtin.Tuple.tupleExact _) (wpAny_newObj_type (wpAny_pure ⟨_, rfl, wpAny_pure h⟩) htake)
    | exact wpAny_bind (m := Builtin.Tuple.tupleExact _) (wpAny_newObj_type (wpAny_bind (wpAny_pure (wpAny_pure ⟨_, rfl, wpAny_pure h⟩))) htake)
    | exact wpAny_bind (wpAny_bind (m := Builtin.Tuple.tupleExact _) (wpAny_newObj_type (wpAny_pure (wpAny_pure ⟨_, rfl, wpAny_pure h⟩)) htake))
    | exact wpAny_bind (wpAny_bind (m := Builtin.Tuple.tupleExact _) (wpAny_newObj_type (wpAny_pure ⟨_, rfl, wpAny_pure h⟩) htake))
end
def revG : G1 := fun x m => match x with
  | .tup ds => some (.tup ds.reverse, m)
  | .ref n => (itemsOf m n).map fun ds => (.ref m.length, m ++ [.lst ds.reverse])
  | _ => none
section
variable {X : Cx} {cl : String → Addr} {W : WX} {e : Expr} {fa : FE}
def tRevA (K : PySem.W.Frag) (te : TE) : TE := fun σ H Q => te σ H fun x H1 => (∃ a xs, x = .ref a ∧ SqT K H1 a xs ∧ ∀ p, H1 p = none → Q (.ref p) (upd H1 p (.tup xs.reverse))) ∨ (∃ a xs, x = .ref a ∧ SqL K H1 a xs ∧ ∀ p, H1 p = none → Q (.ref p) (upd H1 p (.lst xs.reverse)))
theorem pe_revA {te : TE} {k : Nat} {p1 p2 p3 pos : Pos} (he : PE X e te) : PE X (.Subscript e (.Slice none none (some (.UnaryOp .USub (.Constant (.int 1) k p1) p2)) p3) pos) (tRevA X.K te) := by
  refine ⟨fun pins s σ H Q I h => ?_⟩
  refine Subscript_ (thn (he.run pins s σ H _ I h) fun v s1 ⟨x, H1, I1, r1, q1⟩ => ?_)
  have hst : PO X (some (.UnaryOp .USub (.Constant (.int 1) k p1) p2)) (tPart (tUn (rU fun i => .int (-i)) (tC (.int 1)))) := po_some (pe_un un_neg pe_int)
  refine wpAny_Slice (thn (po_none.run pins s1 σ H1 (fun o H2 => o = none ∧ H2 = H1) I1 ⟨rfl, rfl⟩) fun vl s2 ⟨l, H2, I2, pl, el, e2⟩ => ?_)
  subst el e2
  refine thn (po_none.run pins s2 σ H2 (fun o H3 => o = none ∧ H3 = H2) I2 ⟨rfl, rfl⟩) fun vu s3 ⟨u, H3, I3, pu, eu, e3⟩ => ?_
  subst eu e3
  refine thn (hst.run pins s3 σ H3 (fun o H4 => o = some (-1) ∧ H4 = H3) I3 ⟨1, rfl, -1, rfl, rfl, rfl⟩) fun vs s4 ⟨o, H4, I4, ps, eo, e4⟩ => ?_
  subst eo e4
  have I5 : Inv X pins σ H4 { s4 with heap := s4.heap.push { cls := .type "slice", data := .fields #[vl, vu, vs] } } := I4.kept (t' := s4.toks) fun b ob q => Heap.get?_push_of_some _ q
  rcases q1 with ⟨a, xs, ex, hx, q⟩ | ⟨a, xs, ex, hx, q⟩
  · subst ex
    cases r1
    obtain ⟨its, r, ht, hz⟩ := I5.tuple hx
    have hlen := r.length
    show wpAny (model X.prog X.w) X.A (subscriptTail e (.Slice none none (some (.UnaryOp .USub (.Constant (.int 1) k p1) p2)) p3) (.ref a) (.ref s4.heap.objs.size)) (EP X pins σ Q) X.xe { s4 with heap := s4.heap.push { cls := .type "slice", data := .fields #[vl, vu, vs] } }
    refine tail_any (ops := [.ref a, .ref s4.heap.objs.size]) ht.typeIs (PyProof.Rows.slot_tuple_getitem.lookup) ?_ (by with_unfolding_all rfl)
    refine getItem_tuple_rev ht (Heap.IsSliceOf.new _ vl vu vs) pl pu ps ?_ (by rw [List.size_toArray]; omega)
    refine ⟨.ref _, _, I5.laid (t' := s4.toks) (o := .tup xs.reverse) (fun b ob q => Heap.get?_push_of_some _ q) (Nat.le_refl _) ?_, rfl, q _ (I5.hok.fresh (Nat.le_refl _))⟩
    exact ⟨by rw [List.length_reverse]; exact hz, _, r.reverse, IsTup.new _ _⟩
  · subst ex
    cases r1
    obtain ⟨its, r, ht, hz⟩ := I5.list hx
    have hlen := r.length
    show wpAny (model X.prog X.w) X.A (subscriptTail e (.Slice none none (some (.UnaryOp .USub (.Constant (.int 1) k p1) p2)) p3) (.ref a) (.ref s4.heap.objs.size)) (EP X pins σ Q) X.xe { s4 with heap := s4.heap.push { cls := .type "slice", data := .fields #[vl, vu, vs] } }
    refine tail_any (ops := [.ref a, .ref s4.heap.objs.size]) ht.isList.typeIs (PySem.slot_list_getitem.lookup) (wpAny_getItem_list_slice ht.isList (Heap.IsSliceOf.new _ vl vu vs) pl pu ps (by decide) ?_ (by rw [List.size_toArray]; omega)) (by with_unfolding_all rfl)
    rw [PySem.W.krv_pick]
    have fr := I5.hok.fresh (Nat.le_refl _)
    have new := I5.laid (t' := s4.toks) (o := .lst xs.reverse) (fun b ob q => Heap.get?_push_of_some _ q) (Nat.le_refl _) ⟨by rw [List.length_reverse]; exact hz, _, 0, r.reverse, Heap.get?_push_size _ rfl⟩
    exact ⟨.ref _, _, new, rfl, q _ fr⟩
theorem RepL.rev {K : PySem.W.Frag} {H : Hp} {ad : List Addr} : ∀ {ds : List D} {vs : List V}, RepL K H ad ds vs → RepL K H ad ds.reverse vs.reverse
  | [], _, h => by cases h; rfl
  | d :: ds, _, h => by
    obtain ⟨v, r, rfl, h1, h2⟩ := h
    rw [List.reverse_cons, List.reverse_cons]
    exact (RepL.rev h2).app (RepL.one h1)
theorem drev {k : Nat} {p1 p2 p3 pos : Pos} (he : DE X cl W e fa) : DE X cl W (.Subscript e (.Slice none none (some (.UnaryOp .USub (.Constant (.int 1) k p1) p2)) p3) pos) (op1 fa revG) := PE.imp (pe_revA he) fun σ H Q h => by
  obtain ⟨ad, r, m, rm, re, h⟩ := h
  refine tE_go rm re h fun ad1 H1 m1 x v x1 rm1 re1 rd h1 => ?_
  obtain ⟨d, m', e, q⟩ := fin_lft h1
  unfold revG at e
  split at e
  · rename_i ds
    cases e
    obtain ⟨a, vs, rfl, t, rl⟩ := rd
    exact .inl ⟨a, vs, rfl, t, fun p hp => q ad1 _ _ (x1.trans (ext_new hp)) (rm1.new hp) ⟨p, vs.reverse, rfl, .of upd_same, RepL.mono (ext_new hp) _ _ rl.rev⟩⟩
  · rename_i n
    cases ei : itemsOf m1 n with
    | none => rw [ei] at e; cases e
    | some ds =>
      rw [ei] at e
      cases e
      obtain ⟨a, rfl, ea⟩ := rd
      obtain ⟨vs, t, rl, _⟩ := rm1.items ea ei
      exact .inr ⟨a, vs, rfl, t, fun p hp => q (ad1 ++ [p]) _ _ (x1.trans (ext_alloc hp)) (rm1.allocL hp rl.rev) (new_ref' rm1 p)⟩
  · cases e
end
end Mi

end

section
set_option Elab.async false
set_option linter.all false
set_option maxRecDepth 100000
set_option maxHeartbeats 4000000
namespace Mi
open PySem PySem.Spec L2
open PyProof.Rows hiding St
open scoped Classical

/-! ## memory that grows -/
theorem pre_at {m m' : Mem} (h : m <+: m') {i : Nat} {o : MO} (e : m[i]? = some o) : m'[i]? = some o := by
  obtain ⟨r, rfl⟩ := h
  rw [List.getElem?_append_left (List.getElem?_eq_some_iff.mp e).1]
  exact e
theorem pre_items {m m' : Mem} (h : m <+: m') {i : Nat} {ds : List D} (e : itemsOf m i = some ds) : itemsOf m' i = some ds := by
  unfold itemsOf at e ⊢
  split at e
  · rename_i xs q
    rw [pre_at h q]; exact e
  · rename_i xs q
    rw [pre_at h q]; exact e
  · cases e
theorem pre_set {m m' : Mem} (h : m <+: m') {k : Nat} (hk : m.length ≤ k) (o : MO) : m <+: m'.set k o := by
  obtain ⟨r, rfl⟩ := h
  rw [List.set_append_right _ _ hk]
  exact List.prefix_append _ _
theorem pre_add {m m' : Mem} (h : m <+: m') (l : Mem) : m <+: m' ++ l := h.trans (List.prefix_append _ _)
theorem pre_len {m m' : Mem} (h : m <+: m') : m.length ≤ m'.length := h.length_le
theorem last_at (m : Mem) (o : MO) : (m ++ [o])[m.length]? = some o := by
  rw [List.getElem?_append_right (Nat.le_refl _), Nat.sub_self]
  rfl

/-! ## comprehensions by an invariant -/
theorem compL_inv {s : Src} {tg : FG} {c : FT} {f : FE} {k : Nat} {r0 : Env} (I : List D → List D → Mem → Prop) (hs : ∀ ds ys m, I ds ys m → s.still m)
    (step : ∀ d ds ys m, I (d :: ds) ys m → ∃ r1, tg d r0 = some r1 ∧ ((∃ m1, c r1 m = .ok false m1 ∧ I ds ys m1) ∨ ∃ m1 y m2, c r1 m = .ok true m1 ∧ f r1 m1 = .ok y m2 ∧ m2[k]? = some (.lst ys) ∧ ys.length < sizeLine ∧ I ds (ys ++ [y]) (m2.set k (.lst (ys ++ [y]))))) :
    ∀ (ds ys : List D) (m : Mem), I ds ys m → ∃ ys' m', compL s tg c f k r0 ds m = .ok (.ref k) m' ∧ I [] ys' m'
  | [], ys, m, h => ⟨ys, m, by rw [compL, if_pos (hs _ _ _ h)], h⟩
  | d :: ds, ys, m, h => by
    obtain ⟨r1, e1, h2⟩ := step d ds ys m h
    rcases h2 with ⟨m1, ec, h3⟩ | ⟨m1, y, m2, ec, ef, em, hz, h3⟩
    · obtain ⟨ys', m', e3, h4⟩ := compL_inv I hs step ds ys m1 h3
      refine ⟨ys', m', ?_, h4⟩
      rw [compL, if_pos (hs _ _ _ h), e1]
      simp only [ec]
      exact e3
    · obtain ⟨ys', m', e3, h4⟩ := compL_inv I hs step ds (ys ++ [y]) _ h3
      refine ⟨ys', m', ?_, h4⟩
      rw [compL, if_pos (hs _ _ _ h), e1]
      simp only [ec, ef, em, hz, if_true]
      exact e3
/-- [g(x) for x in xs if q(x)], nothing changed but by growing -/
theorem comp_pure {α : Type} {vs : List Nat} {fi : FI} {tg : FG} {c : FT} {f : FE} {r : Env} {m m1 : Mem} {s : Src} (xs : List α) (enc g : α → D) (q : α → Bool) (hi : fi r m = .ok s m1) (hs : ∀ m', m1 <+: m' → s.still m') (hit : s.items = xs.map enc) (hl : xs.length < sizeLine)
    (step : ∀ x ∈ xs, ∀ m', m1 <+: m' → ∃ r1, tg (enc x) (wipeE r vs) = some r1 ∧ ∃ m2, c r1 m' = .ok (q x) m2 ∧ m' <+: m2 ∧ (q x = true → ∃ m3, f r1 m2 = .ok (g x) m3 ∧ m2 <+: m3)) :
    ∃ m2, compE vs fi tg c f r m = .ok (.ref m1.length) m2 ∧ m1 <+: m2 ∧ m2[m1.length]? = some (.lst ((xs.filter q).map g)) := by
  have fin := compL_inv (s := s) (tg := tg) (c := c) (f := f) (k := m1.length) (r0 := wipeE r vs) (fun ds ys m' => m1 <+: m' ∧ m'[m1.length]? = some (.lst ys) ∧ ∃ done rest : List α, xs = done ++ rest ∧ ds = rest.map enc ∧ ys = (done.filter q).map g)
    (fun _ _ m' h => hs m' h.1) (fun d ds ys m' h => by
      obtain ⟨h1, h2, done, rest, e1, e2, e3⟩ := h
      cases rest with
      | nil => cases e2
      | cons x rest =>
        cases e2
        obtain ⟨r1, et, m2, ec, p2, hf⟩ := step x (by rw [e1]; simp) m' h1
        refine ⟨r1, et, ?_⟩
        cases eq : q x with
        | false =>
          rw [eq] at ec
          exact .inl ⟨m2, ec, h1.trans p2, pre_at p2 h2, done ++ [x], rest, by rw [e1]; simp, rfl, by rw [e3]; simp [eq]⟩
        | true =>
          rw [eq] at ec
          obtain ⟨m3, ef, p3⟩ := hf eq
          have em := pre_at p3 (pre_at p2 h2)
          refine .inr ⟨m2, g x, m3, ec, ef, em, ?_, pre_set ((h1.trans p2).trans p3) (Nat.le_refl _) _, List.getElem?_set_self (List.getElem?_eq_some_iff.mp em).1, done ++ [x], rest, by rw [e1]; simp, rfl, by rw [e3]; simp [eq]⟩
          rw [e3, List.length_map]
          refine Nat.lt_of_le_of_lt (List.length_filter_le _ _) (Nat.lt_of_le_of_lt ?_ hl)
          rw [e1, List.length_append]
          exact Nat.le_add_right _ _)
    s.items [] (m1 ++ [.lst []]) ⟨List.prefix_append _ _, last_at _ _, [], xs, rfl, hit, rfl⟩
  obtain ⟨ys, m', e, h1, h2, done, rest, e1, e2, e3⟩ := fin
  refine ⟨m', ?_, h1, ?_⟩
  · unfold compE
    rw [hi, bind_ok]
    exact e
  · have er : rest = [] := by
      cases rest with
      | nil => rfl
      | cons _ _ => cases e2
    subst er
    rw [h2, e3, e1, List.append_nil]
theorem comp_map {α : Type} {vs : List Nat} {fi : FI} {tg : FG} {f : FE} {r : Env} {m m1 : Mem} {s : Src} (xs : List α) (enc g : α → D) (hi : fi r m = .ok s m1) (hs : ∀ m', m1 <+: m' → s.still m') (hit : s.items = xs.map enc) (hl : xs.length < sizeLine)
    (step : ∀ x ∈ xs, ∀ m', m1 <+: m' → ∃ r1, tg (enc x) (wipeE r vs) = some r1 ∧ ∃ m3, f r1 m' = .ok (g x) m3 ∧ m' <+: m3) :
    ∃ m2, compE vs fi tg yesT f r m = .ok (.ref m1.length) m2 ∧ m1 <+: m2 ∧ m2[m1.length]? = some (.lst (xs.map g)) := by
  have h := comp_pure (c := yesT) (f := f) (tg := tg) (vs := vs) xs enc g (fun _ => true) hi hs hit hl fun x hx m' p => by
    obtain ⟨r1, e1, m3, e2, p2⟩ := step x hx m' p
    exact ⟨r1, e1, m', rfl, List.prefix_refl _, fun _ => ⟨m3, e2, p2⟩⟩
  have ef : xs.filter (fun _ => true) = xs := List.filter_eq_self.mpr fun _ _ => rfl
  rw [ef] at h
  exact h
section
variable {m2 : Mem} {k : Nat} {α : Type}
theorem bls_at {xs : List α} {q : α → Bool} (e : m2[k]? = some (.lst (xs.map fun x => .bl (q x)))) : (itemsOf m2 k).bind blsOf = some (xs.map q) := by
  rw [items_lst e]
  show blsOf (xs.map fun x => D.bl (q x)) = _
  have := blsOf_map (xs.map q)
  rw [List.map_map] at this
  exact this
theorem allG_at {xs : List α} {q : α → Bool} (e : m2[k]? = some (.lst (xs.map fun x => .bl (q x)))) : allG [.ref k] m2 = some (.bl (xs.all q), m2) := by
  show ((itemsOf m2 k).bind blsOf).map (fun bs => (D.bl (bs.all id), m2)) = _
  rw [bls_at e]
  simp [List.all_map] <;> rfl
theorem anyG_at {xs : List α} {q : α → Bool} (e : m2[k]? = some (.lst (xs.map fun x => .bl (q x)))) : anyG [.ref k] m2 = some (.bl (xs.any q), m2) := by
  show ((itemsOf m2 k).bind blsOf).map (fun bs => (D.bl (bs.any id), m2)) = _
  rw [bls_at e]
  simp [List.any_map] <;> rfl
theorem tupleG_at {xs : List D} (e : m2[k]? = some (.lst xs)) : tupleG [.ref k] m2 = some (.tup xs, m2) := tupleG_refE (items_lst e)
theorem maxG_at {ns : List Int} (e : m2[k]? = some (.lst (ns.map .int))) (h : 0 < ns.length) : maxG [.ref k] m2 = some (.int (mxL ns), m2) := by
  have e2 : (itemsOf m2 k).bind intsOf = some ns := by
    rw [items_lst e]
    exact intsOf_map ns
  unfold maxG
  simp only [e2, h, if_true]
end
theorem neG_str {x y : PySem.Str} {m : Mem} (hx : PyData.strOk x = true) (hy : PyData.strOk y = true) : neG (.str x) (.str y) m = some (.bl (!(x == y)), m) := by
  simp [neG, pdM, D.pd, SeqAt.shaped, PyData.canLay0, hx, hy, PyData.depth, PyData.eqv]
theorem lenG_str {z : PySem.Str} {m : Mem} (h : z.length ≤ sizeLine) : lenG [.str z] m = some (.int z.length, m) := by simp [lenG, h]
theorem isi_str {z : PySem.Str} {m : Mem} : isiG "str" (.str z) m = some (.bl true, m) := rfl
theorem inG_sign {c : Nat} {z : PySem.Str} {m : Mem} : inG (.str ⟨#[c]⟩) (.str z) m = some (.bl (decide (c ∈ z.cps.toList)), m) := rfl
theorem idxG_str0 {z : PySem.Str} {c : Nat} {l : List Nat} {m : Mem} (h : z.length ≤ sizeLine) (e : z.cps.toList = c :: l) : idxG (.str z) (.int 0) m = some (.str ⟨#[c]⟩, m) := by
  show (if z.length ≤ sizeLine then ofI ((atI z.cps.toList 0).map fun c => D.str ⟨#[c]⟩) m else none) = _
  rw [if_pos h, e, atI_c0]
  rfl
theorem idxG_sure {z : PySem.Str} {i : Int} {c : Nat} {m : Mem} (h : z.length ≤ sizeLine) (e : atI z.cps.toList i = some c) : idxG (.str z) (.int i) m = some (.str ⟨#[c]⟩, m) := by
  show (if z.length ≤ sizeLine then ofI ((atI z.cps.toList i).map fun c => D.str ⟨#[c]⟩) m else none) = _
  rw [if_pos h, e]
  rfl
theorem sl_none {n d : Nat} : HT.sIx n d none = d := rfl
theorem sl_one {n : Nat} : HT.sIx n 0 (some 1) = min 1 n := by
  unfold HT.sIx
  simp
theorem cutD_tail {ds : List D} : cutD ds (some 1) none = ds.tail := by
  unfold cutD
  rw [sl_one, sl_none]
  cases ds with
  | nil => rfl
  | cons a l =>
    show ((a :: l).drop (min 1 (l.length + 1))).take (l.length + 1 - min 1 (l.length + 1)) = l
    rw [show min 1 (l.length + 1) = 1 by omega]
    exact List.take_of_length_le (by simp)

/-! ## order, equality of what the laws hold -/
theorem layAll_ints : ∀ xs : List Int, PyData.canLayAll0 (D.pdL (xs.map .int)) = true
  | [] => rfl
  | x :: xs => by
    show (PyData.canLay0 (.int x) && PyData.canLayAll0 (D.pdL (xs.map .int))) = true
    rw [layAll_ints xs]
    rfl
theorem pdL_ints : ∀ xs : List Int, D.pdL (xs.map .int) = xs.map .int
  | [] => rfl
  | x :: xs => by
    show PyData.int x :: D.pdL (xs.map .int) = _
    rw [pdL_ints xs]
    rfl
theorem depthAll_ints (xs : List Int) : PyData.depthAll (D.pdL (xs.map .int)) = 0 := by
  rw [pdL_ints]
  exact PySem.W.depth_ints xs
abbrev rowD (xs : List Int) : D := .tup (xs.map .int)
theorem ordOk_rows (xs ys : List Int) : ordOk (rowD xs).pd (rowD ys).pd = true := by
  unfold ordOk
  simp only [Bool.and_eq_true, decide_eq_true_eq]
  refine ⟨⟨⟨⟨layAll_ints xs, layAll_ints ys⟩, ?_⟩, rfl⟩, ?_⟩
  · show PySem.W.alikeAll (D.pdL (xs.map .int)) (D.pdL (ys.map .int)) = true
    rw [pdL_ints, pdL_ints]
    exact PySem.W.alike_ints xs ys
  · show PyData.depthAll (D.pdL (xs.map .int)) + 1 ≤ 64
    rw [depthAll_ints]
    decide
theorem dataLt_rowD (xs ys : List Int) : PySem.W.dataLt (rowD xs).pd (rowD ys).pd = decide (xs < ys) := by
  show PySem.W.dataLt (.tuple (D.pdL (xs.map .int))) (.tuple (D.pdL (ys.map .int))) = _
  rw [pdL_ints, pdL_ints, PySem.W.dataLt_tuple]
  exact PySem.W.dataLt_ints xs ys
theorem ltG_row {xs ys : List Int} {m : Mem} : ltG (rowD xs) (rowD ys) m = some (.bl (decide (xs < ys)), m) := by
  show (if ordOk (rowD xs).pd (rowD ys).pd = true then some (D.bl (PySem.W.dataLt (rowD xs).pd (rowD ys).pd), m) else none) = _
  rw [if_pos (ordOk_rows xs ys), dataLt_rowD]
theorem geG_row {xs ys : List Int} {m : Mem} : geG (rowD xs) (rowD ys) m = some (.bl (!decide (xs < ys)), m) := by
  show (if ordOk (rowD xs).pd (rowD ys).pd = true then some (D.bl (!PySem.W.dataLt (rowD xs).pd (rowD ys).pd), m) else none) = _
  rw [if_pos (ordOk_rows xs ys), dataLt_rowD]
theorem ordOk_strs {x y : PySem.Str} (hx : PyData.strOk x = true) (hy : PyData.strOk y = true) : ordOk (.str x) (.str y) = true := by
  simp [ordOk, PyData.canLay0, PySem.W.alike, isNon, PyData.depth, hx, hy]
theorem ltG_str {x y : PySem.Str} {m : Mem} (hx : PyData.strOk x = true) (hy : PyData.strOk y = true) : ltG (.str x) (.str y) m = some (.bl (decide (x.cps.toList < y.cps.toList)), m) := by
  show (if ordOk (.str x) (.str y) = true then some (D.bl (PySem.W.dataLt (.str x) (.str y)), m) else none) = _
  rw [if_pos (ordOk_strs hx hy), PySem.W.dataLt_str]
theorem geG_str {x y : PySem.Str} {m : Mem} (hx : PyData.strOk x = true) (hy : PyData.strOk y = true) : geG (.str x) (.str y) m = some (.bl (!decide (x.cps.toList < y.cps.toList)), m) := by
  show (if ordOk (.str x) (.str y) = true then some (D.bl (!PySem.W.dataLt (.str x) (.str y)), m) else none) = _
  rw [if_pos (ordOk_strs hx hy), PySem.W.dataLt_str]
end Mi

end

section
set_option Elab.async false
set_option linter.all false
set_option maxRecDepth 100000
set_option maxHeartbeats 4000000
namespace Mi
open PySem PySem.Spec L2
open PyProof.Rows hiding St
open scoped Classical

/-! ## a suite that sets one name and hands back -/
/-- in a suite, behind the name's setting -/
def SE2 (X : Cx) (i : Nat) (a : Addr) (j : Nat) (u : V) (e : Expr) (v : V) : Prop := PE X e (fun σ H Q => σ[i]? = some (some (.ref a)) ∧ σ[j]? = some (some u) ∧ Q v H)
section
variable {X : Cx} {i j : Nat} {a : Addr} {u : V} {e e1 e2 : Expr} {pos : Pos}
theorem SE.to2 {v : V} (h : SE X i a e v) : SE2 X i a j u e v := PE.imp h fun _ _ _ q => ⟨q.1, q.2.2⟩
theorem se2_var {x : Str} (hN : X.N[j]? = some x := by rfl) (hv : Vis X.env.scope x := by exact Or.inl rfl) (hd : (x == ("__debug__" : Str)) = false := by decide) (hcd : (x == ("__classdict__" : Str)) = false := by decide) : SE2 X i a j u (.Name x pos) u :=
  PE.imp (pe_var (i := j) hN hv hd hcd) fun _ _ _ q => ⟨u, q.2.1, q.2.2⟩
theorem se2_add {x y : Str} (h1 : SE2 X i a j u e1 (.str x)) (h2 : SE2 X i a j u e2 (.str y)) (hz : x.length + y.length ≤ sizeLine) : SE2 X i a j u (.BinOp e1 .Add e2 pos) (.str (x ++ y)) := PE.imp (pe_op op_add_str h1 h2) fun σ H Q q => ⟨q.1, q.2.1, q.1, q.2.1, x, y, rfl, rfl, hz, q.2.2⟩
theorem se2_eq {v v' : V} (h : SE2 X i a j u e v) (q : v = v') : SE2 X i a j u e v' := q ▸ h
end
def tryR2 (i j : Nat) (cs : List String) (h : String → Option D) (body : FS) : FS := fun r m => match body r m with
  | .exc c r' m' => if c ∈ cs ∧ i < r'.length ∧ j < r'.length then (match h c with
      | some d => .ok (.rt d) r' m'
      | none => .exc c r' m') else .bad
  | x => x
section
variable {X : Cx} {cl : String → Addr} {W : WX} {body : List Stmt} {f : FS} {e1 e2 : Expr} {x n y : Str} {i j : Nat} {np rp pos pos' ap py : Pos} {cs : List String}
theorem stry_as2 {C : String} {sub : String → Bool} {val : String → D} {vv u1 : String → V} (hcl : Names X x (.ref (cl C))) (tk : Takes X W) (hx : ∀ n ∈ cs, HandC X.K cl n C (sub n)) (hval : ∀ n ∈ cs, sub n = true → ∀ H ad v, RepD X.K H ad (val n) v ↔ v = vv n)
    (hb : ∀ (W : WX) (pn : List (Addr × Obj)) (xe : Value → Shared → Prop), Takes (X.tr pn xe) W → PassesOwn (model X.prog X.w) X.A X.env xe → DSs (X.tr pn xe) cl W body f)
    (hs1 : ∀ (c : String), c ∈ cs → ∀ (a : Addr) (oe : Obj) (pn : List (Addr × Obj)), Zc (.ref (cl c)) none oe → (∃ vs, oe.data = .fields vs) → SE (X.suite a ((a, oe) :: pn)) i a e1 (u1 c))
    (hs2 : ∀ (c : String), c ∈ cs → ∀ (a : Addr) (oe : Obj) (pn : List (Addr × Obj)), Zc (.ref (cl c)) none oe → (∃ vs, oe.data = .fields vs) → SE2 (X.suite a ((a, oe) :: pn)) i a j (u1 c) e2 (vv c))
    (hN : X.N.Nodup) (hij : i ≠ j := by decide) (hi : X.N[i]? = some n := by rfl) (hj : X.N[j]? = some y := by rfl) (hln : X.env.kindOf n = some .local := by rfl) (hs : X.stack = X.env :: X.outer := by rfl) (hf : X.env.frame = some X.env.locals := by rfl)
    (hsw : ∀ (a : Addr) (pn : List (Addr × Obj)), swapsWith e1 (some (.Name y py)) ap.line (X.suite a pn).env = pure false := by intro _ _; rfl) (hly : X.env.scope.names.lookup y = some .local := by rfl) (hlx : Loc X.env.scope y := by first | exact Or.inl rfl | exact Or.inr rfl) :
    DS X cl W (.Try body [.ExceptHandler (some (.Name x np)) (some n) [.Assign [.Name y py] e1 ap, .Return (some e2) rp] pos'] [] [] pos) (tryR2 i j cs (fun c => if sub c = true then some (val c) else none) f) :=
  PS.imp (ps_try_as (tb := fun W => tS X.K cl W f) (ts := fun a cls d D σ H => ∃ c ∈ cs, sub c = true ∧ cls = .ref (cl c) ∧ d = none ∧ σ[i]? = some (some (.ref a)) ∧ j < σ.length ∧ D.rt (vv c) H) hs hf hN hi hln hcl tk hb fun a oe cls d pn hz hfl => by
      refine ⟨fun pins s σ H D I q => ?_⟩
      obtain ⟨c, hc, _, rfl, rfl, hσ, hjl, hq⟩ := q
      refine (pss_cons (ps_set (X := X.suite a ((a, oe) :: pn)) (i := j) hN hj hlx (hs1 c hc a oe pn hz hfl) (hsw _ _) (.inr hly)) (pss_one (ps_ret (hs2 c hc a oe pn hz hfl)))).run pins s σ H D I ?_
      refine ⟨hσ, ?_⟩
      show (σ.set j (some (u1 c)))[i]? = _ ∧ (σ.set j (some (u1 c)))[j]? = _ ∧ D.rt (vv c) H
      exact ⟨by rw [List.getElem?_set_ne (Ne.symm hij)]; exact hσ, List.getElem?_set_self hjl, hq⟩) fun σ H D h => by
    obtain ⟨ad, r, m, rm, re, h⟩ := h
    refine ⟨ad, r, m, rm, re, ?_⟩
    show FinS X.K cl _ H ad D (f r m)
    unfold tryR2 at h
    cases ef : f r m with
    | ok fl r' m' => rw [ef] at h; exact h
    | bad => rw [ef] at h; exact h.elim
    | exc c r' m' =>
      rw [ef] at h
      dsimp only at h
      split at h
      · rename_i hc
        intro ad1 H1 σ1 x1 rm1 re1
        refine ⟨sub c, (hx c hc.1).exm, fun hb a ha => ⟨c, hc.1, hb, rfl, rfl, List.getElem?_set_self (by rw [← re1.1]; exact hc.2.1), by rw [List.length_set, ← re1.1]; exact hc.2.2, ?_⟩, fun hb => ?_⟩
        · rw [if_pos hb] at h
          exact h ad1 H1 σ1 x1 rm1 re1 (vv c) ((hval c hc.1 hb H1 ad1 _).mpr rfl)
        · rw [if_neg (by rw [hb]; decide)] at h
          exact h ad1 H1 σ1 x1 rm1 re1
      · exact h.elim
end

/-! ## list * int -/
def mulLG : G2 := fun x y m => match x, y with
  | .ref n, .int k => match m[n]? with
    | some (.lst xs) => if 0 ≤ k ∧ k ≤ 1000 ∧ xs.length ≤ 1000 then some (.ref m.length, m ++ [.lst (List.replicate k.toNat xs).flatten]) else none
    | _ => none
  | _, _ => none
theorem RepL.rep {K : PySem.W.Frag} {H : Hp} {ad : List Addr} {ds : List D} {vs : List V} (h : RepL K H ad ds vs) : ∀ k : Nat, RepL K H ad (List.replicate k ds).flatten (List.replicate k vs).flatten
  | 0 => rfl
  | k + 1 => by
    rw [List.replicate_succ, List.replicate_succ, List.flatten_cons, List.flatten_cons]
    exact h.app (RepL.rep h k)
theorem o_mulL {X : Cx} : OpR X (binaryOp .Mult) (rD2 X.K mulLG) := oimp op_rep fun x y H Q h => by
  obtain ⟨ad, m, dx, dy, rm, qx, qy, d, m', e, q⟩ := h
  unfold mulLG at e
  split at e
  · rename_i n k
    split at e
    · rename_i xs en
      split at e
      · rename_i hz
        cases e
        obtain ⟨a, rfl, ea⟩ := qx
        obtain ⟨vs, h1, r⟩ := rm.obj n _ a en ea
        refine ⟨a, k, vs, rfl, qy, h1, by omega, by omega, ?_, fun p hp => q (ad ++ [p]) _ _ (ext_alloc hp) (rm.allocL hp (r.rep _)) (new_ref' rm p)⟩
        rw [← r.length, sizeLine_eq]
        have : xs.length * k.toNat ≤ 1000 * 1000 := Nat.mul_le_mul hz.2.2 (by omega)
        omega
      · cases e
    · cases e
  · cases e
end Mi

end

section
set_option Elab.async false
set_option linter.all false
set_option maxRecDepth 100000
set_option maxHeartbeats 4000000
namespace Mi
open PySem PySem.Spec L2 PyProof.Rows
variable {P : Program} {w : World} {A : Around} {E : Value → Shared → Prop} {s : Shared}
abbrev newSet (w : World) : Obj := { cls := .type "set", dict := none, data := .set #[] 0 (.fresh 0 0 (!w.params.followText "set-order")) }
abbrev withSet (w : World) (s : Shared) : Shared := { s with heap := s.heap.push (newSet w) }
/-- set(a): a new set, then its __init__ -/
theorem set_made {a : Value} {Q : Value → Shared → Prop}
    (h : codeAny (model P w) A.in1 (.call (.builtin "set.__init__") ⟨[.ref s.heap.objs.size, a], []⟩) (wants (fun r s2 => r = .none ∧ Q (.ref s.heap.objs.size) s2) E) (withSet w s)) : wpAny (model P w) A (call (.type "set") [a]) Q E s := by
  obtain ⟨k0, ks, mro⟩ := F.called_set.mro
  have made := F.called_set.made
  have sub := F.called_set.sub
  have nt := F.called_set.notType
  have cc := F.called_set.canCreate
  have tc := F.typeCall_set_1 a
  refine wpAny_call (codeAny_of_tree (wpAny_pure ?_))
  refine And.intro (Code.quiet_builtin _ (by decide +kernel)) (codeAny_builtin F.entry_type_call ?_)
  rw [Around.under_plain (weight_type_call_type "set" [a] []) rfl]
  repeat (any_goals (first | assumption | wp_step))
  have fresh : (withSet w s).heap.get? s.heap.objs.size = some (newSet w) := Heap.get?_push_size _ rfl
  have ty : (withSet w s).TypeIs (.ref s.heap.objs.size) "set" := ⟨_, fresh, rfl⟩
  have look := F.called_set.init.lookup
  have bind := F.called_set.init.bind (.ref s.heap.objs.size)
  refine codeAny_mono (code_set_led1 a (E := E) (Q₁ := fun v s1 => v = .ref s.heap.objs.size ∧ s1 = withSet w s) ⟨rfl, rfl⟩) ?_
  intro out s1 got
  rcases out with er | fl
  · exact got
  · rcases fl with v | _ | _ | _
    all_goals first | exact got.elim | skip
    obtain ⟨rfl, rfl⟩ := got
    repeat (any_goals (first | assumption | wp_step))
    refine codeAny_mono h ?_
    intro out2 s2 got2
    rcases out2 with er2 | fl2
    · exact got2
    · rcases fl2 with v2 | _ | _ | _
      all_goals first | exact got2.elim | skip
      obtain ⟨rfl, q⟩ := got2
      repeat (any_goals (first | assumption | wp_step))
/-- its __init__ over a list -/
theorem set_init_list {S l : Addr} {od : Option Addr} {items : Array Value} {nl : Nat} {sl : Array (Option Value)} {Z : Shared → Prop} (hS : s.heap.get? S = some (newSet w)) (ol : s.heap.get? l = some { cls := .type "list", dict := od, data := .seq items nl, slots := sl })
    (loop : codeAny (model P w) A.in1 (.builtin "set.update.loop" ⟨[.ref S, .ref s.heap.objs.size], []⟩) (fun r s2 => r = .ok (.ret .none) ∧ Z s2) { s with heap := s.heap.push { cls := .type "list_iterator", data := .fields #[.ref l, .int 0 0] } }) :
    codeAny (model P w) A (.call (.builtin "set.__init__") ⟨[.ref S, .ref l], []⟩) (wants (fun r s2 => r = .none ∧ Z s2) E) s := by
  have ty : s.TypeIs (.ref S) "set" := ⟨_, hS, rfl⟩
  refine codeAny_call_builtin F.called_set.init.plain F.entry_set_init (check_set_init_1 ty ?_)
  have a1 := F.sub_list_set
  have a2 := F.sub_list_frozenset
  have a3 : (Value.type "list" == Value.type "dict") = false := by decide
  have il : s.heap.IsList l items := ⟨_, ol, rfl, nl, rfl⟩
  unfold Builtin.«set.__init__» noKeywords Builtin.Frozenset.updateFrom
  generalize walk : pyIter = it
  wp_walk
  subst walk
  refine wpAny_pyIter_list il (wpAny_bind (wpAny_runValue ?_))
  refine codeAny_mono loop ?_
  intro out s2 ⟨e, z⟩
  subst e
  exact wpAny_pure (wpAny_pure ⟨rfl, z⟩)
/-- its __init__ over a tuple -/
theorem set_init_tuple {S l : Addr} {od : Option Addr} {items : Array Value} {nl : Nat} {sl : Array (Option Value)} {Z : Shared → Prop} (hS : s.heap.get? S = some (newSet w)) (ol : s.heap.get? l = some { cls := .type "tuple", dict := od, data := .seq items nl, slots := sl })
    (loop : codeAny (model P w) A.in1 (.builtin "set.update.loop" ⟨[.ref S, .ref s.heap.objs.size], []⟩) (fun r s2 => r = .ok (.ret .none) ∧ Z s2) { s with heap := s.heap.push { cls := .type "tuple_iterator", data := .fields #[.ref l, .int 0 0] } }) :
    codeAny (model P w) A (.call (.builtin "set.__init__") ⟨[.ref S, .ref l], []⟩) (wants (fun r s2 => r = .none ∧ Z s2) E) s := by
  have ty : s.TypeIs (.ref S) "set" := ⟨_, hS, rfl⟩
  refine codeAny_call_builtin F.called_set.init.plain F.entry_set_init (check_set_init_1 ty ?_)
  have a1 := F.sub_tuple_set
  have a2 := F.sub_tuple_frozenset
  have a3 : (Value.type "tuple" == Value.type "dict") = false := by decide
  have il : s.heap.IsTuple l items := ⟨_, ol, rfl, nl, rfl⟩
  unfold Builtin.«set.__init__» noKeywords Builtin.Frozenset.updateFrom
  generalize walk : pyIter = it
  wp_walk
  subst walk
  refine wpAny_pyIter_tuple il (wpAny_bind (wpAny_runValue ?_))
  refine codeAny_mono loop ?_
  intro out s2 ⟨e, z⟩
  subst e
  exact wpAny_pure (wpAny_pure ⟨rfl, z⟩)
/-- set(l) of a list of ints -/
theorem set_of_ints {l : Addr} {items : Array Value} (ns : List Int) {Q : Value → Shared → Prop} (hh : A.handled = none) (hl : s.heap.IsList l items) (hi : IntsAre items.toList ns) (few : ns.length + 1 < scanBound)
    (h : ∀ (hp : Heap) (tk c : Nat), SetR w hp s.heap.objs.size (fun j => decide (j ∈ ns)) c → c ≤ ns.length → (∀ b o, s.heap.get? b = some o → hp.get? b = some o) → Q (.ref s.heap.objs.size) { s with heap := hp, toks := tk }) :
    wpAny (model P w) A (call (.type "set") [.ref l]) Q E s := by
  have size : items.size = ns.length := by rw [← Array.length_toList]; exact IntsAre.length hi
  refine set_made ?_
  obtain ⟨⟨kc, kd, kdat, ksl⟩, ol, hc, nl, hd⟩ := hl
  simp only at hc hd
  subst hc hd
  have lt : l < s.heap.objs.size := Heap.lt_size ol
  have fresh : (withSet w s).heap.get? s.heap.objs.size = some (newSet w) := Heap.get?_push_size _ rfl
  have ol2 : (withSet w s).heap.get? l = some _ := Heap.get?_push_of_some _ ol
  have big : (withSet w s).heap.objs.size = s.heap.objs.size + 1 := Heap.size_push ..
  have apart : l ≠ (withSet w s).heap.objs.size := by rw [big]; exact Nat.ne_of_lt (Nat.lt_succ_of_lt lt)
  have out : s.heap.objs.size ∉ [(withSet w s).heap.objs.size, l] := by
    rw [big]
    simp only [List.mem_cons, List.not_mem_nil, or_false, not_or]
    exact And.intro (Nat.ne_of_lt (Nat.lt_succ_self _)) (Nat.ne_of_gt lt)
  have val : ∀ (i : Nat) (v : Value), items[i]? = some v → ∃ k t, ns[i]? = some k ∧ v = .int k t := by
    intro i v e
    have li : i < ns.length := by rw [← size]; exact (Array.getElem?_eq_some_iff.mp e).1
    obtain ⟨t, et⟩ := IntsAre.int_at hi i v (by rw [Array.getElem?_toList]; exact e)
    refine ⟨ns[i], t, List.getElem?_eq_getElem li, ?_⟩
    rw [et, List.getD_eq_getElem?_getD, List.getElem?_eq_getElem li]
    rfl
  have h3 : A.in1.in1.in1.handled = none := by simp [hh]
  refine set_init_list fresh ol2 ?_
  refine set_update_ints (Walks.list h3 _ l apart items).toS s.heap.objs.size out ns size few val (items.size - 0) 0 _ (by omega) (Nat.zero_le _) ⟨⟨_, Heap.get?_push_size _ rfl, rfl, rfl⟩, ⟨_, Heap.get?_push_of_some _ ol2, rfl, nl, rfl⟩⟩ ⟨0, Nat.le_refl 0, setR_new_at (Heap.get?_push_of_some _ fresh)⟩ ?_
  intro s2 c moved hc2 hR
  refine ⟨rfl, ?_⟩
  rw [size] at hc2
  have old : ∀ b o, s.heap.get? b = some o → s2.heap.get? b = some o := by
    intro b o e
    have lb : b < s.heap.objs.size := Heap.lt_size e
    refine moved.heap b o ?_ (Heap.get?_push_of_some _ (Heap.get?_push_of_some _ e))
    simp only [List.mem_cons, List.not_mem_nil, or_false, not_or]
    refine And.intro (Nat.ne_of_lt lb) ?_
    rw [big]
    exact Nat.ne_of_lt (Nat.lt_succ_of_lt lb)
  have e2 : s2 = { s with heap := s2.heap, toks := s2.toks } := by
    have g1 := moved.gens
    have g2 := moved.drawn
    have g3 := moved.os
    cases s2
    simp only at g1 g2 g3
    rw [g1, g2, g3]
  rw [e2]
  exact h s2.heap s2.toks c hR hc2 old
end Mi

end

section
set_option Elab.async false
set_option linter.all false
set_option maxRecDepth 100000
set_option maxHeartbeats 4000000
namespace Mi
open PySem PySem.Spec L2
open PyProof.Rows hiding St

/-! ## sets of ints -/
def intsM (m : Mem) : D → Option (List Int)
  | .tup ds => intsOf ds
  | .ref n => (itemsOf m n).bind intsOf
  | _ => none
def mkSetG : GN := fun xs m => match xs with
  | [x] => match intsM m x with
    | some ns => if ns.length < 1000 then some (.ref m.length, m ++ [.sti ns]) else none
    | none => none
  | _ => none
theorem bind_some {α β : Type} {o : Option α} {f : α → Option β} {b : β} (e : o.bind f = some b) : ∃ a, o = some a ∧ f a = some b := by
  cases o with
  | none => cases e
  | some a => exact ⟨a, rfl, e⟩
section
variable {X : Cx}
/-- what the numbers of a list or tuple are in the heap -/
theorem ints_rep {K : PySem.W.Frag} {H : Hp} {ad : List Addr} {m : Mem} (rm : RepM K ad m H) {x : D} {v : V} (r : RepD K H ad x v) {ns : List Int} (e : intsM m x = some ns) : ∃ a, v = .ref a ∧ (SqT K H a (ns.map V.int) ∨ SqL K H a (ns.map V.int)) := by
  cases x with
  | tup ds =>
    have e' := intsOf_eq (show intsOf ds = some ns from e)
    subst e'
    obtain ⟨a, vs, rfl, t, rl⟩ := r
    have ev := repl_ints rl
    subst ev
    exact ⟨a, rfl, .inl t⟩
  | ref n =>
    obtain ⟨ds, e1, e2⟩ := bind_some (show (itemsOf m n).bind intsOf = some ns from e)
    have e' := intsOf_eq e2
    subst e'
    obtain ⟨a, rfl, ea⟩ := r
    obtain ⟨vs, t, rl, _⟩ := rm.items ea e1
    have ev := repl_ints rl
    subst ev
    exact ⟨a, rfl, .inr t⟩
  | _ => cases e
/-- set(e) by the library's sets that can be sorted -/
def rMkS (K : PySem.W.Frag) (w : World) : List V → Hp → VK → Prop := fun vs H Q => ∃ (l : Addr) (ns : List Int), vs = [.ref l] ∧ (SqT K H l (ns.map V.int) ∨ SqL K H l (ns.map V.int)) ∧ ns.length < 1000 ∧
  ∀ p c, H p = none → c ≤ ns.length → Q (.ref p) (upd H p (SetO w p (fun j => decide (j ∈ ns)) c))
theorem ints_vals : ∀ {ns : List Int} {us : List Value}, Vals (ns.map V.int) us → IntsAre us ns
  | [], _, .nil => .nil
  | n :: ns, _, .cons r t => by
    obtain ⟨tk, rfl⟩ := r
    exact .cons n tk (ints_vals t)
theorem cr_mkS (hc : X.calm = true) : CallR X (.type "set") (rMkS X.K X.w) := by
  intro pins s σ H xs us Q I r h
  obtain ⟨l, ns, rfl, hl, few, q⟩ := h
  rw [Vals.ref1 r]
  have hn : H s.heap.objs.size = none := I.hok.fresh (Nat.le_refl _)
  have lim : ns.length + 1 < scanBound := by unfold scanBound; omega
  rcases hl with hl | hl
  · obtain ⟨its, rv, pt, _⟩ := I.tuple hl
    exact call_set_tupI ns (I.ok.hd hc) (show s.heap.IsTuple l its.toArray from pt) (ints_vals rv) lim fun h' tk c R hcn k =>
      ⟨.ref s.heap.objs.size, _, I.laid (t' := tk) k (Nat.le_refl _) (setO_new R), rfl, q _ c hn hcn⟩
  · obtain ⟨its, rv, pl, _⟩ := I.list hl
    exact set_of_ints ns (I.ok.hd hc) pl.isList (ints_vals rv) lim fun h' tk c R hcn k =>
      ⟨.ref s.heap.objs.size, _, I.laid (t' := tk) k (Nat.le_refl _) (setO_new R), rfl, q _ c hn hcn⟩
theorem c_mkSet (hc : X.calm = true) : CallR X (.type "set") (rDN X.K mkSetG) := by
  intro pins s σ H xs us Q I r h
  obtain ⟨ad, m, ds, rm, rl, d, m', e, q⟩ := h
  unfold mkSetG at e
  split at e
  · rename_i x
    obtain ⟨v, rfl, rv⟩ := repl1 rl
    split at e
    · rename_i ns en
      split at e
      · rename_i few
        cases e
        obtain ⟨l, rfl, hl⟩ := ints_rep rm rv en
        rw [Vals.ref1 r]
        have hn : H s.heap.objs.size = none := I.hok.fresh (Nat.le_refl _)
        have lim : ns.length + 1 < scanBound := by unfold scanBound; omega
        have fin : ∀ (h' : Heap) (tk c : Nat), SetR X.w h' s.heap.objs.size (fun j => decide (j ∈ ns)) c → (∀ b o, s.heap.get? b = some o → h'.get? b = some o) → EP X pins σ Q (.ref s.heap.objs.size) { s with heap := h', toks := tk } := fun h' tk c R k => by
          refine ⟨.ref s.heap.objs.size, upd H s.heap.objs.size (.set (fun j => decide (j ∈ ns)) c), I.laid (t' := tk) k (Nat.le_refl _) (show ObjOk X.prog X.w _ h' _ (.set _ _) from R.setOf), rfl, ?_⟩
          exact q (ad ++ [s.heap.objs.size]) _ (.ref s.heap.objs.size) (ext_alloc hn) (rm.alloc hn ⟨_, c, upd_same, fun _ => rfl⟩) (new_ref' rm _)
        rcases hl with hl | hl
        · obtain ⟨its, rv, pt, _⟩ := I.tuple hl
          exact call_set_tupI ns (I.ok.hd hc) (show s.heap.IsTuple l its.toArray from pt) (ints_vals rv) lim fun h' tk c R _ k => fin h' tk c R k
        · obtain ⟨its, rv, pl, _⟩ := I.list hl
          exact set_of_ints ns (I.ok.hd hc) pl.isList (ints_vals rv) lim fun h' tk c R _ k => fin h' tk c R k
      · cases e
    · cases e
  · cases e
end
/-! ## sorted(set(e)) of ints -/
def upSet (ns : List Int) : List Int := (ns.mergeSort fun a b => decide (a ≤ b)).foldr (fun x acc => match acc with
  | [] => [x]
  | y :: _ => if x = y then acc else x :: acc) []
theorem upSet_go : ∀ (l : List Int), l.Pairwise (· ≤ ·) → ∃ r, (l.foldr (fun x acc => match acc with
  | [] => [x]
  | y :: _ => if x = y then acc else x :: acc) []) = r ∧ r.Pairwise (· < ·) ∧ (∀ k, k ∈ r ↔ k ∈ l) ∧ r.head? = l.head?
  | [], _ => ⟨[], rfl, .nil, fun _ => Iff.rfl, rfl⟩
  | x :: l, h => by
    rw [List.pairwise_cons] at h
    obtain ⟨r, e, p, m, hd⟩ := upSet_go l h.2
    rw [List.foldr_cons, e]
    cases r with
    | nil =>
      have hl : l = [] := by
        cases l with
        | nil => rfl
        | cons y l => exact absurd ((m y).mpr List.mem_cons_self) (by simp)
      subst hl
      exact ⟨[x], rfl, by simp, fun _ => Iff.rfl, rfl⟩
    | cons y r =>
      have hy : y ∈ l := (m y).mp List.mem_cons_self
      have hxy := h.1 y hy
      dsimp only
      by_cases exy : x = y
      · subst exy
        rw [if_pos rfl]
        exact ⟨_, rfl, p, fun k => by rw [m k, List.mem_cons]; exact ⟨.inr, fun z => z.elim (fun z => z ▸ hy) id⟩, rfl⟩
      · rw [if_neg exy]
        refine ⟨_, rfl, List.pairwise_cons.mpr ⟨fun k hk => ?_, p⟩, fun k => by rw [List.mem_cons, m k, List.mem_cons], rfl⟩
        rcases List.mem_cons.mp hk with rfl | hk
        · omega
        · have := (List.pairwise_cons.mp p).1 k hk
          omega
theorem upSet_up (ns : List Int) : (upSet ns).Pairwise (· < ·) ∧ ∀ k, k ∈ upSet ns ↔ k ∈ ns := by
  have s : (ns.mergeSort fun a b => decide (a ≤ b)).Pairwise (· ≤ ·) := by
    have := List.pairwise_mergeSort (le := fun (a b : Int) => decide (a ≤ b)) (by intro a b c; simp; omega) (by intro a b; simp; omega) ns
    exact this.imp fun h => by simpa using h
  obtain ⟨r, e, p, m, _⟩ := upSet_go _ s
  unfold upSet
  rw [e]
  exact ⟨p, fun k => (m k).trans (List.mergeSort_perm ns _).mem_iff⟩
theorem up_inj : ∀ {xs ys : List Int}, xs.Pairwise (· < ·) → ys.Pairwise (· < ·) → (∀ k, k ∈ xs ↔ k ∈ ys) → xs = ys
  | [], [], _, _, _ => rfl
  | [], y :: ys, _, _, h => absurd ((h y).mpr List.mem_cons_self) (by simp)
  | x :: xs, [], _, _, h => absurd ((h x).mp List.mem_cons_self) (by simp)
  | x :: xs, y :: ys, hx, hy, h => by
    rw [List.pairwise_cons] at hx hy
    have e : x = y := by
      have a := (h x).mp List.mem_cons_self
      have b := (h y).mpr List.mem_cons_self
      rcases List.mem_cons.mp a with a | a
      · exact a
      · rcases List.mem_cons.mp b with b | b
        · exact b.symm
        · have := hx.1 y b
          have := hy.1 x a
          omega
    subst e
    rw [up_inj hx.2 hy.2 fun k => ?_]
    constructor
    · intro hk
      rcases List.mem_cons.mp ((h k).mp (List.mem_cons_of_mem _ hk)) with rfl | z
      · exact absurd (hx.1 k hk) (by omega)
      · exact z
    · intro hk
      rcases List.mem_cons.mp ((h k).mpr (List.mem_cons_of_mem _ hk)) with rfl | z
      · exact absurd (hy.1 k hk) (by omega)
      · exact z
theorem tE_imp {K : PySem.W.Frag} {cl : String → Addr} {W : WX} {σ : St} {H : Hp} {f : FE} {R R' : VK} (h : tE K cl W f σ H R) (i : ∀ x H1, R x H1 → R' x H1) : tE K cl W f σ H R' := by
  obtain ⟨ad, r, m, rm, re, h⟩ := h
  exact ⟨ad, r, m, rm, re, h.imp fun d m1 q ad' H' v x rm' rd => i _ _ (q ad' H' v x rm' rd)⟩
theorem ints_repL {K : PySem.W.Frag} {H : Hp} {ad : List Addr} : ∀ ns : List Int, RepL K H ad (ns.map .int) (ns.map V.int)
  | [] => rfl
  | n :: ns => ⟨.int n, ns.map V.int, rfl, rfl, ints_repL ns⟩
def sortSetG : G1 := fun x m => match intsM m x with
  | some ns => if ns.length < 64 then some (.ref m.length, m ++ [.lst ((upSet ns).map .int)]) else none
  | none => none
section
variable {X : Cx} {cl : String → Addr} {W : WX} {e : Expr} {fa : FE} {p p2 q pos : Pos}
theorem dsortset {k : Nat} {A : Around} (hc : X.calm = true) (hr : Room k A) (hm : X.mg "sorted" = none) (hm2 : X.mg "set" = none) (ha : DE X cl W e fa) (hg : Gl X "sorted" := by rfl) (hg2 : Gl X "set" := by rfl)
    (h1 : starEach [e] X.env = (false, eval e X.env) :: starEach [] X.env := by rfl) (h2 : starEach [Expr.Call (.Name "set" p2) [e] [] q] X.env = (false, eval (.Call (.Name "set" p2) [e] [] q) X.env) :: starEach [] X.env := by rfl) :
    DE X cl W (.Call (.Name "sorted" p) [.Call (.Name "set" p2) [e] [] q] [] pos) (op1 fa sortSetG) := by
  refine PE.imp (pe_callB (cr_sortedSet hc) hg hm (by decide +kernel) (pa_cons (pe_callTy (cr_mkS hc) hg2 hm2 (by decide +kernel) (pa_cons ha pa_nil h1) (by decide) (by decide) h1 (by rfl)) pa_nil h2) (by decide) (by decide) h2 (by rfl)) fun σ H Q h => ?_
  show tE X.K cl W fa σ H _
  refine tE_imp (tE_one h) fun x H1 h1 => ?_
  obtain ⟨ad, m, dx, rm, rd, d, m', eg, ok⟩ := h1
  unfold sortSetG at eg
  split at eg
  · rename_i ns en
    split at eg
    · rename_i few
      cases eg
      obtain ⟨l, rfl, hl⟩ := ints_rep rm rd en
      refine ⟨l, ns, rfl, hl, by omega, fun a c ha hcn => ?_⟩
      refine ⟨a, _, c, rfl, upd_same, by omega, fun zs b up mem len hb => ?_⟩
      have ez : zs = upSet ns := up_inj up (upSet_up ns).1 fun k => by rw [mem k, (upSet_up ns).2 k, decide_eq_true_eq]
      subst ez
      have x1 : Ext X.K H1 ad (upd H1 a (SetO X.w a (fun j => decide (j ∈ ns)) c)) ad := ext_new ha
      have rm1 := rm.new (o := SetO X.w a (fun j => decide (j ∈ ns)) c) ha
      refine ok (ad ++ [b]) _ (.ref b) (x1.trans (ext_alloc hb)) (rm1.allocL hb ?_) (new_ref' rm1 b)
      exact ints_repL _
    · cases eg
  · cases eg
end
end Mi

end

section
set_option Elab.async false
set_option linter.all false
set_option maxRecDepth 100000
set_option maxHeartbeats 4000000
namespace Mi
open PySem PySem.Spec L2
open PyProof.Rows hiding St

/-! ## what comes out, told by what is asked of it -/
abbrev XC := String → Mem → Prop
def wR {α : Type} (x : Res α) (X : XC) (Q : α → Mem → Prop) : Prop := match x with
  | .ok a m => Q a m
  | .exc c m => X c m
  | .bad => False
def wS (x : SRes) (X : String → Env → Mem → Prop) (N : Env → Mem → Prop) (R : D → Mem → Prop) (B C : Env → Mem → Prop) : Prop := match x with
  | .ok .nx r m => N r m
  | .ok (.rt d) _ m => R d m
  | .ok .bk r m => B r m
  | .ok .ct r m => C r m
  | .exc c r m => X c r m
  | .bad => False
abbrev X0 : XC := fun _ _ => False
abbrev F0 : Env → Mem → Prop := fun _ _ => False
def wB (b : Bool) (P Q : Prop) : Prop := (b = true → P) ∧ (b = false → Q)
def wV (d : D) (P : Bool → Prop) : Prop := ∃ b, d = .bl b ∧ P b
theorem wB_t {P Q : Prop} (h : P) : wB true P Q := And.intro (fun _ => h) (fun q => by cases q)
theorem wB_f {P Q : Prop} (h : Q) : wB false P Q := And.intro (fun q => by cases q) (fun _ => h)
theorem wB_of {b : Bool} {P Q : Prop} (h1 : b = true → P) (h2 : b = false → Q) : wB b P Q := ⟨h1, h2⟩
theorem wB_ty {b : Bool} {P Q : Prop} (e : b = true) (h : P) : wB b P Q := ⟨fun _ => h, fun q => by rw [e] at q; cases q⟩
theorem wB_tn {b : Bool} {P Q : Prop} (e : b = false) (h : Q) : wB b P Q := And.intro (fun q => by rw [e] at q; cases q) (fun _ => h)
theorem wV_b {b : Bool} {P : Bool → Prop} (h : P b) : wV (.bl b) P := ⟨b, rfl, h⟩
section
variable {α β : Type} {X X' : XC} {r : Env} {m : Mem} {a b c : FE} {t t2 : FT} {h : FA} {g1 : G1} {g2 g3 : G2} {gn : GN} {Q : D → Mem → Prop} {P : Bool → Mem → Prop} {A : List D → Mem → Prop} {d : D} {i j n : Nat}
theorem wR_ok {x : Res α} {Q : α → Mem → Prop} {a : α} {m : Mem} (e : x = .ok a m) (h : Q a m) : wR x X Q := by rw [e]; exact h
theorem wR_exc {x : Res α} {Q : α → Mem → Prop} {c : String} {m : Mem} (e : x = .exc c m) (h : X c m) : wR x X Q := by rw [e]; exact h
theorem wR_get {x : Res α} {Q : α → Mem → Prop} (h : wR x X0 Q) : ∃ a m, x = .ok a m ∧ Q a m := by
  cases x with
  | ok a m => exact ⟨a, m, rfl, h⟩
  | exc c m => exact h.elim
  | bad => exact h.elim
theorem wR_of {x : Res α} {Q : α → Mem → Prop} {v : α} {P : Mem → Prop} (h : ∃ m', x = .ok v m' ∧ P m') (k : ∀ m', P m' → Q v m') : wR x X Q := by
  obtain ⟨m', e, p⟩ := h
  rw [e]
  exact k m' p
theorem wR_mono {x : Res α} {Q Q' : α → Mem → Prop} (h : wR x X Q) (hx : ∀ c m, X c m → X' c m) (hq : ∀ a m, Q a m → Q' a m) : wR x X' Q' := by
  cases x with
  | ok a m => exact hq a m h
  | exc c m => exact hx c m h
  | bad => exact h
theorem wR_bind {x : Res α} {g : α → Mem → Res β} {Q : β → Mem → Prop} (h : wR x X fun a m => wR (g a m) X Q) : wR (x.bind g) X Q := by cases x <;> exact h
theorem w_lft {o : Option (D × Mem)} {m' : Mem} (e : o = some (d, m')) (h : Q d m') : wR (lft o) X Q := by rw [e]; exact h
theorem w_op1 (k : wR (a r m) X fun x m1 => wR (lft (g1 x m1)) X Q) : wR (op1 a g1 r m) X Q := wR_bind k
theorem w_op2 (k : wR (a r m) X fun x m1 => wR (b r m1) X fun y m2 => wR (lft (g2 x y m2)) X Q) : wR (op2 a b g2 r m) X Q := wR_bind (wR_mono k (fun _ _ q => q) fun _ _ q => wR_bind q)
theorem w_opN (k : wR (h r m) X fun ds m1 => wR (lft (gn ds m1)) X Q) : wR (opN h gn r m) X Q := wR_bind k
theorem w_nilA (k : A [] m) : wR (nilA r m) X A := k
theorem w_consA (k : wR (a r m) X fun x m1 => wR (h r m1) X fun xs m2 => A (x :: xs) m2) : wR (consA a h r m) X A := wR_bind (wR_mono k (fun _ _ q => q) fun _ _ q => wR_bind q)
theorem w_var (e : r[i]? = some (some d)) (k : Q d m) : wR (varE i r m) X Q := by unfold varE; rw [e]; exact k
theorem w_cst (k : Q d m) : wR (cstE d r m) X Q := k
theorem w_valT (k : wR (a r m) X fun d m1 => wV d fun b => P b m1) : wR (valT a r m) X P := wR_bind (wR_mono k (fun _ _ q => q) fun d m1 ⟨b, e, q⟩ => by subst e; exact q)
theorem w_notT (k : wR (t r m) X fun b m1 => P (!b) m1) : wR (notT t r m) X P := wR_bind k
theorem w_andT (k : wR (t r m) X fun b m1 => wB b (wR (t2 r m1) X P) (P false m1)) : wR (andT t t2 r m) X P := wR_bind (wR_mono k (fun _ _ q => q) fun b m1 q => by cases b with
  | true => exact q.1 rfl
  | false => exact q.2 rfl)
theorem w_orT (k : wR (t r m) X fun b m1 => wB b (P true m1) (wR (t2 r m1) X P)) : wR (orT t t2 r m) X P := wR_bind (wR_mono k (fun _ _ q => q) fun b m1 q => by cases b with
  | true => exact q.1 rfl
  | false => exact q.2 rfl)
theorem w_yesT (k : P true m) : wR (yesT r m) X P := k
theorem w_ifE (k : wR (t r m) X fun b m1 => wB b (wR (a r m1) X Q) (wR (c r m1) X Q)) : wR (ifE t a c r m) X Q := wR_bind (wR_mono k (fun _ _ q => q) fun b m1 q => by cases b with
  | true => exact q.1 rfl
  | false => exact q.2 rfl)
theorem w_andV (k : wR (a r m) X fun d m1 => wV d fun b => wB b (wR (c r m1) X Q) (Q (.bl false) m1)) : wR (andV a c r m) X Q := wR_bind (wR_mono k (fun _ _ q => q) fun d m1 ⟨b, e, q⟩ => by
  subst e
  cases b with
  | true => exact q.1 rfl
  | false => exact q.2 rfl)
theorem w_orV (k : wR (a r m) X fun d m1 => wV d fun b => wB b (Q (.bl true) m1) (wR (c r m1) X Q)) : wR (orV a c r m) X Q := wR_bind (wR_mono k (fun _ _ q => q) fun d m1 ⟨b, e, q⟩ => by
  subst e
  cases b with
  | true => exact q.1 rfl
  | false => exact q.2 rfl)
theorem w_notV (k : wR (a r m) X fun d m1 => wV d fun b => Q (.bl (!b)) m1) : wR (notV a r m) X Q := wR_bind (wR_mono k (fun _ _ q => q) fun d m1 ⟨b, e, q⟩ => by subst e; exact q)
theorem w_callE {G : Fn} (k : wR (h r m) X fun ds m1 => wR (G ds m1) X Q) : wR (callE G h r m) X Q := wR_bind k
theorem w_chain (k : wR (a r m) X fun x m1 => wR (b r m1) X fun y m2 => wR (lft (g2 x y m2)) X fun d m3 => wV d fun z => wB z (wR (c r m3) X fun w m4 => wR (lft (g3 y w m4)) X Q) (Q (.bl false) m3)) : wR (chainE a b c g2 g3 r m) X Q := by
  refine wR_bind (wR_mono k (fun _ _ q => q) fun x m1 q => wR_bind (wR_mono q (fun _ _ q => q) fun y m2 q => ?_))
  cases e : g2 x y m2 with
  | none => rw [e] at q; exact q.elim
  | some p =>
    obtain ⟨d, m3⟩ := p
    rw [e] at q
    obtain ⟨z, ez, q⟩ := q
    cases ez
    cases z with
    | true => exact wR_bind (q.1 rfl)
    | false => exact q.2 rfl
theorem w_app (k : wR (a r m) X fun x m1 => ∃ n, x = .ref n ∧ (∃ xs, m1[n]? = some (.lst xs)) ∧ wR (b r m1) X fun d m2 => ∃ xs, m2[n]? = some (.lst xs) ∧ xs.length < sizeLine ∧ Q .non (m2.set n (.lst (xs ++ [d])))) : wR (appE a b r m) X Q := by
  refine wR_bind (wR_mono k (fun _ _ q => q) fun x m1 q => ?_)
  obtain ⟨n, rfl, ⟨xs, e⟩, q⟩ := q
  show wR (match m1[n]? with
    | some (.lst _) => _
    | _ => _) X Q
  rw [e]
  refine wR_bind (wR_mono q (fun _ _ q => q) fun d m2 q => ?_)
  obtain ⟨ys, e2, hl, q⟩ := q
  rw [e2]
  dsimp only
  rw [if_pos hl]
  exact q
theorem w_optN {P : Option Int → Mem → Prop} (k : P none m) : wR (optE none r m) X P := k
theorem w_optS {P : Option Int → Mem → Prop} (k : wR (a r m) X fun d m1 => ∃ i, d = .int i ∧ P (some i) m1) : wR (optE (some a) r m) X P := wR_bind (wR_mono k (fun _ _ q => q) fun d m1 q => by
  obtain ⟨i, rfl, q⟩ := q
  exact q)
theorem w_slice {lo hi : Option FE} (k : wR (a r m) X fun x m1 => wR (optE lo r m1) X fun l m2 => wR (optE hi r m2) X fun u m3 => wR (lft (sliceD x l u m3)) X Q) : wR (sliceE a lo hi r m) X Q :=
  wR_bind (wR_mono k (fun _ _ q => q) fun _ _ q => wR_bind (wR_mono q (fun _ _ q => q) fun _ _ q => wR_bind q))
/-! ### what is walked -/
def srcOf (d : D) (m : Mem) : Res Src := match d with
  | .tup ds => .ok (.fix ds) m
  | .ref n => match itemsOf m n with
    | some ds => .ok (.lst n ds) m
    | none => .bad
  | .str z => .ok (.fix (strItems z)) m
  | _ => .bad
theorem w_srcE {P : Src → Mem → Prop} (k : wR (a r m) X fun d m1 => wR (srcOf d m1) X P) : wR (srcE a r m) X P := wR_bind (wR_mono k (fun _ _ q => q) fun d m1 q => by cases d <;> exact q)
theorem w_srcT {P : Src → Mem → Prop} {ds : List D} (k : P (.fix ds) m) : wR (srcOf (.tup ds) m) X P := k
theorem w_srcR {P : Src → Mem → Prop} {ds : List D} (e : itemsOf m n = some ds) (k : P (.lst n ds) m) : wR (srcOf (.ref n) m) X P := by
  show wR (match itemsOf m n with
    | some ds => _
    | none => _) X P
  rw [e]
  exact k
theorem w_srcS {P : Src → Mem → Prop} {z : Str} (k : P (.fix (strItems z)) m) : wR (srcOf (.str z) m) X P := k
theorem w_rng1 {P : Src → Mem → Prop} (k : wR (h r m) X fun ds m1 => ∃ j, ds = [.int j] ∧ okI j ∧ P (.fix (iotaD 0 j.toNat)) m1) : wR (rng1 h r m) X P := wR_bind (wR_mono k (fun _ _ q => q) fun ds m1 q => by
  obtain ⟨j, rfl, hj, q⟩ := q
  show wR (if okI j then _ else _) X P
  rw [if_pos hj]
  exact q)
theorem w_rng2 {P : Src → Mem → Prop} (k : wR (h r m) X fun ds m1 => ∃ i j, ds = [.int i, .int j] ∧ okI i ∧ okI j ∧ P (.fix (iotaD i (j - i).toNat)) m1) : wR (rng2 h r m) X P := wR_bind (wR_mono k (fun _ _ q => q) fun ds m1 q => by
  obtain ⟨i, j, rfl, hi, hj, q⟩ := q
  show wR (if okI i ∧ okI j then _ else _) X P
  rw [if_pos ⟨hi, hj⟩]
  exact q)
def zipOf (ds : List D) (m : Mem) : Res Src := match ds with
  | [.tup xs, .tup ys] => .ok (.fix (zipD xs ys)) m
  | [.ref n, .ref k] => match itemsOf m n, itemsOf m k with
    | some xs, some ys => .ok (.gen (zipD xs ys) fun m => itemsOf m n = some xs ∧ itemsOf m k = some ys) m
    | _, _ => .bad
  | _ => .bad
end
section
variable {X : String → Env → Mem → Prop} {N B C : Env → Mem → Prop} {R : D → Mem → Prop} {f g : FS} {r : Env} {m : Mem} {e : FE} {t : FT} {h : FA} {i j : Nat} {tg : FG}
theorem w_seq (k : wS (f r m) X (fun r' m' => wS (g r' m') X N R B C) R B C) : wS (seqS f g r m) X N R B C := by
  unfold seqS
  cases q : f r m with
  | ok fl r' m' => rw [q] at k; cases fl <;> exact k
  | exc c r' m' => rw [q] at k; exact k
  | bad => rw [q] at k; exact k
theorem w_nx (k : N r m) : wS (nxS r m) X N R B C := k
theorem w_bk (k : B r m) : wS (bkS r m) X N R B C := k
theorem w_ct (k : C r m) : wS (ctS r m) X N R B C := k
theorem wS_ofR {α : Type} {x : Res α} {k : α → Mem → SRes} (q : wR x (fun c m' => X c r m') fun a m' => wS (k a m') X N R B C) : wS (SRes.of x r k) X N R B C := by cases x <;> exact q
theorem w_asg (k : wR (e r m) (fun c m' => X c r m') fun d m' => N (r.set i (some d)) m') : wS (asgS i e r m) X N R B C := wS_ofR k
theorem w_drop (k : wR (e r m) (fun c m' => X c r m') fun _ m' => N r m') : wS (dropS e r m) X N R B C := wS_ofR k
theorem w_ret (k : wR (e r m) (fun c m' => X c r m') R) : wS (retS e r m) X N R B C := wS_ofR k
theorem w_retN (k : R .non m) : wS (retN r m) X N R B C := k
theorem w_if (k : wR (t r m) (fun c m' => X c r m') fun b m' => wB b (wS (f r m') X N R B C) (wS (g r m') X N R B C)) : wS (ifS t f g r m) X N R B C := wS_ofR (wR_mono k (fun _ _ q => q) fun b m1 q => by
  cases b with
  | true => exact q.1 rfl
  | false => exact q.2 rfl)
theorem w_raise {c : String} (k : X c r m) : wS (raiseS c r m) X N R B C := k
theorem w_asgG (k : wR (e r m) (fun c m' => X c r m') fun d m' => ∃ r', tg d r = some r' ∧ N r' m') : wS (asgG tg e r m) X N R B C := wS_ofR (wR_mono k (fun _ _ q => q) fun d m1 ⟨r', e, q⟩ => by rw [e]; exact q)
theorem w_par (k : wR (h r m) (fun c m' => X c r m') fun ds m' => ∃ a b, ds = [a, b] ∧ N ((r.set i (some a)).set j (some b)) m') : wS (parS i j h r m) X N R B C := wS_ofR (wR_mono k (fun _ _ q => q) fun ds m1 ⟨a, b, e, q⟩ => by subst e; exact q)
theorem w_set {o x : FE} (k : wR (e r m) (fun c m' => X c r m') fun d m1 => wR (o r m1) (fun c m' => X c r m') fun y m2 => wR (x r m2) (fun c m' => X c r m') fun z m3 => ∃ n k xs q, y = .ref n ∧ z = .int k ∧ m3[n]? = some (.lst xs) ∧ ixN xs.length k = some q ∧ N r (m3.set n (.lst (xs.set q d)))) : wS (setG o x e r m) X N R B C := by
  unfold setG
  refine wS_ofR (wR_mono k (fun _ _ q => q) fun d m1 q => wS_ofR (wR_mono q (fun _ _ q => q) fun y m2 q => wS_ofR (wR_mono q (fun _ _ q => q) fun z m3 q => ?_)))
  obtain ⟨n, k, xs, p, rfl, rfl, e1, e2, q⟩ := q
  simp only [e1, e2]
  exact q
theorem w_for {fi : FI} (k : wR (fi r m) (fun c m' => X c r m') fun s m1 => wS (forL s tg f s.items r m1) X N R B C) : wS (forS fi tg f r m) X N R B C := wS_ofR k
theorem w_def {n p : Nat} {ds : List D} {Q : D → Mem → Prop} {X : XC} {f : FS} {m : Mem} {r : Env} (hl : ds.length = p) (hs : startE n ds = r) (k : wS (f r m) (fun c _ m' => X c m') (fun _ m' => Q .non m') Q F0 F0) : wR (defF n p f ds m) X Q := by
  subst hs
  unfold defF
  rw [if_pos hl]
  cases q : f (startE n ds) m with
  | ok fl r' m' => rw [q] at k; cases fl <;> exact k
  | exc c r' m' => rw [q] at k; exact k
  | bad => rw [q] at k; exact k
theorem w_try {cs : List String} {hd : String → Option D} (k : wS (f r m) (fun c r' m' => c ∈ cs ∧ i < r'.length ∧ match hd c with
    | some d => R d m'
    | none => X c r' m') N R B C) : wS (tryR i cs hd f r m) X N R B C := by
  unfold tryR
  cases q : f r m with
  | ok fl r' m' => rw [q] at k; cases fl <;> exact k
  | exc c r' m' =>
    rw [q] at k
    obtain ⟨h1, h2, k⟩ := k
    dsimp only
    rw [if_pos ⟨h1, h2⟩]
    cases e : hd c with
    | some d => rw [e] at k; exact k
    | none => rw [e] at k; exact k
  | bad => rw [q] at k; exact k
theorem w_try2 {cs : List String} {hd : String → Option D} (k : wS (f r m) (fun c r' m' => c ∈ cs ∧ i < r'.length ∧ j < r'.length ∧ match hd c with
    | some d => R d m'
    | none => X c r' m') N R B C) : wS (tryR2 i j cs hd f r m) X N R B C := by
  unfold tryR2
  cases q : f r m with
  | ok fl r' m' => rw [q] at k; cases fl <;> exact k
  | exc c r' m' =>
    rw [q] at k
    obtain ⟨h1, h2, h3, k⟩ := k
    dsimp only
    rw [if_pos ⟨h1, h2, h3⟩]
    cases e : hd c with
    | some d => rw [e] at k; exact k
    | none => rw [e] at k; exact k
  | bad => rw [q] at k; exact k
/-- a loop over items, by what holds between -/
theorem w_loop {α : Type} {s : Src} (xs : List α) (enc : α → D) (I : List α → List α → Env → Mem → Prop) (hx : s.items = xs.map enc) (h0 : I [] xs r m) (hs : ∀ d ds r m, I d ds r m → s.still m)
    (step : ∀ dn x ds r m, xs = dn ++ x :: ds → I dn (x :: ds) r m → ∃ r1, tg (enc x) r = some r1 ∧ wS (f r1 m) X (I (dn ++ [x]) ds) R N (I (dn ++ [x]) ds))
    (fin : ∀ r m, I xs [] r m → N r m) : wS (forL s tg f s.items r m) X N R B C := by
  have go : ∀ (ds dn : List α) (r : Env) (m : Mem), xs = dn ++ ds → I dn ds r m → wS (forL s tg f (ds.map enc) r m) X N R B C := by
    intro ds
    induction ds with
    | nil =>
      intro dn r m e q
      rw [List.append_nil] at e
      subst e
      show wS (forL s tg f [] r m) X N R B C
      rw [forL, if_pos (hs _ _ _ _ q)]
      exact fin r m q
    | cons x ds ih =>
      intro dn r m e q
      obtain ⟨r1, e1, k⟩ := step dn x ds r m e q
      show wS (forL s tg f (enc x :: ds.map enc) r m) X N R B C
      rw [forL, if_pos (hs _ _ _ _ q), e1]
      dsimp only
      cases qf : f r1 m with
      | ok fl r2 m2 =>
        rw [qf] at k
        cases fl with
        | nx => exact ih (dn ++ [x]) r2 m2 (by rw [e]; simp) k
        | ct => exact ih (dn ++ [x]) r2 m2 (by rw [e]; simp) k
        | bk => exact k
        | rt d => exact k
      | exc c r2 m2 => rw [qf] at k; exact k
      | bad => rw [qf] at k; exact k
  rw [hx]
  exact go xs [] r m rfl h0
/-- a while, by what holds between and a number that falls -/
theorem w_while (I : Nat → Env → Mem → Prop) (n : Nat) (h0 : I n r m)
    (step : ∀ n r m, I n r m → wR (t r m) (fun c m' => X c r m') fun b m1 => wB b (wS (f r m1) X (fun r2 m2 => ∃ k, k < n ∧ I k r2 m2) R N (fun r2 m2 => ∃ k, k < n ∧ I k r2 m2)) (N r m1)) : wS (whileS t f r m) X N R B C := by
  have go : ∀ (n : Nat) (r : Env) (m : Mem), I n r m → ∃ k, wS (whileN t f k r m) X N R B C := by
    intro n
    induction n using Nat.strongRecOn with
    | _ n ih =>
      intro r m h
      have k := step n r m h
      cases qt : t r m with
      | ok b m1 =>
        rw [qt] at k
        cases b with
        | false =>
          refine ⟨1, ?_⟩
          rw [whileN, qt]
          exact k.2 rfl
        | true =>
          have k := k.1 rfl
          cases qf : f r m1 with
          | ok fl r2 m2 =>
            rw [qf] at k
            cases fl with
            | nx =>
              obtain ⟨k1, hk, h2⟩ := k
              obtain ⟨k2, h3⟩ := ih k1 hk r2 m2 h2
              refine ⟨k2 + 1, ?_⟩
              rw [whileN, qt]
              show wS (match f r m1 with
                | .ok .nx r2 m2 => whileN t f k2 r2 m2
                | .ok .ct r2 m2 => whileN t f k2 r2 m2
                | .ok .bk r2 m2 => .ok .nx r2 m2
                | x => x) X N R B C
              rw [qf]
              exact h3
            | ct =>
              obtain ⟨k1, hk, h2⟩ := k
              obtain ⟨k2, h3⟩ := ih k1 hk r2 m2 h2
              refine ⟨k2 + 1, ?_⟩
              rw [whileN, qt]
              show wS (match f r m1 with
                | .ok .nx r2 m2 => whileN t f k2 r2 m2
                | .ok .ct r2 m2 => whileN t f k2 r2 m2
                | .ok .bk r2 m2 => .ok .nx r2 m2
                | x => x) X N R B C
              rw [qf]
              exact h3
            | bk =>
              refine ⟨1, ?_⟩
              rw [whileN, qt]
              show wS (match f r m1 with
                | .ok .nx r2 m2 => whileN t f 0 r2 m2
                | .ok .ct r2 m2 => whileN t f 0 r2 m2
                | .ok .bk r2 m2 => .ok .nx r2 m2
                | x => x) X N R B C
              rw [qf]
              exact k
            | rt d =>
              refine ⟨1, ?_⟩
              rw [whileN, qt]
              show wS (match f r m1 with
                | .ok .nx r2 m2 => whileN t f 0 r2 m2
                | .ok .ct r2 m2 => whileN t f 0 r2 m2
                | .ok .bk r2 m2 => .ok .nx r2 m2
                | x => x) X N R B C
              rw [qf]
              exact k
          | exc c r2 m2 =>
            rw [qf] at k
            refine ⟨1, ?_⟩
            rw [whileN, qt]
            show wS (match f r m1 with
              | .ok .nx r2 m2 => whileN t f 0 r2 m2
              | .ok .ct r2 m2 => whileN t f 0 r2 m2
              | .ok .bk r2 m2 => .ok .nx r2 m2
              | x => x) X N R B C
            rw [qf]
            exact k
          | bad => rw [qf] at k; exact k.elim
      | exc c m1 =>
        rw [qt] at k
        refine ⟨1, ?_⟩
        rw [whileN, qt]
        exact k
      | bad => rw [qt] at k; exact k.elim
  obtain ⟨k, hk⟩ := go n r m h0
  have nb : whileN t f k r m ≠ .bad := fun e => by rw [e] at hk; exact hk
  have e : whileS t f r m = whileN t f k r m := whileS_eq rfl nb
  rw [e]
  exact hk
end
/-! ## comprehensions -/
section
variable {X : XC} {r : Env} {m : Mem} {fi : FI} {tg : FG} {c : FT} {f : FE} {vs : List Nat} {Q : D → Mem → Prop}
theorem w_comp (k : wR (fi r m) X fun s m1 => wR (compL s tg c f m1.length (wipeE r vs) s.items (m1 ++ [.lst []])) X Q) : wR (compE vs fi tg c f r m) X Q := wR_bind k
/-- by what holds between -/
theorem w_compL {α : Type} {s : Src} {r0 : Env} {m1 : Mem} (xs : List α) (enc : α → D) (I : List α → List α → List D → Mem → Prop) (hx : s.items = xs.map enc) (h0 : I [] xs [] (m1 ++ [.lst []])) (hs : ∀ dn ds ys m, I dn ds ys m → s.still m)
    (step : ∀ dn x ds ys m, xs = dn ++ x :: ds → I dn (x :: ds) ys m → ∃ r1, tg (enc x) r0 = some r1 ∧ wR (c r1 m) X0 fun b m2 => wB b (wR (f r1 m2) X0 fun y m3 => m3[m1.length]? = some (.lst ys) ∧ ys.length < sizeLine ∧ I (dn ++ [x]) ds (ys ++ [y]) (m3.set m1.length (.lst (ys ++ [y])))) (I (dn ++ [x]) ds ys m2))
    (fin : ∀ ys m, I xs [] ys m → Q (.ref m1.length) m) : wR (compL s tg c f m1.length r0 s.items (m1 ++ [.lst []])) X Q := by
  obtain ⟨ys', m', e, dn, ds, e1, e2, h⟩ := compL_inv (s := s) (tg := tg) (c := c) (f := f) (k := m1.length) (r0 := r0) (fun ls ys m => ∃ dn ds, xs = dn ++ ds ∧ ls = ds.map enc ∧ I dn ds ys m)
    (fun ls ys m ⟨dn, ds, _, _, h⟩ => hs dn ds ys m h) (fun d ls ys m ⟨dn, ds, e1, e2, h⟩ => by
      cases ds with
      | nil => cases e2
      | cons x ds =>
        cases e2
        obtain ⟨r1, er, k⟩ := step dn x ds ys m e1 h
        refine ⟨r1, er, ?_⟩
        obtain ⟨b, m2, ec, k⟩ := wR_get k
        cases b with
        | false => exact .inl ⟨m2, ec, dn ++ [x], ds, by rw [e1]; simp, rfl, k.2 rfl⟩
        | true =>
          obtain ⟨y, m3, ef, em, hl, k⟩ := wR_get (k.1 rfl)
          exact .inr ⟨m2, y, m3, ec, ef, em, hl, dn ++ [x], ds, by rw [e1]; simp, rfl, k⟩)
    s.items [] (m1 ++ [.lst []]) ⟨[], xs, rfl, hx, h0⟩
  have ed : ds = [] := by
    cases ds with
    | nil => rfl
    | cons _ _ => cases e2
  subst ed
  rw [List.append_nil] at e1
  subst e1
  rw [e]
  exact fin ys' m' h
/-- nothing changed but by growing: [g(x) for x in xs if q(x)] -/
theorem w_compP {α : Type} {s : Src} {r0 : Env} {m1 : Mem} (xs : List α) (enc : α → D) (q : α → Bool) (g : α → D) (hx : s.items = xs.map enc) (hl : xs.length < sizeLine) (hs : ∀ m', m1 <+: m' → s.still m')
    (step : ∀ x ∈ xs, ∀ m', m1 <+: m' → ∃ r1, tg (enc x) r0 = some r1 ∧ wR (c r1 m') X0 fun b m2 => m' <+: m2 ∧ b = q x ∧ (q x = true → wR (f r1 m2) X0 fun y m3 => m2 <+: m3 ∧ y = g x))
    (fin : ∀ m2, m1 <+: m2 → m2[m1.length]? = some (.lst ((xs.filter q).map g)) → Q (.ref m1.length) m2) : wR (compL s tg c f m1.length r0 s.items (m1 ++ [.lst []])) X Q := by
  refine w_compL xs enc (fun dn _ ys m' => m1 <+: m' ∧ m'[m1.length]? = some (.lst ys) ∧ ys = (dn.filter q).map g) hx ⟨List.prefix_append _ _, last_at _ _, rfl⟩ (fun _ _ _ m' h => hs m' h.1) (fun dn x ds ys m' e h => ?_) fun ys m' h => fin m' h.1 (by rw [h.2.1, h.2.2])
  obtain ⟨r1, er, k⟩ := step x (by rw [e]; simp) m' h.1
  refine ⟨r1, er, wR_mono k (fun _ _ q => q) fun b m2 k => ?_⟩
  obtain ⟨p, rfl, k⟩ := k
  refine ⟨fun eb => wR_mono (k eb) (fun _ _ q => q) fun y m3 k => ?_, fun eb => ⟨h.1.trans p, pre_at p h.2.1, by rw [h.2.2]; simp [eb]⟩⟩
  obtain ⟨p2, rfl⟩ := k
  have em := pre_at p2 (pre_at p h.2.1)
  refine ⟨em, ?_, pre_set ((h.1.trans p).trans p2) (Nat.le_refl _) _, List.getElem?_set_self (List.getElem?_eq_some_iff.mp em).1, by rw [h.2.2]; simp [eb]⟩
  rw [h.2.2, List.length_map]
  refine Nat.lt_of_le_of_lt (List.length_filter_le _ _) (Nat.lt_of_le_of_lt ?_ hl)
  rw [e, List.length_append]
  exact Nat.le_add_right _ _
end
end Mi

end

section
set_option Elab.async false
set_option linter.all false
set_option maxRecDepth 100000
set_option maxHeartbeats 4000000
namespace Mi
open PySem PySem.Spec L2
open PyProof.Rows hiding St

/-! ## plain data: nothing but None, ints, texts and tuples of such -/
mutual
def D.pl : D → Bool
  | .non => true
  | .int _ => true
  | .str s => PyData.strOk s
  | .tup ds => D.plL ds
  | .bl _ => false
  | .ref _ => false
  | .exn _ => false
def D.plL : List D → Bool
  | [] => true
  | d :: ds => d.pl && D.plL ds
end
mutual
theorem pl_lay : ∀ d : D, d.pl = true → d.pd.canLay0 = true
  | .non, _ => rfl
  | .int _, _ => rfl
  | .str _, h => h
  | .tup ds, h => plL_lay ds h
  | .bl _, h => by cases h
  | .ref _, h => by cases h
  | .exn _, h => by cases h
theorem plL_lay : ∀ ds : List D, D.plL ds = true → PyData.canLayAll0 (D.pdL ds) = true
  | [], _ => rfl
  | d :: ds, h => by
    have h' : (d.pl && D.plL ds) = true := h
    rw [Bool.and_eq_true] at h'
    show (d.pd.canLay0 && PyData.canLayAll0 (D.pdL ds)) = true
    rw [pl_lay d h'.1, plL_lay ds h'.2]
    rfl
end
mutual
theorem pl_eqv : ∀ a b : D, a.pl = true → b.pl = true → (PyData.eqv a.pd b.pd = true ↔ a = b)
  | .non, b, _, hb => by cases b <;> first | (cases hb; done) | simp [D.pd, PyData.eqv]
  | .int i, b, _, hb => by cases b <;> first | (cases hb; done) | simp [D.pd, PyData.eqv]
  | .str i, b, _, hb => by cases b <;> first | (cases hb; done) | simp [D.pd, PyData.eqv]
  | .tup xs, b, ha, hb => by
    cases b with
    | tup ys =>
      have := pl_eqvL xs ys ha hb
      simp only [D.pd, PyData.eqv, this, D.tup.injEq]
    | bl _ => cases hb
    | ref _ => cases hb
    | exn _ => cases hb
    | _ => simp [D.pd, PyData.eqv]
  | .bl _, _, h, _ => by cases h
  | .ref _, _, h, _ => by cases h
  | .exn _, _, h, _ => by cases h
theorem pl_eqvL : ∀ xs ys : List D, D.plL xs = true → D.plL ys = true → (PyData.eqvAll (D.pdL xs) (D.pdL ys) = true ↔ xs = ys)
  | [], [], _, _ => by simp [D.pdL, PyData.eqvAll]
  | [], _ :: _, _, _ => by simp [D.pdL, PyData.eqvAll]
  | _ :: _, [], _, _ => by simp [D.pdL, PyData.eqvAll]
  | x :: xs, y :: ys, h, h' => by
    have h1 : (x.pl && D.plL xs) = true := h
    have h2 : (y.pl && D.plL ys) = true := h'
    rw [Bool.and_eq_true] at h1 h2
    have e1 := pl_eqv x y h1.1 h2.1
    have e2 := pl_eqvL xs ys h1.2 h2.2
    simp only [D.pdL, PyData.eqvAll, Bool.and_eq_true, e1, e2, List.cons.injEq]
end
/-- plain, and at most so deep -/
structure Pl (k : Nat) (d : D) : Prop where
  pl : d.pl = true
  dp : d.pd.depth ≤ k
theorem Pl.int {k : Nat} {i : Int} : Pl k (.int i) := ⟨rfl, Nat.zero_le _⟩
theorem Pl.non {k : Nat} : Pl k .non := ⟨rfl, Nat.zero_le _⟩
theorem Pl.str {k : Nat} {s : PySem.Str} (h : PyData.strOk s = true) : Pl k (.str s) := ⟨h, Nat.zero_le _⟩
theorem Pl.mono {k l : Nat} {d : D} (h : Pl k d) (hl : k ≤ l) : Pl l d := ⟨h.pl, Nat.le_trans h.dp hl⟩
theorem plL_of : ∀ {ds : List D}, (∀ d ∈ ds, d.pl = true) → D.plL ds = true
  | [], _ => rfl
  | d :: ds, h => by
    show (d.pl && D.plL ds) = true
    rw [h d List.mem_cons_self, plL_of fun x hx => h x (List.mem_cons_of_mem _ hx)]
    rfl
theorem depL_of {k : Nat} : ∀ {ds : List D}, (∀ d ∈ ds, d.pd.depth ≤ k) → PyData.depthAll (D.pdL ds) ≤ k
  | [], _ => Nat.zero_le _
  | d :: ds, h => by
    show max d.pd.depth (PyData.depthAll (D.pdL ds)) ≤ k
    exact Nat.max_le.mpr ⟨h d List.mem_cons_self, depL_of fun x hx => h x (List.mem_cons_of_mem _ hx)⟩
theorem Pl.tup {k : Nat} {ds : List D} (h : ∀ d ∈ ds, Pl k d) : Pl (k + 1) (.tup ds) := ⟨plL_of fun d hd => (h d hd).pl, Nat.succ_le_succ (depL_of fun d hd => (h d hd).dp)⟩
theorem Pl.tmap {α : Type} {k : Nat} {xs : List α} {f : α → D} (h : ∀ x ∈ xs, Pl k (f x)) : Pl (k + 1) (.tup (xs.map f)) := Pl.tup fun d hd => by
  obtain ⟨x, hx, rfl⟩ := List.mem_map.mp hd
  exact h x hx
theorem Pl.row {k : Nat} {xs : List Int} : Pl (k + 1) (rowD xs) := Pl.tmap fun _ _ => Pl.int
theorem Pl.nil {k : Nat} : Pl (k + 1) (.tup []) := Pl.tup fun _ h => by cases h
theorem Pl.cons {k : Nat} {d : D} {ds : List D} (h : Pl k d) (h2 : Pl (k + 1) (.tup ds)) : Pl (k + 1) (.tup (d :: ds)) := by
  refine ⟨?_, ?_⟩
  · show (d.pl && D.plL ds) = true
    rw [h.pl, show D.plL ds = true from h2.pl]
    rfl
  · have a := h.dp
    have b : PyData.depthAll (D.pdL ds) + 1 ≤ k + 1 := h2.dp
    show max d.pd.depth (PyData.depthAll (D.pdL ds)) + 1 ≤ k + 1
    omega
theorem Pl.mem {k : Nat} {ds : List D} (h : Pl (k + 1) (.tup ds)) : ∀ d ∈ ds, Pl k d := by
  intro d hd
  have h1 : D.plL ds = true := h.pl
  have h2 : PyData.depthAll (D.pdL ds) + 1 ≤ k + 1 := h.dp
  clear h
  induction ds with
  | nil => cases hd
  | cons x ds ih =>
    have h1' : (x.pl && D.plL ds) = true := h1
    have h2' : max x.pd.depth (PyData.depthAll (D.pdL ds)) + 1 ≤ k + 1 := h2
    rw [Bool.and_eq_true] at h1'
    rcases List.mem_cons.mp hd with rfl | hd
    · exact ⟨h1'.1, by omega⟩
    · exact ih hd h1'.2 (by omega)
theorem shaped_pl {d : D} (h : Pl 64 d) : SeqAt.shaped d.pd = true := by
  show (d.pd.canLay0 && decide (d.pd.depth ≤ 64)) = true
  rw [pl_lay d h.pl, decide_eq_true h.dp]
  rfl
theorem pdM_pl {m : Mem} {d : D} (h : d.pl = true) : pdM m d = d.pd := by cases d <;> first | rfl | cases h
theorem shaped_lst {ds : List D} (h : ∀ d ∈ ds, Pl 60 d) : SeqAt.shaped (.list (D.pdL ds)) = true := by
  show (PyData.canLayAll0 (D.pdL ds) && decide (PyData.depthAll (D.pdL ds) + 1 ≤ 64)) = true
  rw [plL_lay ds (plL_of fun d hd => (h d hd).pl), decide_eq_true (Nat.succ_le_of_lt (Nat.lt_of_le_of_lt (depL_of fun d hd => (h d hd).dp) (by omega)))]
  rfl
theorem bool_of {b : Bool} {p : Prop} [Decidable p] (h : b = true ↔ p) : b = decide p := by
  cases b with
  | true => exact (decide_eq_true (h.mp rfl)).symm
  | false => exact (decide_eq_false fun q => by cases h.mpr q).symm
section
variable {a b : D} {m : Mem} {p : Prop} [Decidable p] {n k : Nat} {xs ys : List D}
theorem eqG_of (ha : Pl 60 a) (hb : Pl 60 b) (h : a = b ↔ p) : eqG a b m = some (.bl (decide p), m) := by
  unfold eqG
  rw [pdM_pl ha.pl, pdM_pl hb.pl, shaped_pl (ha.mono (by omega)), shaped_pl (hb.mono (by omega)), if_pos (by rfl), bool_of ((pl_eqv a b ha.pl hb.pl).trans h)]
theorem neG_of (ha : Pl 60 a) (hb : Pl 60 b) (h : a = b ↔ p) : neG a b m = some (.bl (!decide p), m) := by
  unfold neG
  rw [pdM_pl ha.pl, pdM_pl hb.pl, shaped_pl (ha.mono (by omega)), shaped_pl (hb.mono (by omega)), if_pos (by rfl), bool_of ((pl_eqv a b ha.pl hb.pl).trans h)]
theorem pdM_ref (e : itemsOf m n = some xs) : pdM m (.ref n) = .list (D.pdL xs) := by
  show (match itemsOf m n with
    | some ds => _
    | none => _) = _
  rw [e]
theorem eqG_lst (e1 : itemsOf m n = some xs) (e2 : itemsOf m k = some ys) (hx : ∀ d ∈ xs, Pl 60 d) (hy : ∀ d ∈ ys, Pl 60 d) (h : xs = ys ↔ p) : eqG (.ref n) (.ref k) m = some (.bl (decide p), m) := by
  unfold eqG
  rw [pdM_ref e1, pdM_ref e2, shaped_lst hx, shaped_lst hy, if_pos (by rfl)]
  show some (D.bl (PyData.eqvAll (D.pdL xs) (D.pdL ys)), m) = _
  rw [bool_of ((pl_eqvL xs ys (plL_of fun d hd => (hx d hd).pl) (plL_of fun d hd => (hy d hd).pl)).trans h)]
theorem neG_lst (e1 : itemsOf m n = some xs) (e2 : itemsOf m k = some ys) (hx : ∀ d ∈ xs, Pl 60 d) (hy : ∀ d ∈ ys, Pl 60 d) (h : xs = ys ↔ p) : neG (.ref n) (.ref k) m = some (.bl (!decide p), m) := by
  unfold neG
  rw [pdM_ref e1, pdM_ref e2, shaped_lst hx, shaped_lst hy, if_pos (by rfl)]
  show some (D.bl (!PyData.eqvAll (D.pdL xs) (D.pdL ys)), m) = _
  rw [bool_of ((pl_eqvL xs ys (plL_of fun d hd => (hx d hd).pl) (plL_of fun d hd => (hy d hd).pl)).trans h)]
theorem any_pl (ha : a.pl = true) : ∀ {xs : List D}, (∀ d ∈ xs, d.pl = true) → (((D.pdL xs).any fun e => PyData.eqv e a.pd) = true ↔ a ∈ xs)
  | [], _ => by simp [D.pdL]
  | x :: xs, h => by
    have ih := any_pl ha (xs := xs) fun d hd => h d (List.mem_cons_of_mem _ hd)
    have e := pl_eqv x a (h x List.mem_cons_self) ha
    show ((PyData.eqv x.pd a.pd || (D.pdL xs).any fun e => PyData.eqv e a.pd) = true ↔ _)
    rw [Bool.or_eq_true, ih, e, List.mem_cons, eq_comm]
theorem inB_tup (ha : Pl 60 a) (hx : Pl 61 (.tup xs)) (h : a ∈ xs ↔ p) : inB a (.tup xs) m = some (decide p) := by
  unfold inB
  dsimp only
  rw [pdM_pl ha.pl, shaped_pl (ha.mono (by omega)), show SeqAt.shaped (PyData.tuple (D.pdL xs)) = true from shaped_pl (hx.mono (by omega)), if_pos (by rfl), bool_of ((any_pl ha.pl fun d hd => (hx.mem d hd).pl).trans h)]
theorem inB_lst (e : itemsOf m n = some xs) (ha : Pl 60 a) (hx : ∀ d ∈ xs, Pl 60 d) (h : a ∈ xs ↔ p) : inB a (.ref n) m = some (decide p) := by
  unfold inB
  dsimp only
  rw [e]
  dsimp only
  rw [pdM_pl ha.pl, shaped_pl (ha.mono (by omega)), shaped_lst hx, if_pos (by rfl), bool_of ((any_pl ha.pl fun d hd => (hx d hd).pl).trans h)]
theorem inG_tup' (ha : Pl 60 a) (hx : Pl 61 (.tup xs)) (h : a ∈ xs ↔ p) : inG a (.tup xs) m = some (.bl (decide p), m) := by unfold inG; rw [inB_tup ha hx h]; rfl
theorem ninG_tup' (ha : Pl 60 a) (hx : Pl 61 (.tup xs)) (h : a ∈ xs ↔ p) : ninG a (.tup xs) m = some (.bl (!decide p), m) := by unfold ninG; rw [inB_tup ha hx h]; rfl
theorem inG_lst (e : itemsOf m n = some xs) (ha : Pl 60 a) (hx : ∀ d ∈ xs, Pl 60 d) (h : a ∈ xs ↔ p) : inG a (.ref n) m = some (.bl (decide p), m) := by unfold inG; rw [inB_lst e ha hx h]; rfl
theorem ninG_lst (e : itemsOf m n = some xs) (ha : Pl 60 a) (hx : ∀ d ∈ xs, Pl 60 d) (h : a ∈ xs ↔ p) : ninG a (.ref n) m = some (.bl (!decide p), m) := by unfold ninG; rw [inB_lst e ha hx h]; rfl
theorem eqG_bl {x y : Bool} : eqG (.bl x) (.bl y) m = some (.bl (x == y), m) := rfl
theorem neG_bl {x y : Bool} : neG (.bl x) (.bl y) m = some (.bl (!(x == y)), m) := rfl
end
end Mi
namespace Mi
open PySem PySem.Spec L2
open PyProof.Rows hiding St
section
variable {m : Mem} {xs ys : List D} {n : Nat}
theorem addG_tupE (h : xs.length + ys.length ≤ sizeLine) : addG (.tup xs) (.tup ys) m = some (.tup (xs ++ ys), m) := by
  show (if xs.length + ys.length ≤ sizeLine then some (D.tup (xs ++ ys), m) else none) = _
  rw [if_pos h]
theorem addG_refE {k : Nat} (e1 : m[n]? = some (.lst xs)) (e2 : m[k]? = some (.lst ys)) (h : xs.length + ys.length ≤ sizeLine) : addG (.ref n) (.ref k) m = some (.ref m.length, m ++ [.lst (xs ++ ys)]) := by
  show (match m[n]?, m[k]? with
    | some (.lst xs), some (.lst ys) => _
    | _, _ => none) = _
  rw [e1, e2]
  dsimp only
  rw [if_pos h]
theorem sliceD_ref {lo hi : Option Int} (e : itemsOf m n = some xs) : sliceD (.ref n) lo hi m = some (.ref m.length, m ++ [.lst (cutD xs lo hi)]) := by
  show (itemsOf m n).map _ = _
  rw [e]
  rfl
theorem mulLG_of {k : Int} (e : m[n]? = some (.lst xs)) (h : 0 ≤ k ∧ k ≤ 1000 ∧ xs.length ≤ 1000) : mulLG (.ref n) (.int k) m = some (.ref m.length, m ++ [.lst (List.replicate k.toNat xs).flatten]) := by
  show (match m[n]? with
    | some (.lst xs) => _
    | _ => none) = _
  rw [e]
  dsimp only
  rw [if_pos h]
theorem sz_le {n : Nat} (h : n ≤ 1000000) : n ≤ sizeLine := Nat.le_trans h (by decide)
theorem sz_lt {n : Nat} (h : n ≤ 1000000) : n < sizeLine := Nat.lt_of_le_of_lt h (by decide)
end
end Mi

end

section
set_option Elab.async false
set_option linter.all false
set_option maxRecDepth 100000
set_option maxHeartbeats 4000000
open PySem PySem.Spec L2 Mi
open PyProof.Rows hiding St
namespace Pg
noncomputable def f_fraction : Fn := defF 3 2 (seqS (ifS (valT (op2 (varE 1) (cstE (.int 0)) eqG)) (seqS (raiseS "ZeroDenominator")
  nxS) nxS)
  (seqS (asgS 2 (opN (consA (varE 0) (consA (varE 1) nilA)) gcdG))
  (seqS (ifS (valT (op2 (varE 1) (cstE (.int 0)) ltG)) (seqS (asgS 2 (op1 (varE 2) negG))
  nxS) nxS)
  (seqS (retS (opN (consA (op2 (varE 0) (varE 2) fdivG) (consA (op2 (varE 1) (varE 2) fdivG) nilA)) tupD))
  nxS))))
end Pg
namespace Pg
noncomputable def f_plus : Fn := defF 2 2 (seqS (retS (callE Pg.f_fraction (consA (op2 (op2 (op2 (varE 0) (cstE (.int 0)) idxG) (op2 (varE 1) (cstE (.int 1)) idxG) mulG) (op2 (op2 (varE 1) (cstE (.int 0)) idxG) (op2 (varE 0) (cstE (.int 1)) idxG) mulG) addG) (consA (op2 (op2 (varE 0) (cstE (.int 1)) idxG) (op2 (varE 1) (cstE (.int 1)) idxG) mulG) nilA))))
  nxS)
end Pg
namespace Pg
noncomputable def f_minus : Fn := defF 2 2 (seqS (retS (callE Pg.f_fraction (consA (op2 (op2 (op2 (varE 0) (cstE (.int 0)) idxG) (op2 (varE 1) (cstE (.int 1)) idxG) mulG) (op2 (op2 (varE 1) (cstE (.int 0)) idxG) (op2 (varE 0) (cstE (.int 1)) idxG) mulG) subG) (consA (op2 (op2 (varE 0) (cstE (.int 1)) idxG) (op2 (varE 1) (cstE (.int 1)) idxG) mulG) nilA))))
  nxS)
end Pg
namespace Pg
noncomputable def f_times : Fn := defF 2 2 (seqS (retS (callE Pg.f_fraction (consA (op2 (op2 (varE 0) (cstE (.int 0)) idxG) (op2 (varE 1) (cstE (.int 0)) idxG) mulG) (consA (op2 (op2 (varE 0) (cstE (.int 1)) idxG) (op2 (varE 1) (cstE (.int 1)) idxG) mulG) nilA))))
  nxS)
end Pg
namespace Pg
noncomputable def f_compare : Fn := defF 4 2 (seqS (asgS 2 (op2 (op2 (varE 0) (cstE (.int 0)) idxG) (op2 (varE 1) (cstE (.int 1)) idxG) mulG))
  (seqS (asgS 3 (op2 (op2 (varE 1) (cstE (.int 0)) idxG) (op2 (varE 0) (cstE (.int 1)) idxG) mulG))
  (seqS (ifS (valT (op2 (varE 2) (varE 3) ltG)) (seqS (retS (op1 (cstE (.int 1)) negG))
  nxS) nxS)
  (seqS (ifS (valT (op2 (varE 2) (varE 3) gtG)) (seqS (retS (cstE (.int 1)))
  nxS) nxS)
  (seqS (retS (cstE (.int 0)))
  nxS)))))
end Pg
namespace Pg
noncomputable def f_total : Fn := defF 3 1 (seqS (asgS 1 (opN (consA (cstE (.int 0)) (consA (cstE (.int 1)) nilA)) tupD))
  (seqS (forS (srcE (varE 0)) (nameG 2) (seqS (asgS 1 (callE Pg.f_plus (consA (varE 1) (consA (varE 2) nilA))))
  nxS))
  (seqS (retS (varE 1))
  nxS)))
end Pg
namespace Lw
noncomputable def f__law_begin : Fn := defF 3 1 (seqS (asgS 1 (cstE (.int 1)))
  (seqS (forS (srcE (varE 0)) (nameG 2) (seqS (asgS 1 (op2 (op2 (op2 (op2 (varE 1) (cstE (.int 69621)) mulG) (op2 (opN (consA (varE 2) nilA) intG) (cstE (.int 2147483629)) modG) addG) (cstE (.int 7)) addG) (cstE (.int 2147483647)) modG))
  nxS))
  (seqS (retS (opN (consA (opN (consA (varE 0) nilA) listG) (consA (cstE (.int 0)) (consA (cstE (.int 0)) (consA (varE 1) nilA)))) lstD))
  nxS)))
end Lw
namespace Lw
noncomputable def f__law_take : Fn := defF 4 2 (seqS (ifS (andT (valT (op2 (op2 (varE 0) (cstE (.int 2)) idxG) (cstE (.int 0)) eqG)) (valT (op2 (op2 (varE 0) (cstE (.int 1)) idxG) (opN (consA (op2 (varE 0) (cstE (.int 0)) idxG) nilA) lenG) ltG))) (seqS (setG (varE 0) (cstE (.int 2)) (opN (consA (opN (consA (op2 (op2 (varE 0) (cstE (.int 0)) idxG) (op2 (varE 0) (cstE (.int 1)) idxG) idxG) nilA) intG) nilA) absG))
  (seqS (setG (varE 0) (cstE (.int 1)) (op2 (op2 (varE 0) (cstE (.int 1)) idxG) (cstE (.int 1)) addG))
  (seqS (ifS (valT (op2 (op2 (varE 0) (cstE (.int 2)) idxG) (op2 (cstE (.int 10)) (cstE (.int 18)) powG) ltG)) (seqS (asgS 2 (opN (consA (op2 (varE 0) (cstE (.int 2)) idxG) nilA) intG))
  (seqS (setG (varE 0) (cstE (.int 2)) (cstE (.int 0)))
  (seqS (retS (op2 (varE 2) (varE 1) modG))
  nxS))) nxS)
  nxS))) nxS)
  (seqS (ifS (valT (op2 (op2 (varE 0) (cstE (.int 2)) idxG) (cstE (.int 0)) gtG)) (seqS (asgS 3 (op2 (opN (consA (op2 (varE 0) (cstE (.int 2)) idxG) nilA) intG) (varE 1) modG))
  (seqS (setG (varE 0) (cstE (.int 2)) (op2 (opN (consA (op2 (varE 0) (cstE (.int 2)) idxG) nilA) intG) (varE 1) fdivG))
  (seqS (retS (varE 3))
  nxS))) nxS)
  (seqS (setG (varE 0) (cstE (.int 3)) (op2 (opN (consA (op2 (op2 (op2 (varE 0) (cstE (.int 3)) idxG) (cstE (.int 48271)) mulG) (cstE (.int 11)) addG) nilA) intG) (cstE (.int 2147483647)) modG))
  (seqS (retS (op2 (opN (consA (op2 (op2 (varE 0) (cstE (.int 3)) idxG) (cstE (.int 3)) fdivG) nilA) intG) (varE 1) modG))
  nxS))))
end Lw
namespace Lw
noncomputable def f__law_signed : Fn := defF 2 2 (seqS (retS (op2 (callE Lw.f__law_take (consA (varE 0) (consA (op2 (op2 (cstE (.int 2)) (varE 1) mulG) (cstE (.int 1)) addG) nilA))) (varE 1) subG))
  nxS)
end Lw
namespace Lw
noncomputable def f__law_int : Fn := defF 1 1 (seqS (retS (andV (op1 (varE 0) (isiG "int")) (notV (op1 (varE 0) (isiG "bool")))))
  nxS)
end Lw
namespace Lw
noncomputable def f__law_gcd : Fn := defF 2 2 (seqS (whileS (valT (op2 (varE 1) (cstE (.int 0)) neG)) (seqS (parS 0 1 (consA (varE 1) (consA (op2 (opN (consA (varE 0) nilA) intG) (varE 1) modG) nilA)))
  nxS))
  (seqS (retS (opN (consA (varE 0) nilA) absG))
  nxS))
end Lw
namespace Lw
noncomputable def f__law_f : Fn := defF 3 2 (seqS (ifS (valT (op2 (varE 1) (cstE (.int 0)) ltG)) (seqS (asgS 0 (op2 (cstE (.int 0)) (varE 0) subG))
  (seqS (asgS 1 (op2 (cstE (.int 0)) (varE 1) subG))
  nxS)) nxS)
  (seqS (asgS 2 (callE Lw.f__law_gcd (consA (opN (consA (varE 0) nilA) absG) (consA (varE 1) nilA))))
  (seqS (retS (opN (consA (op2 (varE 0) (varE 2) fdivG) (consA (op2 (varE 1) (varE 2) fdivG) nilA)) tupD))
  nxS)))
end Lw
namespace Lw
noncomputable def f__law_plus : Fn := defF 2 2 (seqS (retS (callE Lw.f__law_f (consA (op2 (op2 (op2 (varE 0) (cstE (.int 0)) idxG) (op2 (varE 1) (cstE (.int 1)) idxG) mulG) (op2 (op2 (varE 1) (cstE (.int 0)) idxG) (op2 (varE 0) (cstE (.int 1)) idxG) mulG) addG) (consA (op2 (op2 (varE 0) (cstE (.int 1)) idxG) (op2 (varE 1) (cstE (.int 1)) idxG) mulG) nilA))))
  nxS)
end Lw
namespace Lw
noncomputable def f__law_less : Fn := defF 2 2 (seqS (retS (op2 (op2 (op2 (varE 0) (cstE (.int 0)) idxG) (op2 (varE 1) (cstE (.int 1)) idxG) mulG) (op2 (op2 (varE 1) (cstE (.int 0)) idxG) (op2 (varE 0) (cstE (.int 1)) idxG) mulG) ltG))
  nxS)
end Lw
namespace Pg
noncomputable def f_is_word : Fn := defF 2 1 (seqS (retS (andV (op2 (varE 0) (cstE (.str "")) neG) (opN (consA (compE [1] (srcE (varE 0)) (nameG 1) yesT (op2 (varE 1) (cstE (.str "abcdefghijklmnopqrstuvwxyz0123456789")) inG)) nilA) allG)))
  nxS)
end Pg
namespace Pg
noncomputable def f_is_name : Fn := defF 1 1 (seqS (ifS (orT (notT (valT (op1 (varE 0) (isiG "str")))) (notT (valT (callE Pg.f_is_word (consA (varE 0) nilA))))) (seqS (retS (cstE (.bl false)))
  nxS) nxS)
  (seqS (retS (andV (op2 (opN (consA (varE 0) nilA) lenG) (cstE (.int 20)) leG) (op2 (op2 (varE 0) (cstE (.int 0)) idxG) (cstE (.str "abcdefghijklmnopqrstuvwxyz")) inG)))
  nxS))
end Pg
namespace Pg
noncomputable def f_ascends : Fn := defF 3 1 (seqS (retS (opN (consA (compE [2, 1] (zipI (consA (varE 0) (consA (sliceE (varE 0) (some (cstE (.int 1))) none) nilA))) (tupG (consG (nameG 2) (consG (nameG 1) nilG))) yesT (op2 (varE 2) (varE 1) ltG)) nilA) allG))
  nxS)
end Pg
namespace Pg
noncomputable def f_is_row : Fn := defF 3 2 (seqS (ifS (orT (notT (valT (op1 (varE 0) (isiG "tuple")))) (valT (op2 (opN (consA (varE 0) nilA) lenG) (varE 1) neG))) (seqS (retS (cstE (.bl false)))
  nxS) nxS)
  (seqS (retS (opN (consA (compE [2] (srcE (varE 0)) (nameG 2) yesT (andV (op1 (varE 2) (isiG "int")) (op2 (opN (consA (varE 2) nilA) absG) (cstE (.int 999999999)) leG))) nilA) allG))
  nxS))
end Pg
namespace Pg
noncomputable def f_is_table : Fn := defF 5 1 (seqS (ifS (orT (notT (valT (op1 (varE 0) (isiG "tuple")))) (valT (op2 (opN (consA (varE 0) nilA) lenG) (cstE (.int 3)) neG))) (seqS (retS (cstE (.bl false)))
  nxS) nxS)
  (seqS (asgG (tupG (consG (nameG 1) (consG (nameG 2) (consG (nameG 3) nilG)))) (varE 0))
  (seqS (ifS (orT (notT (valT (callE Pg.f_is_name (consA (varE 1) nilA)))) (orT (notT (valT (op1 (varE 2) (isiG "int")))) (notT (valT (op1 (varE 3) (isiG "tuple")))))) (seqS (retS (cstE (.bl false)))
  nxS) nxS)
  (seqS (ifS (orT (valT (op2 (varE 2) (cstE (.int 1)) ltG)) (valT (op2 (varE 2) (cstE (.int 4)) gtG))) (seqS (retS (cstE (.bl false)))
  nxS) nxS)
  (seqS (retS (andV (opN (consA (compE [4] (srcE (varE 3)) (nameG 4) yesT (callE Pg.f_is_row (consA (varE 4) (consA (varE 2) nilA)))) nilA) allG) (callE Pg.f_ascends (consA (varE 3) nilA))))
  nxS)))))
end Pg
namespace Pg
noncomputable def f_check_catalogue : Fn := defF 2 1 (seqS (ifS (notT (valT (opN (consA (compE [1] (srcE (varE 0)) (nameG 1) yesT (callE Pg.f_is_table (consA (varE 1) nilA))) nilA) allG))) (seqS (raiseS "CatalogueError")
  nxS) nxS)
  (seqS (ifS (notT (valT (callE Pg.f_ascends (consA (compE [1] (srcE (varE 0)) (nameG 1) yesT (op2 (varE 1) (cstE (.int 0)) idxG)) nilA)))) (seqS (raiseS "CatalogueError")
  nxS) nxS)
  (seqS (ifS (valT (op2 (opN (consA (varE 0) nilA) lenG) (cstE (.int 8)) gtG)) (seqS (raiseS "TooLarge")
  nxS) nxS)
  (seqS (ifS (valT (opN (consA (compE [1] (srcE (varE 0)) (nameG 1) yesT (op2 (opN (consA (op2 (varE 1) (cstE (.int 2)) idxG) nilA) lenG) (cstE (.int 300)) gtG)) nilA) anyG)) (seqS (raiseS "TooLarge")
  nxS) nxS)
  nxS))))
end Pg
namespace Lw
noncomputable def f__law_rows : Fn := defF 8 4 (seqS (asgS 4 (opN nilA lstD))
  (seqS (forS (rng1 (consA (callE Lw.f__law_take (consA (varE 0) (consA (op2 (varE 2) (cstE (.int 1)) addG) nilA))) nilA)) (nameG 5) (seqS (asgS 6 (opN (consA (compE [7] (rng1 (consA (varE 1) nilA)) (nameG 7) yesT (callE Lw.f__law_take (consA (varE 0) (consA (varE 3) nilA)))) nilA) tupleG))
  (seqS (ifS (valT (op2 (varE 6) (varE 4) ninG)) (seqS (dropS (appE (varE 4) (varE 6)))
  nxS) nxS)
  nxS)))
  (seqS (retS (opN (consA (opN (consA (varE 4) nilA) sortedG) nilA) tupleG))
  nxS)))
end Lw
namespace Lw
noncomputable def f__law_catalogue : Fn := defF 7 4 (seqS (asgS 4 (opN nilA lstD))
  (seqS (forS (rng1 (consA (op2 (cstE (.int 1)) (callE Lw.f__law_take (consA (varE 0) (consA (varE 1) nilA))) addG) nilA)) (nameG 5) (seqS (asgS 6 (op2 (opN (consA (cstE (.int 2)) (consA (cstE (.int 2)) (consA (cstE (.int 2)) (consA (cstE (.int 1)) (consA (cstE (.int 3)) (consA (cstE (.int 4)) nilA)))))) tupD) (callE Lw.f__law_take (consA (varE 0) (consA (cstE (.int 6)) nilA))) idxG))
  (seqS (ifS (andT (valT (op2 (varE 6) (cstE (.int 2)) gtG)) (valT (op2 (varE 2) (cstE (.int 8)) gtG))) (seqS (asgS 6 (cstE (.int 3)))
  nxS) nxS)
  (seqS (dropS (appE (varE 4) (opN (consA (op2 (op2 (cstE (.str "abcdefgh")) (varE 5) idxG) (opN (consA (varE 6) nilA) strG) addG) (consA (varE 6) (consA (callE Lw.f__law_rows (consA (varE 0) (consA (varE 6) (consA (varE 2) (consA (varE 3) nilA))))) nilA))) tupD)))
  nxS))))
  (seqS (retS (opN (consA (varE 4) nilA) tupleG))
  nxS)))
end Lw
namespace Lw
noncomputable def f__law_is_name : Fn := defF 3 1 (seqS (asgS 1 (cstE (.str "abcdefghijklmnopqrstuvwxyz")))
  (seqS (retS (andV (chainE (cstE (.int 0)) (opN (consA (varE 0) nilA) lenG) (cstE (.int 21)) ltG ltG) (andV (op2 (op2 (varE 0) (cstE (.int 0)) idxG) (varE 1) inG) (opN (consA (compE [2] (srcE (varE 0)) (nameG 2) yesT (op2 (varE 2) (op2 (varE 1) (cstE (.str "0123456789")) addG) inG)) nilA) allG))))
  nxS))
end Lw
namespace Pg
noncomputable def f_table_of : Fn := defF 3 2 (seqS (forS (srcE (varE 0)) (nameG 2) (seqS (ifS (valT (op2 (op2 (varE 2) (cstE (.int 0)) idxG) (varE 1) eqG)) (seqS (retS (varE 2))
  nxS) nxS)
  nxS))
  (seqS (raiseS "UnknownTable")
  nxS))
end Pg
namespace Pg
noncomputable def f_columns_of : Fn := defF 2 2 (seqS (dropS (callE Pg.f_check_catalogue (consA (varE 0) nilA)))
  (seqS (retS (op2 (callE Pg.f_table_of (consA (varE 0) (consA (varE 1) nilA))) (cstE (.int 1)) idxG))
  nxS))
end Pg
namespace Pg
noncomputable def f_rows_of : Fn := defF 2 2 (seqS (dropS (callE Pg.f_check_catalogue (consA (varE 0) nilA)))
  (seqS (retS (op2 (callE Pg.f_table_of (consA (varE 0) (consA (varE 1) nilA))) (cstE (.int 2)) idxG))
  nxS))
end Pg
namespace Pg
noncomputable def f_with_rows : Fn := defF 5 3 (seqS (asgS 3 (opN nilA lstD))
  (seqS (forS (srcE (varE 0)) (nameG 4) (seqS (ifS (valT (op2 (op2 (varE 4) (cstE (.int 0)) idxG) (varE 1) eqG)) (seqS (dropS (appE (varE 3) (opN (consA (varE 1) (consA (op2 (varE 4) (cstE (.int 1)) idxG) (consA (varE 2) nilA))) tupD)))
  nxS) (seqS (dropS (appE (varE 3) (varE 4)))
  nxS))
  nxS))
  (seqS (retS (opN (consA (varE 3) nilA) tupleG))
  nxS)))
end Pg
namespace Pg
noncomputable def f_with_row : Fn := defF 6 3 (seqS (dropS (callE Pg.f_check_catalogue (consA (varE 0) nilA)))
  (seqS (asgG (tupG (consG (nameG 3) (consG (nameG 4) (consG (nameG 5) nilG)))) (callE Pg.f_table_of (consA (varE 0) (consA (varE 1) nilA))))
  (seqS (ifS (notT (valT (callE Pg.f_is_row (consA (varE 2) (consA (varE 4) nilA))))) (seqS (raiseS "RowError")
  nxS) nxS)
  (seqS (ifS (valT (op2 (varE 2) (varE 5) inG)) (seqS (raiseS "RowError")
  nxS) nxS)
  (seqS (ifS (valT (op2 (opN (consA (varE 5) nilA) lenG) (cstE (.int 300)) geG)) (seqS (raiseS "TooLarge")
  nxS) nxS)
  (seqS (retS (callE Pg.f_with_rows (consA (varE 0) (consA (varE 1) (consA (opN (consA (opN (consA (op2 (varE 5) (opN (consA (varE 2) nilA) tupD) addG) nilA) sortedG) nilA) tupleG) nilA)))))
  nxS))))))
end Pg
namespace Pg
noncomputable def f_without_row : Fn := defF 5 3 (seqS (asgS 3 (callE Pg.f_rows_of (consA (varE 0) (consA (varE 1) nilA))))
  (seqS (ifS (valT (op2 (varE 2) (varE 3) ninG)) (seqS (raiseS "RowError")
  nxS) nxS)
  (seqS (retS (callE Pg.f_with_rows (consA (varE 0) (consA (varE 1) (consA (opN (consA (compE [4] (srcE (varE 3)) (nameG 4) (valT (op2 (varE 4) (varE 2) neG)) (varE 4)) nilA) tupleG) nilA)))))
  nxS)))
end Pg
namespace Lw
noncomputable def f__law_with : Fn := defF 4 3 (seqS (retS (opN (consA (compE [3] (srcE (varE 0)) (nameG 3) yesT (ifE (valT (op2 (op2 (varE 3) (cstE (.int 0)) idxG) (varE 1) eqG)) (opN (consA (op2 (varE 3) (cstE (.int 0)) idxG) (consA (op2 (varE 3) (cstE (.int 1)) idxG) (consA (varE 2) nilA))) tupD) (varE 3))) nilA) tupleG))
  nxS)
end Lw
namespace Pg
noncomputable def f_kept_in : Fn := defF 4 2 (seqS (asgS 2 (opN (consA (varE 1) nilA) mkSetG))
  (seqS (retS (compE [3] (srcE (varE 0)) (nameG 3) (valT (op2 (varE 3) (varE 2) inG)) (varE 3)))
  nxS))
end Pg
namespace Pg
noncomputable def f_common : Fn := defF 3 1 (seqS (ifS (valT (op2 (opN (consA (varE 0) nilA) lenG) (cstE (.int 0)) eqG)) (seqS (retS (opN nilA tupD))
  nxS) nxS)
  (seqS (asgS 1 (op2 (varE 0) (cstE (.int 0)) idxG))
  (seqS (forS (srcE (sliceE (varE 0) (some (cstE (.int 1))) none)) (nameG 2) (seqS (asgS 1 (callE Pg.f_kept_in (consA (varE 1) (consA (varE 2) nilA))))
  nxS))
  (seqS (retS (opN (consA (varE 1) nilA) tupleG))
  nxS))))
end Pg

end

section
set_option Elab.async false
set_option linter.all false
set_option maxRecDepth 100000
set_option maxHeartbeats 4000000
open PySem PySem.Spec L2 Mi
open PyProof.Rows hiding St
/-! ## fractions -/
namespace Pg
theorem fraction_zero (n : Int) (m : Mem) : f_fraction [.int n, .int 0] m = .exc "ZeroDenominator" m := by
  unfold f_fraction
  simp only [atI_c0, atI_c1, atI_c2, atI_c3, nc0, nc1, nc2, nc3, nc4, nc5, nc6, nc7, nc8, nc9, setG_v, ksv_ok, kso_ok, ksi_ok, ksx_ok, ksy_ok, items_kit, kit_lst, kit_con, idxG_refE, kix_some, idxG_tupE, ofI_some, lenG_refE, klen_some, defF1, defF2, defF3, defF4, defF5, seqS_ap, kseq_nx, kseq_rt, kseq_bk, kseq_ct, kseq_exc, kseq_bad, nxS_ap, bkS_ap, ctS_ap, raiseS_ap, retN_ap, op1_ap, k1_ok, op2_ap, k2a_ok, k2b_ok, opN_ap, kN_ok, nilA_ap, consA_ap, kca_ok, kcb_ok, varE_ap, pick_ok, cstE_ap, asgS_ap, kasg_ok, kasg_exc, retS_ap, kret_ok, kret_exc, dropS_ap, kdrop_ok, kdrop_exc, ifS_ap, kif_t, kif_f, ifE_ap, kife_t, kife_f, valT_ap, kval_ok, notT_ap, knot_ok, andT_ap, kand_t, kand_f, orT_ap, kor_t, kor_f, andV_ap, kandv_t, kandv_f, orV_ap, korv_t, korv_f, notV_ap, knotv_ok, callE_ap, kcall_ok, parS_ap, kpar_ok, asgG_ap, forS_ap, kfor_ok, srcE_ap, ksrc_tup, ksrc_str, finF_nx, finF_rt, finF_exc, startE, lft_some, List.length_cons, List.length_nil, List.map_cons, List.map_nil, List.getElem?_cons_succ, List.getElem?_cons_zero, List.set_cons_zero, List.set_cons_succ, List.cons_append, List.nil_append, List.replicate_succ, List.replicate_zero, Nat.reduceAdd, Nat.reduceSub, Nat.sub_self, Nat.zero_add, eqG_int, neG_int, ltG_int, gtG_int, leG_int, geG_int, addG_int, subG_int, negG_int, absG_int, intG_int, gcdG_int, lenG_tup, tupD0, tupD1, tupD2, tupD3, tupD4, lstD0, lstD1, lstD4, isi_int_int, isi_bool_int, isi_tup_tup, decide_true, decide_false, Bool.not_true, Bool.not_false, beq_self_eq_true, Int.reduceBEq, Int.reduceLT, Int.reduceLE, Int.reduceNeg]
def gd (n d : Int) : Int := ((Nat.gcd n.natAbs d.natAbs : Nat) : Int)
def dv (n d : Int) : Int := if d < 0 then -gd n d else gd n d
theorem gd_pos {n d : Int} (h : d ≠ 0) : 0 < gd n d := by
  unfold gd
  have := Nat.gcd_pos_of_pos_right n.natAbs (show 0 < d.natAbs by omega)
  omega
theorem dv_abs {n d : Int} : (dv n d).natAbs = Nat.gcd n.natAbs d.natAbs := by
  unfold dv gd
  split <;> omega
theorem dv_ne {n d : Int} (h : d ≠ 0) : dv n d ≠ 0 := by
  have := gd_pos (n := n) h
  unfold dv
  split <;> omega
theorem fraction_of (n d : Int) (m : Mem) (h : d ≠ 0) (hz : (dv n d).natAbs.log2 < 9000) : f_fraction [.int n, .int d] m = .ok (.tup [.int (n.fdiv (dv n d)), .int (d.fdiv (dv n d))]) m := by
  have hg := dv_ne (n := n) h
  have e0 : (d == 0) = false := by simpa using h
  unfold f_fraction
  by_cases hd : d < 0
  · have e : dv n d = -(Nat.gcd n.natAbs d.natAbs : Nat) := by unfold dv gd; rw [if_pos hd]
    rw [e] at hg hz ⊢
    simp only [atI_c0, atI_c1, atI_c2, atI_c3, nc0, nc1, nc2, nc3, nc4, nc5, nc6, nc7, nc8, nc9, setG_v, ksv_ok, kso_ok, ksi_ok, ksx_ok, ksy_ok, items_kit, kit_lst, kit_con, idxG_refE, kix_some, idxG_tupE, ofI_some, lenG_refE, klen_some, defF1, defF2, defF3, defF4, defF5, seqS_ap, kseq_nx, kseq_rt, kseq_bk, kseq_ct, kseq_exc, kseq_bad, nxS_ap, bkS_ap, ctS_ap, raiseS_ap, retN_ap, op1_ap, k1_ok, op2_ap, k2a_ok, k2b_ok, opN_ap, kN_ok, nilA_ap, consA_ap, kca_ok, kcb_ok, varE_ap, pick_ok, cstE_ap, asgS_ap, kasg_ok, kasg_exc, retS_ap, kret_ok, kret_exc, dropS_ap, kdrop_ok, kdrop_exc, ifS_ap, kif_t, kif_f, ifE_ap, kife_t, kife_f, valT_ap, kval_ok, notT_ap, knot_ok, andT_ap, kand_t, kand_f, orT_ap, kor_t, kor_f, andV_ap, kandv_t, kandv_f, orV_ap, korv_t, korv_f, notV_ap, knotv_ok, callE_ap, kcall_ok, parS_ap, kpar_ok, asgG_ap, forS_ap, kfor_ok, srcE_ap, ksrc_tup, ksrc_str, finF_nx, finF_rt, finF_exc, startE, lft_some, List.length_cons, List.length_nil, List.map_cons, List.map_nil, List.getElem?_cons_succ, List.getElem?_cons_zero, List.set_cons_zero, List.set_cons_succ, List.cons_append, List.nil_append, List.replicate_succ, List.replicate_zero, Nat.reduceAdd, Nat.reduceSub, Nat.sub_self, Nat.zero_add, eqG_int, neG_int, ltG_int, gtG_int, leG_int, geG_int, addG_int, subG_int, negG_int, absG_int, intG_int, gcdG_int, lenG_tup, tupD0, tupD1, tupD2, tupD3, tupD4, lstD0, lstD1, lstD4, isi_int_int, isi_bool_int, isi_tup_tup, decide_true, decide_false, Bool.not_true, Bool.not_false, beq_self_eq_true, Int.reduceBEq, Int.reduceLT, Int.reduceLE, Int.reduceNeg, e0, decide_eq_true hd, fdivG_of hg hz]
  · have e : dv n d = (Nat.gcd n.natAbs d.natAbs : Nat) := by unfold dv gd; rw [if_neg hd]
    rw [e] at hg hz ⊢
    simp only [atI_c0, atI_c1, atI_c2, atI_c3, nc0, nc1, nc2, nc3, nc4, nc5, nc6, nc7, nc8, nc9, setG_v, ksv_ok, kso_ok, ksi_ok, ksx_ok, ksy_ok, items_kit, kit_lst, kit_con, idxG_refE, kix_some, idxG_tupE, ofI_some, lenG_refE, klen_some, defF1, defF2, defF3, defF4, defF5, seqS_ap, kseq_nx, kseq_rt, kseq_bk, kseq_ct, kseq_exc, kseq_bad, nxS_ap, bkS_ap, ctS_ap, raiseS_ap, retN_ap, op1_ap, k1_ok, op2_ap, k2a_ok, k2b_ok, opN_ap, kN_ok, nilA_ap, consA_ap, kca_ok, kcb_ok, varE_ap, pick_ok, cstE_ap, asgS_ap, kasg_ok, kasg_exc, retS_ap, kret_ok, kret_exc, dropS_ap, kdrop_ok, kdrop_exc, ifS_ap, kif_t, kif_f, ifE_ap, kife_t, kife_f, valT_ap, kval_ok, notT_ap, knot_ok, andT_ap, kand_t, kand_f, orT_ap, kor_t, kor_f, andV_ap, kandv_t, kandv_f, orV_ap, korv_t, korv_f, notV_ap, knotv_ok, callE_ap, kcall_ok, parS_ap, kpar_ok, asgG_ap, forS_ap, kfor_ok, srcE_ap, ksrc_tup, ksrc_str, finF_nx, finF_rt, finF_exc, startE, lft_some, List.length_cons, List.length_nil, List.map_cons, List.map_nil, List.getElem?_cons_succ, List.getElem?_cons_zero, List.set_cons_zero, List.set_cons_succ, List.cons_append, List.nil_append, List.replicate_succ, List.replicate_zero, Nat.reduceAdd, Nat.reduceSub, Nat.sub_self, Nat.zero_add, eqG_int, neG_int, ltG_int, gtG_int, leG_int, geG_int, addG_int, subG_int, negG_int, absG_int, intG_int, gcdG_int, lenG_tup, tupD0, tupD1, tupD2, tupD3, tupD4, lstD0, lstD1, lstD4, isi_int_int, isi_bool_int, isi_tup_tup, decide_true, decide_false, Bool.not_true, Bool.not_false, beq_self_eq_true, Int.reduceBEq, Int.reduceLT, Int.reduceLE, Int.reduceNeg, e0, decide_eq_false hd, fdivG_of hg hz]
/-- what the fraction is -/
theorem frac_spec {n d : Int} (h : d ≠ 0) : n = dv n d * n.fdiv (dv n d) ∧ d = dv n d * d.fdiv (dv n d) ∧ 0 < d.fdiv (dv n d) ∧ Nat.gcd (n.fdiv (dv n d)).natAbs (d.fdiv (dv n d)).natAbs = 1 := by
  have hg := dv_ne (n := n) h
  have d1 : dv n d ∣ n := Int.natAbs_dvd_natAbs.mp (by rw [dv_abs]; exact Nat.gcd_dvd_left _ _)
  have d2 : dv n d ∣ d := Int.natAbs_dvd_natAbs.mp (by rw [dv_abs]; exact Nat.gcd_dvd_right _ _)
  rw [Int.fdiv_eq_ediv_of_dvd d1, Int.fdiv_eq_ediv_of_dvd d2]
  have e1 : n = dv n d * (n / dv n d) := (Int.mul_ediv_cancel' d1).symm
  have e2 : d = dv n d * (d / dv n d) := (Int.mul_ediv_cancel' d2).symm
  refine ⟨e1, e2, ?_, ?_⟩
  · generalize hq : d / dv n d = q at e2
    by_cases hd : d < 0
    · have hs : dv n d < 0 := by
        have := gd_pos (n := n) h
        unfold dv
        rw [if_pos hd]
        omega
      rw [e2] at hd
      exact Int.pos_of_mul_neg_left (by first | exact hd | (rw [Int.mul_comm]; exact hd)) hs
    · have hs : 0 < dv n d := by
        have := gd_pos (n := n) h
        unfold dv
        rw [if_neg hd]
        omega
      have hd' : 0 < dv n d * q := by omega
      exact Int.pos_of_mul_pos_left (by rw [Int.mul_comm]; exact hd') hs
  · have a1 : n.natAbs = (dv n d).natAbs * (n / dv n d).natAbs := by rw [← Int.natAbs_mul, ← e1]
    have a2 : d.natAbs = (dv n d).natAbs * (d / dv n d).natAbs := by rw [← Int.natAbs_mul, ← e2]
    have a3 := dv_abs (n := n) (d := d)
    have a4 : (dv n d).natAbs * Nat.gcd (n / dv n d).natAbs (d / dv n d).natAbs = (dv n d).natAbs * 1 := by
      rw [← Nat.gcd_mul_left, ← a1, ← a2, ← a3, Nat.mul_one]
    exact Nat.eq_of_mul_eq_mul_left (by omega) a4
/-- a fraction -/
def FrOk (p q : Int) : Prop := 0 < q ∧ Nat.gcd p.natAbs q.natAbs = 1
def frD (x : Int × Int) : D := .tup [.int x.1, .int x.2]
theorem log_of {x : Int} {k : Nat} (h : x.natAbs < 2 ^ k) (hk : 0 < k) : x.natAbs.log2 < k := PySem.Flt.log2_lt_of hk h
theorem dv_log {n d : Int} {k : Nat} (h : d ≠ 0) (hb : d.natAbs < 2 ^ k) (hk : 0 < k) (hk2 : k ≤ 9000) : (dv n d).natAbs.log2 < 9000 := by
  refine Nat.lt_of_lt_of_le (log_of (k := k) ?_ hk) hk2
  rw [dv_abs]
  exact Nat.lt_of_le_of_lt (Nat.gcd_le_right _ (by omega)) hb
/-- the fraction of two ints -/
theorem fraction_ok {n d : Int} {k : Nat} (m : Mem) (h : d ≠ 0) (hb : d.natAbs < 2 ^ k) (hk : 0 < k) (hk2 : k ≤ 9000) :
    ∃ p q g : Int, f_fraction [.int n, .int d] m = .ok (frD (p, q)) m ∧ FrOk p q ∧ n = g * p ∧ d = g * q ∧ g ≠ 0 ∧ p.natAbs ≤ n.natAbs ∧ q.natAbs ≤ d.natAbs := by
  obtain ⟨e1, e2, e3, e4⟩ := frac_spec (n := n) h
  have hg := dv_ne (n := n) h
  refine ⟨n.fdiv (dv n d), d.fdiv (dv n d), dv n d, fraction_of n d m h (dv_log h hb hk hk2), ⟨e3, e4⟩, e1, e2, hg, ?_, ?_⟩
  · generalize n.fdiv (dv n d) = p at e1
    have : n.natAbs = (dv n d).natAbs * p.natAbs := by rw [← Int.natAbs_mul, ← e1]
    rw [this]
    exact Nat.le_mul_of_pos_left _ (by omega)
  · generalize d.fdiv (dv n d) = p at e2
    have : d.natAbs = (dv n d).natAbs * p.natAbs := by rw [← Int.natAbs_mul, ← e2]
    rw [this]
    exact Nat.le_mul_of_pos_left _ (by omega)
theorem at0 {a b : D} : atI [a, b] 0 = some a := rfl
theorem at1 {a b : D} : atI [a, b] 1 = some b := rfl
theorem mul_bound {a b : Int} {k l : Nat} (ha : a.natAbs < 2 ^ k) (hb : b.natAbs < 2 ^ l) (hk : 0 < k) (hl : 0 < l) (h : k + l ≤ 1000000) : a.natAbs.log2 + b.natAbs.log2 < 1000000 := by
  have h1 := log_of ha hk
  have h2 := log_of hb hl
  omega
theorem plus_eq {a b c d : Int} {k l : Nat} (m : Mem) (ha : a.natAbs < 2 ^ k) (hb : b.natAbs < 2 ^ k) (hc : c.natAbs < 2 ^ l) (hd : d.natAbs < 2 ^ l) (hk : 0 < k) (hl : 0 < l) (h : k + l ≤ 1000000) :
    f_plus [frD (a, b), frD (c, d)] m = f_fraction [.int (a * d + c * b), .int (b * d)] m := by
  unfold f_plus frD
  simp only [atI_c0, atI_c1, atI_c2, atI_c3, nc0, nc1, nc2, nc3, nc4, nc5, nc6, nc7, nc8, nc9, setG_v, ksv_ok, kso_ok, ksi_ok, ksx_ok, ksy_ok, items_kit, kit_lst, kit_con, idxG_refE, kix_some, idxG_tupE, ofI_some, lenG_refE, klen_some, defF1, defF2, defF3, defF4, defF5, seqS_ap, kseq_nx, kseq_rt, kseq_bk, kseq_ct, kseq_exc, kseq_bad, nxS_ap, bkS_ap, ctS_ap, raiseS_ap, retN_ap, op1_ap, k1_ok, op2_ap, k2a_ok, k2b_ok, opN_ap, kN_ok, nilA_ap, consA_ap, kca_ok, kcb_ok, varE_ap, pick_ok, cstE_ap, asgS_ap, kasg_ok, kasg_exc, retS_ap, kret_ok, kret_exc, dropS_ap, kdrop_ok, kdrop_exc, ifS_ap, kif_t, kif_f, ifE_ap, kife_t, kife_f, valT_ap, kval_ok, notT_ap, knot_ok, andT_ap, kand_t, kand_f, orT_ap, kor_t, kor_f, andV_ap, kandv_t, kandv_f, orV_ap, korv_t, korv_f, notV_ap, knotv_ok, callE_ap, kcall_ok, parS_ap, kpar_ok, asgG_ap, forS_ap, kfor_ok, srcE_ap, ksrc_tup, ksrc_str, finF_nx, finF_rt, finF_exc, startE, lft_some, List.length_cons, List.length_nil, List.map_cons, List.map_nil, List.getElem?_cons_succ, List.getElem?_cons_zero, List.set_cons_zero, List.set_cons_succ, List.cons_append, List.nil_append, List.replicate_succ, List.replicate_zero, Nat.reduceAdd, Nat.reduceSub, Nat.sub_self, Nat.zero_add, eqG_int, neG_int, ltG_int, gtG_int, leG_int, geG_int, addG_int, subG_int, negG_int, absG_int, intG_int, gcdG_int, lenG_tup, tupD0, tupD1, tupD2, tupD3, tupD4, lstD0, lstD1, lstD4, isi_int_int, isi_bool_int, isi_tup_tup, decide_true, decide_false, Bool.not_true, Bool.not_false, beq_self_eq_true, Int.reduceBEq, Int.reduceLT, Int.reduceLE, Int.reduceNeg, idxG_tup at0, idxG_tup at1, mulG_int (mul_bound ha hd hk hl h), mulG_int (mul_bound hc hb hl hk (by omega)), mulG_int (mul_bound hb hd hk hl h)]
  cases f_fraction [.int (a * d + c * b), .int (b * d)] m <;> rfl
theorem minus_eq {a b c d : Int} {k l : Nat} (m : Mem) (ha : a.natAbs < 2 ^ k) (hb : b.natAbs < 2 ^ k) (hc : c.natAbs < 2 ^ l) (hd : d.natAbs < 2 ^ l) (hk : 0 < k) (hl : 0 < l) (h : k + l ≤ 1000000) :
    f_minus [frD (a, b), frD (c, d)] m = f_fraction [.int (a * d - c * b), .int (b * d)] m := by
  unfold f_minus frD
  simp only [atI_c0, atI_c1, atI_c2, atI_c3, nc0, nc1, nc2, nc3, nc4, nc5, nc6, nc7, nc8, nc9, setG_v, ksv_ok, kso_ok, ksi_ok, ksx_ok, ksy_ok, items_kit, kit_lst, kit_con, idxG_refE, kix_some, idxG_tupE, ofI_some, lenG_refE, klen_some, defF1, defF2, defF3, defF4, defF5, seqS_ap, kseq_nx, kseq_rt, kseq_bk, kseq_ct, kseq_exc, kseq_bad, nxS_ap, bkS_ap, ctS_ap, raiseS_ap, retN_ap, op1_ap, k1_ok, op2_ap, k2a_ok, k2b_ok, opN_ap, kN_ok, nilA_ap, consA_ap, kca_ok, kcb_ok, varE_ap, pick_ok, cstE_ap, asgS_ap, kasg_ok, kasg_exc, retS_ap, kret_ok, kret_exc, dropS_ap, kdrop_ok, kdrop_exc, ifS_ap, kif_t, kif_f, ifE_ap, kife_t, kife_f, valT_ap, kval_ok, notT_ap, knot_ok, andT_ap, kand_t, kand_f, orT_ap, kor_t, kor_f, andV_ap, kandv_t, kandv_f, orV_ap, korv_t, korv_f, notV_ap, knotv_ok, callE_ap, kcall_ok, parS_ap, kpar_ok, asgG_ap, forS_ap, kfor_ok, srcE_ap, ksrc_tup, ksrc_str, finF_nx, finF_rt, finF_exc, startE, lft_some, List.length_cons, List.length_nil, List.map_cons, List.map_nil, List.getElem?_cons_succ, List.getElem?_cons_zero, List.set_cons_zero, List.set_cons_succ, List.cons_append, List.nil_append, List.replicate_succ, List.replicate_zero, Nat.reduceAdd, Nat.reduceSub, Nat.sub_self, Nat.zero_add, eqG_int, neG_int, ltG_int, gtG_int, leG_int, geG_int, addG_int, subG_int, negG_int, absG_int, intG_int, gcdG_int, lenG_tup, tupD0, tupD1, tupD2, tupD3, tupD4, lstD0, lstD1, lstD4, isi_int_int, isi_bool_int, isi_tup_tup, decide_true, decide_false, Bool.not_true, Bool.not_false, beq_self_eq_true, Int.reduceBEq, Int.reduceLT, Int.reduceLE, Int.reduceNeg, idxG_tup at0, idxG_tup at1, mulG_int (mul_bound ha hd hk hl h), mulG_int (mul_bound hc hb hl hk (by omega)), mulG_int (mul_bound hb hd hk hl h)]
  cases f_fraction [.int (a * d - c * b), .int (b * d)] m <;> rfl
theorem times_eq {a b c d : Int} {k l : Nat} (m : Mem) (ha : a.natAbs < 2 ^ k) (hb : b.natAbs < 2 ^ k) (hc : c.natAbs < 2 ^ l) (hd : d.natAbs < 2 ^ l) (hk : 0 < k) (hl : 0 < l) (h : k + l ≤ 1000000) :
    f_times [frD (a, b), frD (c, d)] m = f_fraction [.int (a * c), .int (b * d)] m := by
  unfold f_times frD
  simp only [atI_c0, atI_c1, atI_c2, atI_c3, nc0, nc1, nc2, nc3, nc4, nc5, nc6, nc7, nc8, nc9, setG_v, ksv_ok, kso_ok, ksi_ok, ksx_ok, ksy_ok, items_kit, kit_lst, kit_con, idxG_refE, kix_some, idxG_tupE, ofI_some, lenG_refE, klen_some, defF1, defF2, defF3, defF4, defF5, seqS_ap, kseq_nx, kseq_rt, kseq_bk, kseq_ct, kseq_exc, kseq_bad, nxS_ap, bkS_ap, ctS_ap, raiseS_ap, retN_ap, op1_ap, k1_ok, op2_ap, k2a_ok, k2b_ok, opN_ap, kN_ok, nilA_ap, consA_ap, kca_ok, kcb_ok, varE_ap, pick_ok, cstE_ap, asgS_ap, kasg_ok, kasg_exc, retS_ap, kret_ok, kret_exc, dropS_ap, kdrop_ok, kdrop_exc, ifS_ap, kif_t, kif_f, ifE_ap, kife_t, kife_f, valT_ap, kval_ok, notT_ap, knot_ok, andT_ap, kand_t, kand_f, orT_ap, kor_t, kor_f, andV_ap, kandv_t, kandv_f, orV_ap, korv_t, korv_f, notV_ap, knotv_ok, callE_ap, kcall_ok, parS_ap, kpar_ok, asgG_ap, forS_ap, kfor_ok, srcE_ap, ksrc_tup, ksrc_str, finF_nx, finF_rt, finF_exc, startE, lft_some, List.length_cons, List.length_nil, List.map_cons, List.map_nil, List.getElem?_cons_succ, List.getElem?_cons_zero, List.set_cons_zero, List.set_cons_succ, List.cons_append, List.nil_append, List.replicate_succ, List.replicate_zero, Nat.reduceAdd, Nat.reduceSub, Nat.sub_self, Nat.zero_add, eqG_int, neG_int, ltG_int, gtG_int, leG_int, geG_int, addG_int, subG_int, negG_int, absG_int, intG_int, gcdG_int, lenG_tup, tupD0, tupD1, tupD2, tupD3, tupD4, lstD0, lstD1, lstD4, isi_int_int, isi_bool_int, isi_tup_tup, decide_true, decide_false, Bool.not_true, Bool.not_false, beq_self_eq_true, Int.reduceBEq, Int.reduceLT, Int.reduceLE, Int.reduceNeg, idxG_tup at0, idxG_tup at1, mulG_int (mul_bound ha hc hk hl h), mulG_int (mul_bound hb hd hk hl h)]
  cases f_fraction [.int (a * c), .int (b * d)] m <;> rfl
def cmpZ (x y : Int) : Int := if x < y then -1 else if y < x then 1 else 0
theorem compare_eq {a b c d : Int} {k l : Nat} (m : Mem) (ha : a.natAbs < 2 ^ k) (hb : b.natAbs < 2 ^ k) (hc : c.natAbs < 2 ^ l) (hd : d.natAbs < 2 ^ l) (hk : 0 < k) (hl : 0 < l) (h : k + l ≤ 1000000) :
    f_compare [frD (a, b), frD (c, d)] m = .ok (.int (cmpZ (a * d) (c * b))) m := by
  unfold f_compare frD cmpZ
  by_cases h1 : a * d < c * b
  · rw [if_pos h1]
    simp only [atI_c0, atI_c1, atI_c2, atI_c3, nc0, nc1, nc2, nc3, nc4, nc5, nc6, nc7, nc8, nc9, setG_v, ksv_ok, kso_ok, ksi_ok, ksx_ok, ksy_ok, items_kit, kit_lst, kit_con, idxG_refE, kix_some, idxG_tupE, ofI_some, lenG_refE, klen_some, defF1, defF2, defF3, defF4, defF5, seqS_ap, kseq_nx, kseq_rt, kseq_bk, kseq_ct, kseq_exc, kseq_bad, nxS_ap, bkS_ap, ctS_ap, raiseS_ap, retN_ap, op1_ap, k1_ok, op2_ap, k2a_ok, k2b_ok, opN_ap, kN_ok, nilA_ap, consA_ap, kca_ok, kcb_ok, varE_ap, pick_ok, cstE_ap, asgS_ap, kasg_ok, kasg_exc, retS_ap, kret_ok, kret_exc, dropS_ap, kdrop_ok, kdrop_exc, ifS_ap, kif_t, kif_f, ifE_ap, kife_t, kife_f, valT_ap, kval_ok, notT_ap, knot_ok, andT_ap, kand_t, kand_f, orT_ap, kor_t, kor_f, andV_ap, kandv_t, kandv_f, orV_ap, korv_t, korv_f, notV_ap, knotv_ok, callE_ap, kcall_ok, parS_ap, kpar_ok, asgG_ap, forS_ap, kfor_ok, srcE_ap, ksrc_tup, ksrc_str, finF_nx, finF_rt, finF_exc, startE, lft_some, List.length_cons, List.length_nil, List.map_cons, List.map_nil, List.getElem?_cons_succ, List.getElem?_cons_zero, List.set_cons_zero, List.set_cons_succ, List.cons_append, List.nil_append, List.replicate_succ, List.replicate_zero, Nat.reduceAdd, Nat.reduceSub, Nat.sub_self, Nat.zero_add, eqG_int, neG_int, ltG_int, gtG_int, leG_int, geG_int, addG_int, subG_int, negG_int, absG_int, intG_int, gcdG_int, lenG_tup, tupD0, tupD1, tupD2, tupD3, tupD4, lstD0, lstD1, lstD4, isi_int_int, isi_bool_int, isi_tup_tup, decide_true, decide_false, Bool.not_true, Bool.not_false, beq_self_eq_true, Int.reduceBEq, Int.reduceLT, Int.reduceLE, Int.reduceNeg, idxG_tup at0, idxG_tup at1, mulG_int (mul_bound ha hd hk hl h), mulG_int (mul_bound hc hb hl hk (by omega)), decide_eq_true h1]
  · rw [if_neg h1]
    by_cases h2 : c * b < a * d
    · rw [if_pos h2]
      simp only [atI_c0, atI_c1, atI_c2, atI_c3, nc0, nc1, nc2, nc3, nc4, nc5, nc6, nc7, nc8, nc9, setG_v, ksv_ok, kso_ok, ksi_ok, ksx_ok, ksy_ok, items_kit, kit_lst, kit_con, idxG_refE, kix_some, idxG_tupE, ofI_some, lenG_refE, klen_some, defF1, defF2, defF3, defF4, defF5, seqS_ap, kseq_nx, kseq_rt, kseq_bk, kseq_ct, kseq_exc, kseq_bad, nxS_ap, bkS_ap, ctS_ap, raiseS_ap, retN_ap, op1_ap, k1_ok, op2_ap, k2a_ok, k2b_ok, opN_ap, kN_ok, nilA_ap, consA_ap, kca_ok, kcb_ok, varE_ap, pick_ok, cstE_ap, asgS_ap, kasg_ok, kasg_exc, retS_ap, kret_ok, kret_exc, dropS_ap, kdrop_ok, kdrop_exc, ifS_ap, kif_t, kif_f, ifE_ap, kife_t, kife_f, valT_ap, kval_ok, notT_ap, knot_ok, andT_ap, kand_t, kand_f, orT_ap, kor_t, kor_f, andV_ap, kandv_t, kandv_f, orV_ap, korv_t, korv_f, notV_ap, knotv_ok, callE_ap, kcall_ok, parS_ap, kpar_ok, asgG_ap, forS_ap, kfor_ok, srcE_ap, ksrc_tup, ksrc_str, finF_nx, finF_rt, finF_exc, startE, lft_some, List.length_cons, List.length_nil, List.map_cons, List.map_nil, List.getElem?_cons_succ, List.getElem?_cons_zero, List.set_cons_zero, List.set_cons_succ, List.cons_append, List.nil_append, List.replicate_succ, List.replicate_zero, Nat.reduceAdd, Nat.reduceSub, Nat.sub_self, Nat.zero_add, eqG_int, neG_int, ltG_int, gtG_int, leG_int, geG_int, addG_int, subG_int, negG_int, absG_int, intG_int, gcdG_int, lenG_tup, tupD0, tupD1, tupD2, tupD3, tupD4, lstD0, lstD1, lstD4, isi_int_int, isi_bool_int, isi_tup_tup, decide_true, decide_false, Bool.not_true, Bool.not_false, beq_self_eq_true, Int.reduceBEq, Int.reduceLT, Int.reduceLE, Int.reduceNeg, idxG_tup at0, idxG_tup at1, mulG_int (mul_bound ha hd hk hl h), mulG_int (mul_bound hc hb hl hk (by omega)), decide_eq_false h1, decide_eq_true h2]
    · rw [if_neg h2]
      simp only [atI_c0, atI_c1, atI_c2, atI_c3, nc0, nc1, nc2, nc3, nc4, nc5, nc6, nc7, nc8, nc9, setG_v, ksv_ok, kso_ok, ksi_ok, ksx_ok, ksy_ok, items_kit, kit_lst, kit_con, idxG_refE, kix_some, idxG_tupE, ofI_some, lenG_refE, klen_some, defF1, defF2, defF3, defF4, defF5, seqS_ap, kseq_nx, kseq_rt, kseq_bk, kseq_ct, kseq_exc, kseq_bad, nxS_ap, bkS_ap, ctS_ap, raiseS_ap, retN_ap, op1_ap, k1_ok, op2_ap, k2a_ok, k2b_ok, opN_ap, kN_ok, nilA_ap, consA_ap, kca_ok, kcb_ok, varE_ap, pick_ok, cstE_ap, asgS_ap, kasg_ok, kasg_exc, retS_ap, kret_ok, kret_exc, dropS_ap, kdrop_ok, kdrop_exc, ifS_ap, kif_t, kif_f, ifE_ap, kife_t, kife_f, valT_ap, kval_ok, notT_ap, knot_ok, andT_ap, kand_t, kand_f, orT_ap, kor_t, kor_f, andV_ap, kandv_t, kandv_f, orV_ap, korv_t, korv_f, notV_ap, knotv_ok, callE_ap, kcall_ok, parS_ap, kpar_ok, asgG_ap, forS_ap, kfor_ok, srcE_ap, ksrc_tup, ksrc_str, finF_nx, finF_rt, finF_exc, startE, lft_some, List.length_cons, List.length_nil, List.map_cons, List.map_nil, List.getElem?_cons_succ, List.getElem?_cons_zero, List.set_cons_zero, List.set_cons_succ, List.cons_append, List.nil_append, List.replicate_succ, List.replicate_zero, Nat.reduceAdd, Nat.reduceSub, Nat.sub_self, Nat.zero_add, eqG_int, neG_int, ltG_int, gtG_int, leG_int, geG_int, addG_int, subG_int, negG_int, absG_int, intG_int, gcdG_int, lenG_tup, tupD0, tupD1, tupD2, tupD3, tupD4, lstD0, lstD1, lstD4, isi_int_int, isi_bool_int, isi_tup_tup, decide_true, decide_false, Bool.not_true, Bool.not_false, beq_self_eq_true, Int.reduceBEq, Int.reduceLT, Int.reduceLE, Int.reduceNeg, idxG_tup at0, idxG_tup at1, mulG_int (mul_bound ha hd hk hl h), mulG_int (mul_bound hc hb hl hk (by omega)), decide_eq_false h1, decide_eq_false h2]
end Pg

end

section
set_option Elab.async false
set_option linter.all false
set_option maxRecDepth 100000
set_option maxHeartbeats 4000000
open PySem PySem.Spec L2 Mi
open PyProof.Rows hiding St
namespace Lw
open Pg (frD FrOk at0 at1 mul_bound log_of)
theorem gcd_loop (m : Mem) : ∀ (k : Nat) (a b : Int), 0 ≤ a → 0 ≤ b → b.toNat ≤ k → ∃ g, g = ((Nat.gcd a.natAbs b.natAbs : Nat) : Int) ∧
    whileS (valT (op2 (varE 1) (cstE (.int 0)) neG)) (seqS (parS 0 1 (consA (varE 1) (consA (op2 (opN (consA (varE 0) nilA) intG) (varE 1) modG) nilA))) nxS) [some (.int a), some (.int b)] m = .ok .nx [some (.int g), some (.int 0)] m
  | k, a, b, ha, hb, hk => by
    by_cases h0 : b = 0
    · subst h0
      refine ⟨a, ?_, whileS_end ?_⟩
      · simp; omega
      · simp only [atI_c0, atI_c1, atI_c2, atI_c3, nc0, nc1, nc2, nc3, nc4, nc5, nc6, nc7, nc8, nc9, setG_v, ksv_ok, kso_ok, ksi_ok, ksx_ok, ksy_ok, items_kit, kit_lst, kit_con, idxG_refE, kix_some, idxG_tupE, ofI_some, lenG_refE, klen_some, defF1, defF2, defF3, defF4, defF5, seqS_ap, kseq_nx, kseq_rt, kseq_bk, kseq_ct, kseq_exc, kseq_bad, nxS_ap, bkS_ap, ctS_ap, raiseS_ap, retN_ap, op1_ap, k1_ok, op2_ap, k2a_ok, k2b_ok, opN_ap, kN_ok, nilA_ap, consA_ap, kca_ok, kcb_ok, varE_ap, pick_ok, cstE_ap, asgS_ap, kasg_ok, kasg_exc, retS_ap, kret_ok, kret_exc, dropS_ap, kdrop_ok, kdrop_exc, ifS_ap, kif_t, kif_f, ifE_ap, kife_t, kife_f, valT_ap, kval_ok, notT_ap, knot_ok, andT_ap, kand_t, kand_f, orT_ap, kor_t, kor_f, andV_ap, kandv_t, kandv_f, orV_ap, korv_t, korv_f, notV_ap, knotv_ok, callE_ap, kcall_ok, parS_ap, kpar_ok, asgG_ap, forS_ap, kfor_ok, srcE_ap, ksrc_tup, ksrc_str, finF_nx, finF_rt, finF_exc, startE, lft_some, List.length_cons, List.length_nil, List.map_cons, List.map_nil, List.getElem?_cons_succ, List.getElem?_cons_zero, List.set_cons_zero, List.set_cons_succ, List.cons_append, List.nil_append, List.replicate_succ, List.replicate_zero, Nat.reduceAdd, Nat.reduceSub, Nat.sub_self, Nat.zero_add, eqG_int, neG_int, ltG_int, gtG_int, leG_int, geG_int, addG_int, subG_int, negG_int, absG_int, intG_int, gcdG_int, lenG_tup, tupD0, tupD1, tupD2, tupD3, tupD4, lstD0, lstD1, lstD4, isi_int_int, isi_bool_int, isi_tup_tup, decide_true, decide_false, Bool.not_true, Bool.not_false, beq_self_eq_true, Int.reduceBEq, Int.reduceLT, Int.reduceLE, Int.reduceNeg]
    · have hp : 0 < b := by omega
      have e0 : (b == 0) = false := by simpa using h0
      have h1 : 0 ≤ a % b := Int.emod_nonneg a h0
      have h2 : a % b < b := Int.emod_lt_of_pos a hp
      match k, hk with
      | 0, hk => omega
      | k + 1, hk =>
        obtain ⟨g, eg, h⟩ := gcd_loop m k b (a % b) (by omega) h1 (by omega)
        refine ⟨g, ?_, whileS_step (r2 := [some (.int b), some (.int (a % b))]) (m1 := m) (m2 := m) ?_ ?_ h (by intro q; cases q)⟩
        · rw [eg]
          have e1 : (a % b).natAbs = a.natAbs % b.natAbs := by
            have : ((a % b).natAbs : Int) = ((a.natAbs % b.natAbs : Nat) : Int) := by
              rw [Int.natCast_emod]
              rw [show ((a.natAbs : Nat) : Int) = a by omega, show ((b.natAbs : Nat) : Int) = b by omega]
              omega
            exact Int.ofNat.inj this
          rw [e1, Nat.gcd_comm a.natAbs b.natAbs, Nat.gcd_rec b.natAbs a.natAbs, Nat.gcd_comm]
        · simp only [atI_c0, atI_c1, atI_c2, atI_c3, nc0, nc1, nc2, nc3, nc4, nc5, nc6, nc7, nc8, nc9, setG_v, ksv_ok, kso_ok, ksi_ok, ksx_ok, ksy_ok, items_kit, kit_lst, kit_con, idxG_refE, kix_some, idxG_tupE, ofI_some, lenG_refE, klen_some, defF1, defF2, defF3, defF4, defF5, seqS_ap, kseq_nx, kseq_rt, kseq_bk, kseq_ct, kseq_exc, kseq_bad, nxS_ap, bkS_ap, ctS_ap, raiseS_ap, retN_ap, op1_ap, k1_ok, op2_ap, k2a_ok, k2b_ok, opN_ap, kN_ok, nilA_ap, consA_ap, kca_ok, kcb_ok, varE_ap, pick_ok, cstE_ap, asgS_ap, kasg_ok, kasg_exc, retS_ap, kret_ok, kret_exc, dropS_ap, kdrop_ok, kdrop_exc, ifS_ap, kif_t, kif_f, ifE_ap, kife_t, kife_f, valT_ap, kval_ok, notT_ap, knot_ok, andT_ap, kand_t, kand_f, orT_ap, kor_t, kor_f, andV_ap, kandv_t, kandv_f, orV_ap, korv_t, korv_f, notV_ap, knotv_ok, callE_ap, kcall_ok, parS_ap, kpar_ok, asgG_ap, forS_ap, kfor_ok, srcE_ap, ksrc_tup, ksrc_str, finF_nx, finF_rt, finF_exc, startE, lft_some, List.length_cons, List.length_nil, List.map_cons, List.map_nil, List.getElem?_cons_succ, List.getElem?_cons_zero, List.set_cons_zero, List.set_cons_succ, List.cons_append, List.nil_append, List.replicate_succ, List.replicate_zero, Nat.reduceAdd, Nat.reduceSub, Nat.sub_self, Nat.zero_add, eqG_int, neG_int, ltG_int, gtG_int, leG_int, geG_int, addG_int, subG_int, negG_int, absG_int, intG_int, gcdG_int, lenG_tup, tupD0, tupD1, tupD2, tupD3, tupD4, lstD0, lstD1, lstD4, isi_int_int, isi_bool_int, isi_tup_tup, decide_true, decide_false, Bool.not_true, Bool.not_false, beq_self_eq_true, Int.reduceBEq, Int.reduceLT, Int.reduceLE, Int.reduceNeg, e0]
        · simp only [atI_c0, atI_c1, atI_c2, atI_c3, nc0, nc1, nc2, nc3, nc4, nc5, nc6, nc7, nc8, nc9, setG_v, ksv_ok, kso_ok, ksi_ok, ksx_ok, ksy_ok, items_kit, kit_lst, kit_con, idxG_refE, kix_some, idxG_tupE, ofI_some, lenG_refE, klen_some, defF1, defF2, defF3, defF4, defF5, seqS_ap, kseq_nx, kseq_rt, kseq_bk, kseq_ct, kseq_exc, kseq_bad, nxS_ap, bkS_ap, ctS_ap, raiseS_ap, retN_ap, op1_ap, k1_ok, op2_ap, k2a_ok, k2b_ok, opN_ap, kN_ok, nilA_ap, consA_ap, kca_ok, kcb_ok, varE_ap, pick_ok, cstE_ap, asgS_ap, kasg_ok, kasg_exc, retS_ap, kret_ok, kret_exc, dropS_ap, kdrop_ok, kdrop_exc, ifS_ap, kif_t, kif_f, ifE_ap, kife_t, kife_f, valT_ap, kval_ok, notT_ap, knot_ok, andT_ap, kand_t, kand_f, orT_ap, kor_t, kor_f, andV_ap, kandv_t, kandv_f, orV_ap, korv_t, korv_f, notV_ap, knotv_ok, callE_ap, kcall_ok, parS_ap, kpar_ok, asgG_ap, forS_ap, kfor_ok, srcE_ap, ksrc_tup, ksrc_str, finF_nx, finF_rt, finF_exc, startE, lft_some, List.length_cons, List.length_nil, List.map_cons, List.map_nil, List.getElem?_cons_succ, List.getElem?_cons_zero, List.set_cons_zero, List.set_cons_succ, List.cons_append, List.nil_append, List.replicate_succ, List.replicate_zero, Nat.reduceAdd, Nat.reduceSub, Nat.sub_self, Nat.zero_add, eqG_int, neG_int, ltG_int, gtG_int, leG_int, geG_int, addG_int, subG_int, negG_int, absG_int, intG_int, gcdG_int, lenG_tup, tupD0, tupD1, tupD2, tupD3, tupD4, lstD0, lstD1, lstD4, isi_int_int, isi_bool_int, isi_tup_tup, decide_true, decide_false, Bool.not_true, Bool.not_false, beq_self_eq_true, Int.reduceBEq, Int.reduceLT, Int.reduceLE, Int.reduceNeg, modG_pos hp]
theorem gcd_eq {a b : Int} (m : Mem) (ha : 0 ≤ a) (hb : 0 ≤ b) : f__law_gcd [.int a, .int b] m = .ok (.int ((Nat.gcd a.natAbs b.natAbs : Nat) : Int)) m := by
  obtain ⟨g, eg, h⟩ := gcd_loop m b.toNat a b ha hb (Nat.le_refl _)
  unfold f__law_gcd
  have hg : ¬ g < 0 := by omega
  simp only [atI_c0, atI_c1, atI_c2, atI_c3, nc0, nc1, nc2, nc3, nc4, nc5, nc6, nc7, nc8, nc9, setG_v, ksv_ok, kso_ok, ksi_ok, ksx_ok, ksy_ok, items_kit, kit_lst, kit_con, idxG_refE, kix_some, idxG_tupE, ofI_some, lenG_refE, klen_some, defF1, defF2, defF3, defF4, defF5, seqS_ap, kseq_nx, kseq_rt, kseq_bk, kseq_ct, kseq_exc, kseq_bad, nxS_ap, bkS_ap, ctS_ap, raiseS_ap, retN_ap, op1_ap, k1_ok, op2_ap, k2a_ok, k2b_ok, opN_ap, kN_ok, nilA_ap, consA_ap, kca_ok, kcb_ok, varE_ap, pick_ok, cstE_ap, asgS_ap, kasg_ok, kasg_exc, retS_ap, kret_ok, kret_exc, dropS_ap, kdrop_ok, kdrop_exc, ifS_ap, kif_t, kif_f, ifE_ap, kife_t, kife_f, valT_ap, kval_ok, notT_ap, knot_ok, andT_ap, kand_t, kand_f, orT_ap, kor_t, kor_f, andV_ap, kandv_t, kandv_f, orV_ap, korv_t, korv_f, notV_ap, knotv_ok, callE_ap, kcall_ok, parS_ap, kpar_ok, asgG_ap, forS_ap, kfor_ok, srcE_ap, ksrc_tup, ksrc_str, finF_nx, finF_rt, finF_exc, startE, lft_some, List.length_cons, List.length_nil, List.map_cons, List.map_nil, List.getElem?_cons_succ, List.getElem?_cons_zero, List.set_cons_zero, List.set_cons_succ, List.cons_append, List.nil_append, List.replicate_succ, List.replicate_zero, Nat.reduceAdd, Nat.reduceSub, Nat.sub_self, Nat.zero_add, eqG_int, neG_int, ltG_int, gtG_int, leG_int, geG_int, addG_int, subG_int, negG_int, absG_int, intG_int, gcdG_int, lenG_tup, tupD0, tupD1, tupD2, tupD3, tupD4, lstD0, lstD1, lstD4, isi_int_int, isi_bool_int, isi_tup_tup, decide_true, decide_false, Bool.not_true, Bool.not_false, beq_self_eq_true, Int.reduceBEq, Int.reduceLT, Int.reduceLE, Int.reduceNeg, h]
  rw [if_neg hg, eg]
theorem f_eq {a b : Int} {k : Nat} (m : Mem) (hb : 0 < b) (hk : b.natAbs < 2 ^ k) (h0 : 0 < k) (h9 : k ≤ 9000) : f__law_f [.int a, .int b] m = Pg.f_fraction [.int a, .int b] m := by
  rw [Pg.fraction_of a b m (by omega) (Pg.dv_log (by omega) hk h0 h9)]
  have hz := Pg.dv_log (n := a) (d := b) (by omega) hk h0 h9
  have hp := Pg.gd_pos (n := a) (d := b) (by omega)
  have e : Pg.dv a b = Pg.gd a b := by unfold Pg.dv; rw [if_neg (by omega)]
  rw [e] at hz ⊢
  have eg : ((Nat.gcd (if a < 0 then -a else a).natAbs b.natAbs : Nat) : Int) = Pg.gd a b := by
    unfold Pg.gd
    congr 2
    split <;> omega
  unfold f__law_f
  have h1 : ¬ b < 0 := by omega
  simp only [atI_c0, atI_c1, atI_c2, atI_c3, nc0, nc1, nc2, nc3, nc4, nc5, nc6, nc7, nc8, nc9, setG_v, ksv_ok, kso_ok, ksi_ok, ksx_ok, ksy_ok, items_kit, kit_lst, kit_con, idxG_refE, kix_some, idxG_tupE, ofI_some, lenG_refE, klen_some, defF1, defF2, defF3, defF4, defF5, seqS_ap, kseq_nx, kseq_rt, kseq_bk, kseq_ct, kseq_exc, kseq_bad, nxS_ap, bkS_ap, ctS_ap, raiseS_ap, retN_ap, op1_ap, k1_ok, op2_ap, k2a_ok, k2b_ok, opN_ap, kN_ok, nilA_ap, consA_ap, kca_ok, kcb_ok, varE_ap, pick_ok, cstE_ap, asgS_ap, kasg_ok, kasg_exc, retS_ap, kret_ok, kret_exc, dropS_ap, kdrop_ok, kdrop_exc, ifS_ap, kif_t, kif_f, ifE_ap, kife_t, kife_f, valT_ap, kval_ok, notT_ap, knot_ok, andT_ap, kand_t, kand_f, orT_ap, kor_t, kor_f, andV_ap, kandv_t, kandv_f, orV_ap, korv_t, korv_f, notV_ap, knotv_ok, callE_ap, kcall_ok, parS_ap, kpar_ok, asgG_ap, forS_ap, kfor_ok, srcE_ap, ksrc_tup, ksrc_str, finF_nx, finF_rt, finF_exc, startE, lft_some, List.length_cons, List.length_nil, List.map_cons, List.map_nil, List.getElem?_cons_succ, List.getElem?_cons_zero, List.set_cons_zero, List.set_cons_succ, List.cons_append, List.nil_append, List.replicate_succ, List.replicate_zero, Nat.reduceAdd, Nat.reduceSub, Nat.sub_self, Nat.zero_add, eqG_int, neG_int, ltG_int, gtG_int, leG_int, geG_int, addG_int, subG_int, negG_int, absG_int, intG_int, gcdG_int, lenG_tup, tupD0, tupD1, tupD2, tupD3, tupD4, lstD0, lstD1, lstD4, isi_int_int, isi_bool_int, isi_tup_tup, decide_true, decide_false, Bool.not_true, Bool.not_false, beq_self_eq_true, Int.reduceBEq, Int.reduceLT, Int.reduceLE, Int.reduceNeg, decide_eq_false h1, gcd_eq m (show 0 ≤ (if a < 0 then -a else a) by split <;> omega) (show 0 ≤ b by omega), eg, fdivG_of (show Pg.gd a b ≠ 0 by omega) hz]
theorem plus_eq {a b c d : Int} {k l : Nat} (m : Mem) (ha : a.natAbs < 2 ^ k) (hb : b.natAbs < 2 ^ k) (hc : c.natAbs < 2 ^ l) (hd : d.natAbs < 2 ^ l) (hk : 0 < k) (hl : 0 < l) (h : k + l ≤ 9000) (b0 : 0 < b) (d0 : 0 < d) :
    f__law_plus [frD (a, b), frD (c, d)] m = Pg.f_plus [frD (a, b), frD (c, d)] m := by
  rw [Pg.plus_eq m ha hb hc hd hk hl (by omega)]
  have hbd : (b * d).natAbs < 2 ^ (k + l) := wide_lt hb hd
  rw [← f_eq m (Int.mul_pos b0 d0) hbd (by omega) h]
  unfold f__law_plus frD
  simp only [atI_c0, atI_c1, atI_c2, atI_c3, nc0, nc1, nc2, nc3, nc4, nc5, nc6, nc7, nc8, nc9, setG_v, ksv_ok, kso_ok, ksi_ok, ksx_ok, ksy_ok, items_kit, kit_lst, kit_con, idxG_refE, kix_some, idxG_tupE, ofI_some, lenG_refE, klen_some, defF1, defF2, defF3, defF4, defF5, seqS_ap, kseq_nx, kseq_rt, kseq_bk, kseq_ct, kseq_exc, kseq_bad, nxS_ap, bkS_ap, ctS_ap, raiseS_ap, retN_ap, op1_ap, k1_ok, op2_ap, k2a_ok, k2b_ok, opN_ap, kN_ok, nilA_ap, consA_ap, kca_ok, kcb_ok, varE_ap, pick_ok, cstE_ap, asgS_ap, kasg_ok, kasg_exc, retS_ap, kret_ok, kret_exc, dropS_ap, kdrop_ok, kdrop_exc, ifS_ap, kif_t, kif_f, ifE_ap, kife_t, kife_f, valT_ap, kval_ok, notT_ap, knot_ok, andT_ap, kand_t, kand_f, orT_ap, kor_t, kor_f, andV_ap, kandv_t, kandv_f, orV_ap, korv_t, korv_f, notV_ap, knotv_ok, callE_ap, kcall_ok, parS_ap, kpar_ok, asgG_ap, forS_ap, kfor_ok, srcE_ap, ksrc_tup, ksrc_str, finF_nx, finF_rt, finF_exc, startE, lft_some, List.length_cons, List.length_nil, List.map_cons, List.map_nil, List.getElem?_cons_succ, List.getElem?_cons_zero, List.set_cons_zero, List.set_cons_succ, List.cons_append, List.nil_append, List.replicate_succ, List.replicate_zero, Nat.reduceAdd, Nat.reduceSub, Nat.sub_self, Nat.zero_add, eqG_int, neG_int, ltG_int, gtG_int, leG_int, geG_int, addG_int, subG_int, negG_int, absG_int, intG_int, gcdG_int, lenG_tup, tupD0, tupD1, tupD2, tupD3, tupD4, lstD0, lstD1, lstD4, isi_int_int, isi_bool_int, isi_tup_tup, decide_true, decide_false, Bool.not_true, Bool.not_false, beq_self_eq_true, Int.reduceBEq, Int.reduceLT, Int.reduceLE, Int.reduceNeg, idxG_tup at0, idxG_tup at1, mulG_int (mul_bound ha hd hk hl (by omega)), mulG_int (mul_bound hc hb hl hk (by omega)), mulG_int (mul_bound hb hd hk hl (by omega))]
  cases f__law_f [.int (a * d + c * b), .int (b * d)] m <;> rfl
theorem less_eq {a b c d : Int} {k l : Nat} (m : Mem) (ha : a.natAbs < 2 ^ k) (hb : b.natAbs < 2 ^ k) (hc : c.natAbs < 2 ^ l) (hd : d.natAbs < 2 ^ l) (hk : 0 < k) (hl : 0 < l) (h : k + l ≤ 1000000) :
    f__law_less [frD (a, b), frD (c, d)] m = .ok (.bl (decide (a * d < c * b))) m := by
  unfold f__law_less frD
  simp only [atI_c0, atI_c1, atI_c2, atI_c3, nc0, nc1, nc2, nc3, nc4, nc5, nc6, nc7, nc8, nc9, setG_v, ksv_ok, kso_ok, ksi_ok, ksx_ok, ksy_ok, items_kit, kit_lst, kit_con, idxG_refE, kix_some, idxG_tupE, ofI_some, lenG_refE, klen_some, defF1, defF2, defF3, defF4, defF5, seqS_ap, kseq_nx, kseq_rt, kseq_bk, kseq_ct, kseq_exc, kseq_bad, nxS_ap, bkS_ap, ctS_ap, raiseS_ap, retN_ap, op1_ap, k1_ok, op2_ap, k2a_ok, k2b_ok, opN_ap, kN_ok, nilA_ap, consA_ap, kca_ok, kcb_ok, varE_ap, pick_ok, cstE_ap, asgS_ap, kasg_ok, kasg_exc, retS_ap, kret_ok, kret_exc, dropS_ap, kdrop_ok, kdrop_exc, ifS_ap, kif_t, kif_f, ifE_ap, kife_t, kife_f, valT_ap, kval_ok, notT_ap, knot_ok, andT_ap, kand_t, kand_f, orT_ap, kor_t, kor_f, andV_ap, kandv_t, kandv_f, orV_ap, korv_t, korv_f, notV_ap, knotv_ok, callE_ap, kcall_ok, parS_ap, kpar_ok, asgG_ap, forS_ap, kfor_ok, srcE_ap, ksrc_tup, ksrc_str, finF_nx, finF_rt, finF_exc, startE, lft_some, List.length_cons, List.length_nil, List.map_cons, List.map_nil, List.getElem?_cons_succ, List.getElem?_cons_zero, List.set_cons_zero, List.set_cons_succ, List.cons_append, List.nil_append, List.replicate_succ, List.replicate_zero, Nat.reduceAdd, Nat.reduceSub, Nat.sub_self, Nat.zero_add, eqG_int, neG_int, ltG_int, gtG_int, leG_int, geG_int, addG_int, subG_int, negG_int, absG_int, intG_int, gcdG_int, lenG_tup, tupD0, tupD1, tupD2, tupD3, tupD4, lstD0, lstD1, lstD4, isi_int_int, isi_bool_int, isi_tup_tup, decide_true, decide_false, Bool.not_true, Bool.not_false, beq_self_eq_true, Int.reduceBEq, Int.reduceLT, Int.reduceLE, Int.reduceNeg, idxG_tup at0, idxG_tup at1, mulG_int (mul_bound ha hd hk hl h), mulG_int (mul_bound hc hb hl hk (by omega))]
theorem int_eq (i : Int) (m : Mem) : f__law_int [.int i] m = .ok (.bl true) m := by
  unfold f__law_int
  simp only [atI_c0, atI_c1, atI_c2, atI_c3, nc0, nc1, nc2, nc3, nc4, nc5, nc6, nc7, nc8, nc9, setG_v, ksv_ok, kso_ok, ksi_ok, ksx_ok, ksy_ok, items_kit, kit_lst, kit_con, idxG_refE, kix_some, idxG_tupE, ofI_some, lenG_refE, klen_some, defF1, defF2, defF3, defF4, defF5, seqS_ap, kseq_nx, kseq_rt, kseq_bk, kseq_ct, kseq_exc, kseq_bad, nxS_ap, bkS_ap, ctS_ap, raiseS_ap, retN_ap, op1_ap, k1_ok, op2_ap, k2a_ok, k2b_ok, opN_ap, kN_ok, nilA_ap, consA_ap, kca_ok, kcb_ok, varE_ap, pick_ok, cstE_ap, asgS_ap, kasg_ok, kasg_exc, retS_ap, kret_ok, kret_exc, dropS_ap, kdrop_ok, kdrop_exc, ifS_ap, kif_t, kif_f, ifE_ap, kife_t, kife_f, valT_ap, kval_ok, notT_ap, knot_ok, andT_ap, kand_t, kand_f, orT_ap, kor_t, kor_f, andV_ap, kandv_t, kandv_f, orV_ap, korv_t, korv_f, notV_ap, knotv_ok, callE_ap, kcall_ok, parS_ap, kpar_ok, asgG_ap, forS_ap, kfor_ok, srcE_ap, ksrc_tup, ksrc_str, finF_nx, finF_rt, finF_exc, startE, lft_some, List.length_cons, List.length_nil, List.map_cons, List.map_nil, List.getElem?_cons_succ, List.getElem?_cons_zero, List.set_cons_zero, List.set_cons_succ, List.cons_append, List.nil_append, List.replicate_succ, List.replicate_zero, Nat.reduceAdd, Nat.reduceSub, Nat.sub_self, Nat.zero_add, eqG_int, neG_int, ltG_int, gtG_int, leG_int, geG_int, addG_int, subG_int, negG_int, absG_int, intG_int, gcdG_int, lenG_tup, tupD0, tupD1, tupD2, tupD3, tupD4, lstD0, lstD1, lstD4, isi_int_int, isi_bool_int, isi_tup_tup, decide_true, decide_false, Bool.not_true, Bool.not_false, beq_self_eq_true, Int.reduceBEq, Int.reduceLT, Int.reduceLE, Int.reduceNeg]

/-! ## the drawer -/
/-- at k stands a drawer -/
def Drw (m : Mem) (k : Nat) : Prop := ∃ (j : Nat) (ns : List Int) (p c s : Int), m[k]? = some (.lst [.ref j, .int p, .int c, .int s]) ∧ m[j]? = some (.lst (ns.map .int)) ∧ j < k ∧ 0 ≤ p ∧ 0 ≤ c ∧ 0 ≤ s ∧ s < 2147483647
/-- all but what stands at k is as it was -/
def But (k : Nat) (m m' : Mem) : Prop := ∃ o, m' = m.set k o
theorem But.get {k : Nat} {m m' : Mem} (h : But k m m') {i : Nat} (hi : i ≠ k) : m'[i]? = m[i]? := by
  obtain ⟨o, rfl⟩ := h
  exact List.getElem?_set_ne (Ne.symm hi)
theorem But.len {k : Nat} {m m' : Mem} (h : But k m m') : m'.length = m.length := by
  obtain ⟨o, rfl⟩ := h
  simp
theorem But.trans {k : Nat} {m m1 m2 : Mem} (a : But k m m1) (b : But k m1 m2) : But k m m2 := by
  obtain ⟨o, rfl⟩ := a
  obtain ⟨u, rfl⟩ := b
  exact ⟨u, by simp⟩
theorem But.refl {k : Nat} {m : Mem} (h : ∃ o, m[k]? = some o) : But k m m := by
  obtain ⟨o, h⟩ := h
  refine ⟨o, ?_⟩
  obtain ⟨hl, e⟩ := List.getElem?_eq_some_iff.mp h
  rw [← e, List.set_getElem_self]
theorem Drw.at {m : Mem} {k : Nat} (h : Drw m k) : ∃ o, m[k]? = some o := by
  obtain ⟨j, ns, p, c, s, h1, _⟩ := h
  exact ⟨_, h1⟩
/-- what grows leaves the drawer -/
theorem Drw.app {m : Mem} {k : Nat} (h : Drw m k) (g : Mem) : Drw (m ++ g) k := by
  obtain ⟨j, ns, p, c, s, h1, h2, h3⟩ := h
  refine ⟨j, ns, p, c, s, ?_, ?_, h3⟩
  · rw [List.getElem?_append_left (List.getElem?_eq_some_iff.mp h1).1]; exact h1
  · rw [List.getElem?_append_left (List.getElem?_eq_some_iff.mp h2).1]; exact h2
theorem Drw.set {m : Mem} {k : Nat} (h : Drw m k) {i : Nat} (hi : k < i) (o : MO) : Drw (m.set i o) k := by
  obtain ⟨j, ns, p, c, s, h1, h2, h3, h4⟩ := h
  refine ⟨j, ns, p, c, s, ?_, ?_, h3, h4⟩
  · rw [List.getElem?_set_ne (by omega)]; exact h1
  · rw [List.getElem?_set_ne (by omega)]; exact h2
theorem q0 {a b c d : D} : atI [a, b, c, d] 0 = some a := rfl
theorem q1 {a b c d : D} : atI [a, b, c, d] 1 = some b := rfl
theorem q2 {a b c d : D} : atI [a, b, c, d] 2 = some c := rfl
theorem q3 {a b c d : D} : atI [a, b, c, d] 3 = some d := rfl
theorem x1 : ixN 4 1 = some 1 := rfl
theorem x2 : ixN 4 2 = some 2 := rfl
theorem x3 : ixN 4 3 = some 3 := rfl
theorem log_small {x : Int} (h0 : 0 ≤ x) (h : x < 2147483648) : x.natAbs.log2 < 31 := log_of (k := 31) (by omega) (by omega)
theorem take_eq {m : Mem} {k : Nat} (h : Drw m k) {n : Int} (hn : 0 < n) (hn2 : n.natAbs.log2 < 9000) : ∃ r m', f__law_take [.ref k, .int n] m = .ok (.int r) m' ∧ 0 ≤ r ∧ r < n ∧ Drw m' k ∧ But k m m' := by
  obtain ⟨j, ns, p, c, s, h1, h2, h3, hp, hc, hs, hs2⟩ := h
  have hl : k < m.length := (List.getElem?_eq_some_iff.mp h1).1
  have hj : ∀ o, (m.set k o)[j]? = some (.lst (ns.map .int)) := fun o => by rw [List.getElem?_set_ne (by omega)]; exact h2
  have hk : ∀ o, (m.set k o)[k]? = some o := fun o => List.getElem?_set_self hl
  have r0 : ∀ x : Int, 0 ≤ x % n ∧ x % n < n := fun x => ⟨Int.emod_nonneg x (by omega), Int.emod_lt_of_pos x hn⟩
  have r1 : ∀ x : Int, 0 ≤ x → 0 ≤ x / n := fun x hx => Int.ediv_nonneg hx (by omega)
  have dw : ∀ p c s : Int, 0 ≤ p → 0 ≤ c → 0 ≤ s → s < 2147483647 → Drw (m.set k (.lst [.ref j, .int p, .int c, .int s])) k := fun p c s a b d e => ⟨j, ns, p, c, s, hk _, hj _, h3, a, b, d, e⟩
  have pw : powG (.int 10) (.int 18) m = some (.int 1000000000000000000, m) := rfl
  have pw2 : ∀ o, powG (.int 10) (.int 18) (m.set k o) = some (.int 1000000000000000000, m.set k o) := fun o => rfl
  unfold f__law_take
  by_cases hA : c = 0 ∧ p < ns.length
  · obtain ⟨hc0, hpl⟩ := hA
    subst hc0
    obtain ⟨z, hz⟩ : ∃ z, ns[p.toNat]? = some z := ⟨_, List.getElem?_eq_getElem (by omega)⟩
    have ez : atI (ns.map D.int) p = some (.int z) := atI_of hp (by rw [List.getElem?_map, hz]; rfl)
    generalize hx : (if z < 0 then -z else z) = x
    have hx0 : 0 ≤ x := by rw [← hx]; split <;> omega
    by_cases hb : x < 1000000000000000000
    · refine ⟨x % n, m.set k (.lst [.ref j, .int (p + 1), .int 0, .int s]), ?_, (r0 x).1, (r0 x).2, dw _ _ _ (by omega) (by omega) hs hs2, ⟨_, rfl⟩⟩
      simp only [atI_c0, atI_c1, atI_c2, atI_c3, nc0, nc1, nc2, nc3, nc4, nc5, nc6, nc7, nc8, nc9, setG_v, ksv_ok, kso_ok, ksi_ok, ksx_ok, ksy_ok, items_kit, kit_lst, kit_con, idxG_refE, kix_some, idxG_tupE, ofI_some, lenG_refE, klen_some, defF1, defF2, defF3, defF4, defF5, seqS_ap, kseq_nx, kseq_rt, kseq_bk, kseq_ct, kseq_exc, kseq_bad, nxS_ap, bkS_ap, ctS_ap, raiseS_ap, retN_ap, op1_ap, k1_ok, op2_ap, k2a_ok, k2b_ok, opN_ap, kN_ok, nilA_ap, consA_ap, kca_ok, kcb_ok, varE_ap, pick_ok, cstE_ap, asgS_ap, kasg_ok, kasg_exc, retS_ap, kret_ok, kret_exc, dropS_ap, kdrop_ok, kdrop_exc, ifS_ap, kif_t, kif_f, ifE_ap, kife_t, kife_f, valT_ap, kval_ok, notT_ap, knot_ok, andT_ap, kand_t, kand_f, orT_ap, kor_t, kor_f, andV_ap, kandv_t, kandv_f, orV_ap, korv_t, korv_f, notV_ap, knotv_ok, callE_ap, kcall_ok, parS_ap, kpar_ok, asgG_ap, forS_ap, kfor_ok, srcE_ap, ksrc_tup, ksrc_str, finF_nx, finF_rt, finF_exc, startE, lft_some, List.length_cons, List.length_nil, List.map_cons, List.map_nil, List.getElem?_cons_succ, List.getElem?_cons_zero, List.set_cons_zero, List.set_cons_succ, List.cons_append, List.nil_append, List.replicate_succ, List.replicate_zero, Nat.reduceAdd, Nat.reduceSub, Nat.sub_self, Nat.zero_add, eqG_int, neG_int, ltG_int, gtG_int, leG_int, geG_int, addG_int, subG_int, negG_int, absG_int, intG_int, gcdG_int, lenG_tup, tupD0, tupD1, tupD2, tupD3, tupD4, lstD0, lstD1, lstD4, isi_int_int, isi_bool_int, isi_tup_tup, decide_true, decide_false, Bool.not_true, Bool.not_false, beq_self_eq_true, Int.reduceBEq, Int.reduceLT, Int.reduceLE, Int.reduceNeg, h1, h2, hk, hj, q0, q1, q2, q3, x1, x2, x3, List.length_map, decide_eq_true hpl, ez, hx, List.set_set, pw2, decide_eq_true hb, modG_pos hn]
    · refine ⟨x % n, m.set k (.lst [.ref j, .int (p + 1), .int (x / n), .int s]), ?_, (r0 x).1, (r0 x).2, dw _ _ _ (by omega) (r1 x hx0) hs hs2, ⟨_, rfl⟩⟩
      have hgt : decide (0 < x) = true := decide_eq_true (by omega)
      simp only [atI_c0, atI_c1, atI_c2, atI_c3, nc0, nc1, nc2, nc3, nc4, nc5, nc6, nc7, nc8, nc9, setG_v, ksv_ok, kso_ok, ksi_ok, ksx_ok, ksy_ok, items_kit, kit_lst, kit_con, idxG_refE, kix_some, idxG_tupE, ofI_some, lenG_refE, klen_some, defF1, defF2, defF3, defF4, defF5, seqS_ap, kseq_nx, kseq_rt, kseq_bk, kseq_ct, kseq_exc, kseq_bad, nxS_ap, bkS_ap, ctS_ap, raiseS_ap, retN_ap, op1_ap, k1_ok, op2_ap, k2a_ok, k2b_ok, opN_ap, kN_ok, nilA_ap, consA_ap, kca_ok, kcb_ok, varE_ap, pick_ok, cstE_ap, asgS_ap, kasg_ok, kasg_exc, retS_ap, kret_ok, kret_exc, dropS_ap, kdrop_ok, kdrop_exc, ifS_ap, kif_t, kif_f, ifE_ap, kife_t, kife_f, valT_ap, kval_ok, notT_ap, knot_ok, andT_ap, kand_t, kand_f, orT_ap, kor_t, kor_f, andV_ap, kandv_t, kandv_f, orV_ap, korv_t, korv_f, notV_ap, knotv_ok, callE_ap, kcall_ok, parS_ap, kpar_ok, asgG_ap, forS_ap, kfor_ok, srcE_ap, ksrc_tup, ksrc_str, finF_nx, finF_rt, finF_exc, startE, lft_some, List.length_cons, List.length_nil, List.map_cons, List.map_nil, List.getElem?_cons_succ, List.getElem?_cons_zero, List.set_cons_zero, List.set_cons_succ, List.cons_append, List.nil_append, List.replicate_succ, List.replicate_zero, Nat.reduceAdd, Nat.reduceSub, Nat.sub_self, Nat.zero_add, eqG_int, neG_int, ltG_int, gtG_int, leG_int, geG_int, addG_int, subG_int, negG_int, absG_int, intG_int, gcdG_int, lenG_tup, tupD0, tupD1, tupD2, tupD3, tupD4, lstD0, lstD1, lstD4, isi_int_int, isi_bool_int, isi_tup_tup, decide_true, decide_false, Bool.not_true, Bool.not_false, beq_self_eq_true, Int.reduceBEq, Int.reduceLT, Int.reduceLE, Int.reduceNeg, h1, h2, hk, hj, q0, q1, q2, q3, x1, x2, x3, List.length_map, decide_eq_true hpl, ez, hx, List.set_set, pw2, decide_eq_false hb, hgt, modG_pos hn, fdivG_pos hn hn2]
  · have hq : ((c == 0) && decide (p < ns.length)) = false := by
      simp only [Bool.and_eq_false_iff, beq_eq_false_iff_ne, decide_eq_false_iff_not]
      omega
    have pre : ∀ (f g : FS) (r : Mi.Env), kif (kand (.ok (c == 0) m) (valT (op2 (op2 (varE 0) (cstE (.int 1)) idxG) (opN (consA (op2 (varE 0) (cstE (.int 0)) idxG) nilA) lenG) ltG)) [some (.ref k), some (.int n), none, none]) f g r = g r m := by
      intro f g r
      by_cases h0 : c = 0
      · have e0 : (c == 0) = true := by simpa using h0
        have e1 : ¬ p < ns.length := fun z => hA ⟨h0, z⟩
        simp only [atI_c0, atI_c1, atI_c2, atI_c3, nc0, nc1, nc2, nc3, nc4, nc5, nc6, nc7, nc8, nc9, setG_v, ksv_ok, kso_ok, ksi_ok, ksx_ok, ksy_ok, items_kit, kit_lst, kit_con, idxG_refE, kix_some, idxG_tupE, ofI_some, lenG_refE, klen_some, defF1, defF2, defF3, defF4, defF5, seqS_ap, kseq_nx, kseq_rt, kseq_bk, kseq_ct, kseq_exc, kseq_bad, nxS_ap, bkS_ap, ctS_ap, raiseS_ap, retN_ap, op1_ap, k1_ok, op2_ap, k2a_ok, k2b_ok, opN_ap, kN_ok, nilA_ap, consA_ap, kca_ok, kcb_ok, varE_ap, pick_ok, cstE_ap, asgS_ap, kasg_ok, kasg_exc, retS_ap, kret_ok, kret_exc, dropS_ap, kdrop_ok, kdrop_exc, ifS_ap, kif_t, kif_f, ifE_ap, kife_t, kife_f, valT_ap, kval_ok, notT_ap, knot_ok, andT_ap, kand_t, kand_f, orT_ap, kor_t, kor_f, andV_ap, kandv_t, kandv_f, orV_ap, korv_t, korv_f, notV_ap, knotv_ok, callE_ap, kcall_ok, parS_ap, kpar_ok, asgG_ap, forS_ap, kfor_ok, srcE_ap, ksrc_tup, ksrc_str, finF_nx, finF_rt, finF_exc, startE, lft_some, List.length_cons, List.length_nil, List.map_cons, List.map_nil, List.getElem?_cons_succ, List.getElem?_cons_zero, List.set_cons_zero, List.set_cons_succ, List.cons_append, List.nil_append, List.replicate_succ, List.replicate_zero, Nat.reduceAdd, Nat.reduceSub, Nat.sub_self, Nat.zero_add, eqG_int, neG_int, ltG_int, gtG_int, leG_int, geG_int, addG_int, subG_int, negG_int, absG_int, intG_int, gcdG_int, lenG_tup, tupD0, tupD1, tupD2, tupD3, tupD4, lstD0, lstD1, lstD4, isi_int_int, isi_bool_int, isi_tup_tup, decide_true, decide_false, Bool.not_true, Bool.not_false, beq_self_eq_true, Int.reduceBEq, Int.reduceLT, Int.reduceLE, Int.reduceNeg, e0, h1, h2, q0, q1, List.length_map, decide_eq_false e1]
      · have e0 : (c == 0) = false := by simpa using h0
        simp only [atI_c0, atI_c1, atI_c2, atI_c3, nc0, nc1, nc2, nc3, nc4, nc5, nc6, nc7, nc8, nc9, setG_v, ksv_ok, kso_ok, ksi_ok, ksx_ok, ksy_ok, items_kit, kit_lst, kit_con, idxG_refE, kix_some, idxG_tupE, ofI_some, lenG_refE, klen_some, defF1, defF2, defF3, defF4, defF5, seqS_ap, kseq_nx, kseq_rt, kseq_bk, kseq_ct, kseq_exc, kseq_bad, nxS_ap, bkS_ap, ctS_ap, raiseS_ap, retN_ap, op1_ap, k1_ok, op2_ap, k2a_ok, k2b_ok, opN_ap, kN_ok, nilA_ap, consA_ap, kca_ok, kcb_ok, varE_ap, pick_ok, cstE_ap, asgS_ap, kasg_ok, kasg_exc, retS_ap, kret_ok, kret_exc, dropS_ap, kdrop_ok, kdrop_exc, ifS_ap, kif_t, kif_f, ifE_ap, kife_t, kife_f, valT_ap, kval_ok, notT_ap, knot_ok, andT_ap, kand_t, kand_f, orT_ap, kor_t, kor_f, andV_ap, kandv_t, kandv_f, orV_ap, korv_t, korv_f, notV_ap, knotv_ok, callE_ap, kcall_ok, parS_ap, kpar_ok, asgG_ap, forS_ap, kfor_ok, srcE_ap, ksrc_tup, ksrc_str, finF_nx, finF_rt, finF_exc, startE, lft_some, List.length_cons, List.length_nil, List.map_cons, List.map_nil, List.getElem?_cons_succ, List.getElem?_cons_zero, List.set_cons_zero, List.set_cons_succ, List.cons_append, List.nil_append, List.replicate_succ, List.replicate_zero, Nat.reduceAdd, Nat.reduceSub, Nat.sub_self, Nat.zero_add, eqG_int, neG_int, ltG_int, gtG_int, leG_int, geG_int, addG_int, subG_int, negG_int, absG_int, intG_int, gcdG_int, lenG_tup, tupD0, tupD1, tupD2, tupD3, tupD4, lstD0, lstD1, lstD4, isi_int_int, isi_bool_int, isi_tup_tup, decide_true, decide_false, Bool.not_true, Bool.not_false, beq_self_eq_true, Int.reduceBEq, Int.reduceLT, Int.reduceLE, Int.reduceNeg, e0]
    by_cases hc0 : 0 < c
    · refine ⟨c % n, m.set k (.lst [.ref j, .int p, .int (c / n), .int s]), ?_, (r0 c).1, (r0 c).2, dw _ _ _ hp (r1 c hc) hs hs2, ⟨_, rfl⟩⟩
      simp only [atI_c0, atI_c1, atI_c2, atI_c3, nc0, nc1, nc2, nc3, nc4, nc5, nc6, nc7, nc8, nc9, setG_v, ksv_ok, kso_ok, ksi_ok, ksx_ok, ksy_ok, items_kit, kit_lst, kit_con, idxG_refE, kix_some, idxG_tupE, ofI_some, lenG_refE, klen_some, defF1, defF2, defF3, defF4, defF5, seqS_ap, kseq_nx, kseq_rt, kseq_bk, kseq_ct, kseq_exc, kseq_bad, nxS_ap, bkS_ap, ctS_ap, raiseS_ap, retN_ap, op1_ap, k1_ok, op2_ap, k2a_ok, k2b_ok, opN_ap, kN_ok, nilA_ap, consA_ap, kca_ok, kcb_ok, varE_ap, pick_ok, cstE_ap, asgS_ap, kasg_ok, kasg_exc, retS_ap, kret_ok, kret_exc, dropS_ap, kdrop_ok, kdrop_exc, ifS_ap, kif_t, kif_f, ifE_ap, kife_t, kife_f, valT_ap, kval_ok, notT_ap, knot_ok, andT_ap, kand_t, kand_f, orT_ap, kor_t, kor_f, andV_ap, kandv_t, kandv_f, orV_ap, korv_t, korv_f, notV_ap, knotv_ok, callE_ap, kcall_ok, parS_ap, kpar_ok, asgG_ap, forS_ap, kfor_ok, srcE_ap, ksrc_tup, ksrc_str, finF_nx, finF_rt, finF_exc, startE, lft_some, List.length_cons, List.length_nil, List.map_cons, List.map_nil, List.getElem?_cons_succ, List.getElem?_cons_zero, List.set_cons_zero, List.set_cons_succ, List.cons_append, List.nil_append, List.replicate_succ, List.replicate_zero, Nat.reduceAdd, Nat.reduceSub, Nat.sub_self, Nat.zero_add, eqG_int, neG_int, ltG_int, gtG_int, leG_int, geG_int, addG_int, subG_int, negG_int, absG_int, intG_int, gcdG_int, lenG_tup, tupD0, tupD1, tupD2, tupD3, tupD4, lstD0, lstD1, lstD4, isi_int_int, isi_bool_int, isi_tup_tup, decide_true, decide_false, Bool.not_true, Bool.not_false, beq_self_eq_true, Int.reduceBEq, Int.reduceLT, Int.reduceLE, Int.reduceNeg, h1, h2, hk, hj, q0, q1, q2, q3, x1, x2, x3, pre, decide_eq_true hc0, List.set_set, modG_pos hn, fdivG_pos hn hn2]
    · have m0 : 0 ≤ (s * 48271 + 11) % 2147483647 ∧ (s * 48271 + 11) % 2147483647 < 2147483647 := ⟨Int.emod_nonneg _ (by omega), Int.emod_lt_of_pos _ (by omega)⟩
      generalize hs3 : (s * 48271 + 11) % 2147483647 = s3 at m0
      have mm : (s.natAbs.log2 + (48271 : Int).natAbs.log2 < 1000000) := by
        have := log_small hs (by omega)
        have e : (48271 : Int).natAbs.log2 = 15 := by decide +kernel
        omega
      refine ⟨s3 / 3 % n, m.set k (.lst [.ref j, .int p, .int c, .int s3]), ?_, (r0 _).1, (r0 _).2, dw _ _ _ hp hc m0.1 m0.2, ⟨_, rfl⟩⟩
      have l3 : (3 : Int).natAbs.log2 < 9000 := by decide +kernel
      simp only [atI_c0, atI_c1, atI_c2, atI_c3, nc0, nc1, nc2, nc3, nc4, nc5, nc6, nc7, nc8, nc9, setG_v, ksv_ok, kso_ok, ksi_ok, ksx_ok, ksy_ok, items_kit, kit_lst, kit_con, idxG_refE, kix_some, idxG_tupE, ofI_some, lenG_refE, klen_some, defF1, defF2, defF3, defF4, defF5, seqS_ap, kseq_nx, kseq_rt, kseq_bk, kseq_ct, kseq_exc, kseq_bad, nxS_ap, bkS_ap, ctS_ap, raiseS_ap, retN_ap, op1_ap, k1_ok, op2_ap, k2a_ok, k2b_ok, opN_ap, kN_ok, nilA_ap, consA_ap, kca_ok, kcb_ok, varE_ap, pick_ok, cstE_ap, asgS_ap, kasg_ok, kasg_exc, retS_ap, kret_ok, kret_exc, dropS_ap, kdrop_ok, kdrop_exc, ifS_ap, kif_t, kif_f, ifE_ap, kife_t, kife_f, valT_ap, kval_ok, notT_ap, knot_ok, andT_ap, kand_t, kand_f, orT_ap, kor_t, kor_f, andV_ap, kandv_t, kandv_f, orV_ap, korv_t, korv_f, notV_ap, knotv_ok, callE_ap, kcall_ok, parS_ap, kpar_ok, asgG_ap, forS_ap, kfor_ok, srcE_ap, ksrc_tup, ksrc_str, finF_nx, finF_rt, finF_exc, startE, lft_some, List.length_cons, List.length_nil, List.map_cons, List.map_nil, List.getElem?_cons_succ, List.getElem?_cons_zero, List.set_cons_zero, List.set_cons_succ, List.cons_append, List.nil_append, List.replicate_succ, List.replicate_zero, Nat.reduceAdd, Nat.reduceSub, Nat.sub_self, Nat.zero_add, eqG_int, neG_int, ltG_int, gtG_int, leG_int, geG_int, addG_int, subG_int, negG_int, absG_int, intG_int, gcdG_int, lenG_tup, tupD0, tupD1, tupD2, tupD3, tupD4, lstD0, lstD1, lstD4, isi_int_int, isi_bool_int, isi_tup_tup, decide_true, decide_false, Bool.not_true, Bool.not_false, beq_self_eq_true, Int.reduceBEq, Int.reduceLT, Int.reduceLE, Int.reduceNeg, h1, h2, hk, hj, q0, q1, q2, q3, x1, x2, x3, pre, decide_eq_false hc0, List.set_set, mulG_int mm, modG_pos (show (0 : Int) < 2147483647 by decide), hs3, fdivG_pos (show (0 : Int) < 3 by decide) l3, modG_pos hn]
end Lw

end

section
set_option Elab.async false
set_option linter.all false
set_option maxRecDepth 100000
set_option maxHeartbeats 4000000
open PySem PySem.Spec L2 Mi
open PyProof.Rows hiding St
namespace Lw
open Pg (log_of mul_bound)
theorem begin_eq (ns : List Int) : ∃ seed, f__law_begin [.ref 0] [.con (ns.map .int)] = .ok (.ref 2) [.con (ns.map .int), .lst (ns.map .int), .lst [.ref 1, .int 0, .int 0, .int seed]] ∧ 0 ≤ seed ∧ seed < 2147483647 := by
  have hi : itemsOf [MO.con (ns.map D.int)] 0 = some (ns.map D.int) := rfl
  obtain ⟨r', m', e, em, seed, x, er, h0, h1, _⟩ := forL_fix (s := .lst 0 (ns.map .int)) (tg := nameG 2) (b := seqS (asgS 1 (op2 (op2 (op2 (op2 (varE 1) (cstE (.int 69621)) mulG) (op2 (opN (consA (varE 2) nilA) intG) (cstE (.int 2147483629)) modG) addG) (cstE (.int 7)) addG) (cstE (.int 2147483647)) modG)) nxS)
    (fun ds r m => m = [MO.con (ns.map D.int)] ∧ ∃ seed x, r = [some (.ref 0), some (.int seed), x] ∧ 0 ≤ seed ∧ seed < 2147483647 ∧ ∀ d ∈ ds, ∃ z, d = D.int z)
    (fun ds r m h => by rw [h.1]; exact hi)
    (fun d ds r m h => by
      obtain ⟨rfl, seed, x, rfl, h0, h1, hd⟩ := h
      obtain ⟨z, rfl⟩ := hd d List.mem_cons_self
      refine ⟨_, rfl, ?_⟩
      have mm : seed.natAbs.log2 + (69621 : Int).natAbs.log2 < 1000000 := by
        have := log_small h0 (by omega)
        have e : (69621 : Int).natAbs.log2 = 16 := by decide +kernel
        omega
      refine ⟨_, _, .inl ?_, rfl, (seed * 69621 + z % 2147483629 + 7) % 2147483647, some (.int z), rfl, Int.emod_nonneg _ (by omega), Int.emod_lt_of_pos _ (by omega), fun d hd' => hd d (List.mem_cons_of_mem _ hd')⟩
      simp only [atI_c0, atI_c1, atI_c2, atI_c3, nc0, nc1, nc2, nc3, nc4, nc5, nc6, nc7, nc8, nc9, setG_v, ksv_ok, kso_ok, ksi_ok, ksx_ok, ksy_ok, items_kit, kit_lst, kit_con, idxG_refE, kix_some, idxG_tupE, ofI_some, lenG_refE, klen_some, defF1, defF2, defF3, defF4, defF5, seqS_ap, kseq_nx, kseq_rt, kseq_bk, kseq_ct, kseq_exc, kseq_bad, nxS_ap, bkS_ap, ctS_ap, raiseS_ap, retN_ap, op1_ap, k1_ok, op2_ap, k2a_ok, k2b_ok, opN_ap, kN_ok, nilA_ap, consA_ap, kca_ok, kcb_ok, varE_ap, pick_ok, cstE_ap, asgS_ap, kasg_ok, kasg_exc, retS_ap, kret_ok, kret_exc, dropS_ap, kdrop_ok, kdrop_exc, ifS_ap, kif_t, kif_f, ifE_ap, kife_t, kife_f, valT_ap, kval_ok, notT_ap, knot_ok, andT_ap, kand_t, kand_f, orT_ap, kor_t, kor_f, andV_ap, kandv_t, kandv_f, orV_ap, korv_t, korv_f, notV_ap, knotv_ok, callE_ap, kcall_ok, parS_ap, kpar_ok, asgG_ap, forS_ap, kfor_ok, srcE_ap, ksrc_tup, ksrc_str, finF_nx, finF_rt, finF_exc, startE, lft_some, List.length_cons, List.length_nil, List.map_cons, List.map_nil, List.getElem?_cons_succ, List.getElem?_cons_zero, List.set_cons_zero, List.set_cons_succ, List.cons_append, List.nil_append, List.replicate_succ, List.replicate_zero, Nat.reduceAdd, Nat.reduceSub, Nat.sub_self, Nat.zero_add, eqG_int, neG_int, ltG_int, gtG_int, leG_int, geG_int, addG_int, subG_int, negG_int, absG_int, intG_int, gcdG_int, lenG_tup, tupD0, tupD1, tupD2, tupD3, tupD4, lstD0, lstD1, lstD4, isi_int_int, isi_bool_int, isi_tup_tup, decide_true, decide_false, Bool.not_true, Bool.not_false, beq_self_eq_true, Int.reduceBEq, Int.reduceLT, Int.reduceLE, Int.reduceNeg, mulG_int mm, modG_pos (show (0 : Int) < 2147483629 by decide), modG_pos (show (0 : Int) < 2147483647 by decide)])
    (ns.map .int) [some (.ref 0), some (.int 1), none] [MO.con (ns.map D.int)] ⟨rfl, 1, none, rfl, by omega, by omega, fun d hd => by
      obtain ⟨z, _, rfl⟩ := List.mem_map.mp hd
      exact ⟨z, rfl⟩⟩
  subst em er
  refine ⟨seed, ?_, h0, h1⟩
  have lg : listG [.ref 0] [MO.con (ns.map D.int)] = some (.ref 1, [MO.con (ns.map D.int), .lst (ns.map D.int)]) := rfl
  unfold f__law_begin
  simp only [atI_c0, atI_c1, atI_c2, atI_c3, nc0, nc1, nc2, nc3, nc4, nc5, nc6, nc7, nc8, nc9, setG_v, ksv_ok, kso_ok, ksi_ok, ksx_ok, ksy_ok, items_kit, kit_lst, kit_con, idxG_refE, kix_some, idxG_tupE, ofI_some, lenG_refE, klen_some, defF1, defF2, defF3, defF4, defF5, seqS_ap, kseq_nx, kseq_rt, kseq_bk, kseq_ct, kseq_exc, kseq_bad, nxS_ap, bkS_ap, ctS_ap, raiseS_ap, retN_ap, op1_ap, k1_ok, op2_ap, k2a_ok, k2b_ok, opN_ap, kN_ok, nilA_ap, consA_ap, kca_ok, kcb_ok, varE_ap, pick_ok, cstE_ap, asgS_ap, kasg_ok, kasg_exc, retS_ap, kret_ok, kret_exc, dropS_ap, kdrop_ok, kdrop_exc, ifS_ap, kif_t, kif_f, ifE_ap, kife_t, kife_f, valT_ap, kval_ok, notT_ap, knot_ok, andT_ap, kand_t, kand_f, orT_ap, kor_t, kor_f, andV_ap, kandv_t, kandv_f, orV_ap, korv_t, korv_f, notV_ap, knotv_ok, callE_ap, kcall_ok, parS_ap, kpar_ok, asgG_ap, forS_ap, kfor_ok, srcE_ap, ksrc_tup, ksrc_str, finF_nx, finF_rt, finF_exc, startE, lft_some, List.length_cons, List.length_nil, List.map_cons, List.map_nil, List.getElem?_cons_succ, List.getElem?_cons_zero, List.set_cons_zero, List.set_cons_succ, List.cons_append, List.nil_append, List.replicate_succ, List.replicate_zero, Nat.reduceAdd, Nat.reduceSub, Nat.sub_self, Nat.zero_add, eqG_int, neG_int, ltG_int, gtG_int, leG_int, geG_int, addG_int, subG_int, negG_int, absG_int, intG_int, gcdG_int, lenG_tup, tupD0, tupD1, tupD2, tupD3, tupD4, lstD0, lstD1, lstD4, isi_int_int, isi_bool_int, isi_tup_tup, decide_true, decide_false, Bool.not_true, Bool.not_false, beq_self_eq_true, Int.reduceBEq, Int.reduceLT, Int.reduceLE, Int.reduceNeg, ksrc_ref hi, Src.items, e, lg]
theorem begin_drw (ns : List Int) {seed : Int} (h0 : 0 ≤ seed) (h1 : seed < 2147483647) : Drw [.con (ns.map .int), .lst (ns.map .int), .lst [.ref 1, .int 0, .int 0, .int seed]] 2 :=
  ⟨1, ns, 0, 0, seed, rfl, rfl, by omega, by omega, by omega, h0, h1⟩
/-- the law's drawer -/
theorem begin_ok (ns : List Int) : ∃ m, f__law_begin [.ref 0] [.con (ns.map .int)] = .ok (.ref 2) m ∧ m.length = 3 ∧ Drw m 2 := by
  obtain ⟨seed, e, h0, h1⟩ := begin_eq ns
  exact ⟨_, e, rfl, begin_drw ns h0 h1⟩
theorem signed_eq {m : Mem} {k : Nat} (h : Drw m k) {n : Int} (hn : 0 ≤ n) (hn2 : n.natAbs < 2 ^ 8000) : ∃ r m', f__law_signed [.ref k, .int n] m = .ok (.int r) m' ∧ -n ≤ r ∧ r ≤ n ∧ Drw m' k ∧ But k m m' := by
  have l2 : (2 : Int).natAbs.log2 + n.natAbs.log2 < 1000000 := by
    have := log_of (k := 8000) hn2 (by omega)
    have e : (2 : Int).natAbs.log2 = 1 := by decide +kernel
    omega
  have l3 : (2 * n + 1).natAbs.log2 < 9000 := by
    refine log_of (k := 9000) ?_ (by omega)
    have h1 : (2 * n + 1).natAbs = 2 * n.natAbs + 1 := by omega
    have h2 : 2 * n.natAbs + 1 < 2 * 2 ^ 8000 := by omega
    have h3 : 2 * 2 ^ 8000 ≤ 2 ^ 9000 := by rw [← Nat.pow_succ']; exact Nat.pow_le_pow_right (by omega) (by omega)
    omega
  obtain ⟨r, m', e, h0, h1, h2, h3⟩ := take_eq h (n := 2 * n + 1) (by omega) l3
  refine ⟨r - n, m', ?_, by omega, by omega, h2, h3⟩
  unfold f__law_signed
  simp only [atI_c0, atI_c1, atI_c2, atI_c3, nc0, nc1, nc2, nc3, nc4, nc5, nc6, nc7, nc8, nc9, setG_v, ksv_ok, kso_ok, ksi_ok, ksx_ok, ksy_ok, items_kit, kit_lst, kit_con, idxG_refE, kix_some, idxG_tupE, ofI_some, lenG_refE, klen_some, defF1, defF2, defF3, defF4, defF5, seqS_ap, kseq_nx, kseq_rt, kseq_bk, kseq_ct, kseq_exc, kseq_bad, nxS_ap, bkS_ap, ctS_ap, raiseS_ap, retN_ap, op1_ap, k1_ok, op2_ap, k2a_ok, k2b_ok, opN_ap, kN_ok, nilA_ap, consA_ap, kca_ok, kcb_ok, varE_ap, pick_ok, cstE_ap, asgS_ap, kasg_ok, kasg_exc, retS_ap, kret_ok, kret_exc, dropS_ap, kdrop_ok, kdrop_exc, ifS_ap, kif_t, kif_f, ifE_ap, kife_t, kife_f, valT_ap, kval_ok, notT_ap, knot_ok, andT_ap, kand_t, kand_f, orT_ap, kor_t, kor_f, andV_ap, kandv_t, kandv_f, orV_ap, korv_t, korv_f, notV_ap, knotv_ok, callE_ap, kcall_ok, parS_ap, kpar_ok, asgG_ap, forS_ap, kfor_ok, srcE_ap, ksrc_tup, ksrc_str, finF_nx, finF_rt, finF_exc, startE, lft_some, List.length_cons, List.length_nil, List.map_cons, List.map_nil, List.getElem?_cons_succ, List.getElem?_cons_zero, List.set_cons_zero, List.set_cons_succ, List.cons_append, List.nil_append, List.replicate_succ, List.replicate_zero, Nat.reduceAdd, Nat.reduceSub, Nat.sub_self, Nat.zero_add, eqG_int, neG_int, ltG_int, gtG_int, leG_int, geG_int, addG_int, subG_int, negG_int, absG_int, intG_int, gcdG_int, lenG_tup, tupD0, tupD1, tupD2, tupD3, tupD4, lstD0, lstD1, lstD4, isi_int_int, isi_bool_int, isi_tup_tup, decide_true, decide_false, Bool.not_true, Bool.not_false, beq_self_eq_true, Int.reduceBEq, Int.reduceLT, Int.reduceLE, Int.reduceNeg, mulG_int l2, e]
end Lw

end

section
set_option Elab.async false
set_option linter.all false
set_option maxRecDepth 100000
set_option maxHeartbeats 4000000
open PySem PySem.Spec L2 Mi
open PyProof.Rows hiding St
namespace Pg
abbrev signs : PySem.Str := "abcdefghijklmnopqrstuvwxyz0123456789"
abbrev letters : PySem.Str := "abcdefghijklmnopqrstuvwxyz"
/-- a short text -/
structure Sh (z : PySem.Str) : Prop where
  ok : PyData.strOk z = true
  len : z.length ≤ 1000
theorem Sh.sz {z : PySem.Str} (h : Sh z) : z.length ≤ sizeLine := Nat.le_trans h.len (by decide)
def isWord (z : PySem.Str) : Bool := !(z == "") && z.cps.toList.all fun c => decide (c ∈ signs.cps.toList)
def isName (z : PySem.Str) : Bool := isWord z && (decide ((z.length : Int) ≤ 20) && (match z.cps.toList with
  | c :: _ => decide (c ∈ letters.cps.toList)
  | [] => false))
theorem cps_nil {z : PySem.Str} (h : z.cps.toList = []) : z = "" := by
  obtain ⟨⟨l⟩⟩ := z
  cases (show l = [] from h)
  rfl
theorem word_eq {z : PySem.Str} (h : Sh z) (m : Mem) : ∃ m', f_is_word [.str z] m = .ok (.bl (isWord z)) m' ∧ m <+: m' := by
  have hn : neG (.str z) (.str "") m = some (.bl (!(z == "")), m) := neG_str h.ok (by decide +kernel)
  unfold f_is_word isWord
  cases h0 : z == "" with
  | true =>
    rw [h0] at hn
    exact ⟨m, by simp only [atI_c0, atI_c1, atI_c2, atI_c3, nc0, nc1, nc2, nc3, nc4, nc5, nc6, nc7, nc8, nc9, setG_v, ksv_ok, kso_ok, ksi_ok, ksx_ok, ksy_ok, items_kit, kit_lst, kit_con, idxG_refE, kix_some, idxG_tupE, ofI_some, lenG_refE, klen_some, defF1, defF2, defF3, defF4, defF5, seqS_ap, kseq_nx, kseq_rt, kseq_bk, kseq_ct, kseq_exc, kseq_bad, nxS_ap, bkS_ap, ctS_ap, raiseS_ap, retN_ap, op1_ap, k1_ok, op2_ap, k2a_ok, k2b_ok, opN_ap, kN_ok, nilA_ap, consA_ap, kca_ok, kcb_ok, varE_ap, pick_ok, cstE_ap, asgS_ap, kasg_ok, kasg_exc, retS_ap, kret_ok, kret_exc, dropS_ap, kdrop_ok, kdrop_exc, ifS_ap, kif_t, kif_f, ifE_ap, kife_t, kife_f, valT_ap, kval_ok, notT_ap, knot_ok, andT_ap, kand_t, kand_f, orT_ap, kor_t, kor_f, andV_ap, kandv_t, kandv_f, orV_ap, korv_t, korv_f, notV_ap, knotv_ok, callE_ap, kcall_ok, parS_ap, kpar_ok, asgG_ap, forS_ap, kfor_ok, srcE_ap, ksrc_tup, ksrc_str, finF_nx, finF_rt, finF_exc, startE, lft_some, List.length_cons, List.length_nil, List.map_cons, List.map_nil, List.getElem?_cons_succ, List.getElem?_cons_zero, List.set_cons_zero, List.set_cons_succ, List.cons_append, List.nil_append, List.replicate_succ, List.replicate_zero, Nat.reduceAdd, Nat.reduceSub, Nat.sub_self, Nat.zero_add, eqG_int, neG_int, ltG_int, gtG_int, leG_int, geG_int, addG_int, subG_int, negG_int, absG_int, intG_int, gcdG_int, lenG_tup, tupD0, tupD1, tupD2, tupD3, tupD4, lstD0, lstD1, lstD4, isi_int_int, isi_bool_int, isi_tup_tup, decide_true, decide_false, Bool.not_true, Bool.not_false, beq_self_eq_true, Int.reduceBEq, Int.reduceLT, Int.reduceLE, Int.reduceNeg, hn, Bool.false_and], List.prefix_refl _⟩
  | false =>
    rw [h0] at hn
    obtain ⟨m2, e, p, e2⟩ := comp_map (vs := [1]) (fi := srcE (varE 0)) (tg := nameG 1) (f := op2 (varE 1) (cstE (.str "abcdefghijklmnopqrstuvwxyz0123456789")) inG) (r := [some (.str z), none]) (m := m) (m1 := m) (s := .fix (strItems z))
      z.cps.toList (fun c => .str ⟨#[c]⟩) (fun c => .bl (decide (c ∈ signs.cps.toList))) (by simp only [atI_c0, atI_c1, atI_c2, atI_c3, nc0, nc1, nc2, nc3, nc4, nc5, nc6, nc7, nc8, nc9, setG_v, ksv_ok, kso_ok, ksi_ok, ksx_ok, ksy_ok, items_kit, kit_lst, kit_con, idxG_refE, kix_some, idxG_tupE, ofI_some, lenG_refE, klen_some, defF1, defF2, defF3, defF4, defF5, seqS_ap, kseq_nx, kseq_rt, kseq_bk, kseq_ct, kseq_exc, kseq_bad, nxS_ap, bkS_ap, ctS_ap, raiseS_ap, retN_ap, op1_ap, k1_ok, op2_ap, k2a_ok, k2b_ok, opN_ap, kN_ok, nilA_ap, consA_ap, kca_ok, kcb_ok, varE_ap, pick_ok, cstE_ap, asgS_ap, kasg_ok, kasg_exc, retS_ap, kret_ok, kret_exc, dropS_ap, kdrop_ok, kdrop_exc, ifS_ap, kif_t, kif_f, ifE_ap, kife_t, kife_f, valT_ap, kval_ok, notT_ap, knot_ok, andT_ap, kand_t, kand_f, orT_ap, kor_t, kor_f, andV_ap, kandv_t, kandv_f, orV_ap, korv_t, korv_f, notV_ap, knotv_ok, callE_ap, kcall_ok, parS_ap, kpar_ok, asgG_ap, forS_ap, kfor_ok, srcE_ap, ksrc_tup, ksrc_str, finF_nx, finF_rt, finF_exc, startE, lft_some, List.length_cons, List.length_nil, List.map_cons, List.map_nil, List.getElem?_cons_succ, List.getElem?_cons_zero, List.set_cons_zero, List.set_cons_succ, List.cons_append, List.nil_append, List.replicate_succ, List.replicate_zero, Nat.reduceAdd, Nat.reduceSub, Nat.sub_self, Nat.zero_add, eqG_int, neG_int, ltG_int, gtG_int, leG_int, geG_int, addG_int, subG_int, negG_int, absG_int, intG_int, gcdG_int, lenG_tup, tupD0, tupD1, tupD2, tupD3, tupD4, lstD0, lstD1, lstD4, isi_int_int, isi_bool_int, isi_tup_tup, decide_true, decide_false, Bool.not_true, Bool.not_false, beq_self_eq_true, Int.reduceBEq, Int.reduceLT, Int.reduceLE, Int.reduceNeg]) (fun _ _ => trivial) rfl (by have := h.sz; have := h.len; rw [sizeLine_eq]; rw [Array.length_toList]; exact Nat.lt_of_le_of_lt h.len (by decide))
      (fun c _ m' _ => ⟨_, rfl, m', by simp only [atI_c0, atI_c1, atI_c2, atI_c3, nc0, nc1, nc2, nc3, nc4, nc5, nc6, nc7, nc8, nc9, setG_v, ksv_ok, kso_ok, ksi_ok, ksx_ok, ksy_ok, items_kit, kit_lst, kit_con, idxG_refE, kix_some, idxG_tupE, ofI_some, lenG_refE, klen_some, defF1, defF2, defF3, defF4, defF5, seqS_ap, kseq_nx, kseq_rt, kseq_bk, kseq_ct, kseq_exc, kseq_bad, nxS_ap, bkS_ap, ctS_ap, raiseS_ap, retN_ap, op1_ap, k1_ok, op2_ap, k2a_ok, k2b_ok, opN_ap, kN_ok, nilA_ap, consA_ap, kca_ok, kcb_ok, varE_ap, pick_ok, cstE_ap, asgS_ap, kasg_ok, kasg_exc, retS_ap, kret_ok, kret_exc, dropS_ap, kdrop_ok, kdrop_exc, ifS_ap, kif_t, kif_f, ifE_ap, kife_t, kife_f, valT_ap, kval_ok, notT_ap, knot_ok, andT_ap, kand_t, kand_f, orT_ap, kor_t, kor_f, andV_ap, kandv_t, kandv_f, orV_ap, korv_t, korv_f, notV_ap, knotv_ok, callE_ap, kcall_ok, parS_ap, kpar_ok, asgG_ap, forS_ap, kfor_ok, srcE_ap, ksrc_tup, ksrc_str, finF_nx, finF_rt, finF_exc, startE, lft_some, List.length_cons, List.length_nil, List.map_cons, List.map_nil, List.getElem?_cons_succ, List.getElem?_cons_zero, List.set_cons_zero, List.set_cons_succ, List.cons_append, List.nil_append, List.replicate_succ, List.replicate_zero, Nat.reduceAdd, Nat.reduceSub, Nat.sub_self, Nat.zero_add, eqG_int, neG_int, ltG_int, gtG_int, leG_int, geG_int, addG_int, subG_int, negG_int, absG_int, intG_int, gcdG_int, lenG_tup, tupD0, tupD1, tupD2, tupD3, tupD4, lstD0, lstD1, lstD4, isi_int_int, isi_bool_int, isi_tup_tup, decide_true, decide_false, Bool.not_true, Bool.not_false, beq_self_eq_true, Int.reduceBEq, Int.reduceLT, Int.reduceLE, Int.reduceNeg, wipeE, inG_sign], List.prefix_refl _⟩)
    exact ⟨m2, by simp only [atI_c0, atI_c1, atI_c2, atI_c3, nc0, nc1, nc2, nc3, nc4, nc5, nc6, nc7, nc8, nc9, setG_v, ksv_ok, kso_ok, ksi_ok, ksx_ok, ksy_ok, items_kit, kit_lst, kit_con, idxG_refE, kix_some, idxG_tupE, ofI_some, lenG_refE, klen_some, defF1, defF2, defF3, defF4, defF5, seqS_ap, kseq_nx, kseq_rt, kseq_bk, kseq_ct, kseq_exc, kseq_bad, nxS_ap, bkS_ap, ctS_ap, raiseS_ap, retN_ap, op1_ap, k1_ok, op2_ap, k2a_ok, k2b_ok, opN_ap, kN_ok, nilA_ap, consA_ap, kca_ok, kcb_ok, varE_ap, pick_ok, cstE_ap, asgS_ap, kasg_ok, kasg_exc, retS_ap, kret_ok, kret_exc, dropS_ap, kdrop_ok, kdrop_exc, ifS_ap, kif_t, kif_f, ifE_ap, kife_t, kife_f, valT_ap, kval_ok, notT_ap, knot_ok, andT_ap, kand_t, kand_f, orT_ap, kor_t, kor_f, andV_ap, kandv_t, kandv_f, orV_ap, korv_t, korv_f, notV_ap, knotv_ok, callE_ap, kcall_ok, parS_ap, kpar_ok, asgG_ap, forS_ap, kfor_ok, srcE_ap, ksrc_tup, ksrc_str, finF_nx, finF_rt, finF_exc, startE, lft_some, List.length_cons, List.length_nil, List.map_cons, List.map_nil, List.getElem?_cons_succ, List.getElem?_cons_zero, List.set_cons_zero, List.set_cons_succ, List.cons_append, List.nil_append, List.replicate_succ, List.replicate_zero, Nat.reduceAdd, Nat.reduceSub, Nat.sub_self, Nat.zero_add, eqG_int, neG_int, ltG_int, gtG_int, leG_int, geG_int, addG_int, subG_int, negG_int, absG_int, intG_int, gcdG_int, lenG_tup, tupD0, tupD1, tupD2, tupD3, tupD4, lstD0, lstD1, lstD4, isi_int_int, isi_bool_int, isi_tup_tup, decide_true, decide_false, Bool.not_true, Bool.not_false, beq_self_eq_true, Int.reduceBEq, Int.reduceLT, Int.reduceLE, Int.reduceNeg, hn, e, allG_at e2, Bool.true_and], p⟩
theorem name_eq {z : PySem.Str} (h : Sh z) (m : Mem) : ∃ m', f_is_name [.str z] m = .ok (.bl (isName z)) m' ∧ m <+: m' := by
  obtain ⟨m2, e, p⟩ := word_eq h m
  refine ⟨m2, ?_, p⟩
  unfold f_is_name isName
  cases hw : isWord z with
  | false =>
    rw [hw] at e
    simp only [atI_c0, atI_c1, atI_c2, atI_c3, nc0, nc1, nc2, nc3, nc4, nc5, nc6, nc7, nc8, nc9, setG_v, ksv_ok, kso_ok, ksi_ok, ksx_ok, ksy_ok, items_kit, kit_lst, kit_con, idxG_refE, kix_some, idxG_tupE, ofI_some, lenG_refE, klen_some, defF1, defF2, defF3, defF4, defF5, seqS_ap, kseq_nx, kseq_rt, kseq_bk, kseq_ct, kseq_exc, kseq_bad, nxS_ap, bkS_ap, ctS_ap, raiseS_ap, retN_ap, op1_ap, k1_ok, op2_ap, k2a_ok, k2b_ok, opN_ap, kN_ok, nilA_ap, consA_ap, kca_ok, kcb_ok, varE_ap, pick_ok, cstE_ap, asgS_ap, kasg_ok, kasg_exc, retS_ap, kret_ok, kret_exc, dropS_ap, kdrop_ok, kdrop_exc, ifS_ap, kif_t, kif_f, ifE_ap, kife_t, kife_f, valT_ap, kval_ok, notT_ap, knot_ok, andT_ap, kand_t, kand_f, orT_ap, kor_t, kor_f, andV_ap, kandv_t, kandv_f, orV_ap, korv_t, korv_f, notV_ap, knotv_ok, callE_ap, kcall_ok, parS_ap, kpar_ok, asgG_ap, forS_ap, kfor_ok, srcE_ap, ksrc_tup, ksrc_str, finF_nx, finF_rt, finF_exc, startE, lft_some, List.length_cons, List.length_nil, List.map_cons, List.map_nil, List.getElem?_cons_succ, List.getElem?_cons_zero, List.set_cons_zero, List.set_cons_succ, List.cons_append, List.nil_append, List.replicate_succ, List.replicate_zero, Nat.reduceAdd, Nat.reduceSub, Nat.sub_self, Nat.zero_add, eqG_int, neG_int, ltG_int, gtG_int, leG_int, geG_int, addG_int, subG_int, negG_int, absG_int, intG_int, gcdG_int, lenG_tup, tupD0, tupD1, tupD2, tupD3, tupD4, lstD0, lstD1, lstD4, isi_int_int, isi_bool_int, isi_tup_tup, decide_true, decide_false, Bool.not_true, Bool.not_false, beq_self_eq_true, Int.reduceBEq, Int.reduceLT, Int.reduceLE, Int.reduceNeg, isi_str, e, Bool.false_and]
  | true =>
    rw [hw] at e
    cases hl : z.cps.toList with
    | nil =>
      have := cps_nil hl
      subst this
      exact absurd hw (by decide +kernel)
    | cons c l =>
      cases hz : decide ((z.length : Int) ≤ 20) with
      | false => simp only [atI_c0, atI_c1, atI_c2, atI_c3, nc0, nc1, nc2, nc3, nc4, nc5, nc6, nc7, nc8, nc9, setG_v, ksv_ok, kso_ok, ksi_ok, ksx_ok, ksy_ok, items_kit, kit_lst, kit_con, idxG_refE, kix_some, idxG_tupE, ofI_some, lenG_refE, klen_some, defF1, defF2, defF3, defF4, defF5, seqS_ap, kseq_nx, kseq_rt, kseq_bk, kseq_ct, kseq_exc, kseq_bad, nxS_ap, bkS_ap, ctS_ap, raiseS_ap, retN_ap, op1_ap, k1_ok, op2_ap, k2a_ok, k2b_ok, opN_ap, kN_ok, nilA_ap, consA_ap, kca_ok, kcb_ok, varE_ap, pick_ok, cstE_ap, asgS_ap, kasg_ok, kasg_exc, retS_ap, kret_ok, kret_exc, dropS_ap, kdrop_ok, kdrop_exc, ifS_ap, kif_t, kif_f, ifE_ap, kife_t, kife_f, valT_ap, kval_ok, notT_ap, knot_ok, andT_ap, kand_t, kand_f, orT_ap, kor_t, kor_f, andV_ap, kandv_t, kandv_f, orV_ap, korv_t, korv_f, notV_ap, knotv_ok, callE_ap, kcall_ok, parS_ap, kpar_ok, asgG_ap, forS_ap, kfor_ok, srcE_ap, ksrc_tup, ksrc_str, finF_nx, finF_rt, finF_exc, startE, lft_some, List.length_cons, List.length_nil, List.map_cons, List.map_nil, List.getElem?_cons_succ, List.getElem?_cons_zero, List.set_cons_zero, List.set_cons_succ, List.cons_append, List.nil_append, List.replicate_succ, List.replicate_zero, Nat.reduceAdd, Nat.reduceSub, Nat.sub_self, Nat.zero_add, eqG_int, neG_int, ltG_int, gtG_int, leG_int, geG_int, addG_int, subG_int, negG_int, absG_int, intG_int, gcdG_int, lenG_tup, tupD0, tupD1, tupD2, tupD3, tupD4, lstD0, lstD1, lstD4, isi_int_int, isi_bool_int, isi_tup_tup, decide_true, decide_false, Bool.not_true, Bool.not_false, beq_self_eq_true, Int.reduceBEq, Int.reduceLT, Int.reduceLE, Int.reduceNeg, isi_str, e, lenG_str h.sz, hz, Bool.true_and, Bool.false_and]
      | true => simp only [atI_c0, atI_c1, atI_c2, atI_c3, nc0, nc1, nc2, nc3, nc4, nc5, nc6, nc7, nc8, nc9, setG_v, ksv_ok, kso_ok, ksi_ok, ksx_ok, ksy_ok, items_kit, kit_lst, kit_con, idxG_refE, kix_some, idxG_tupE, ofI_some, lenG_refE, klen_some, defF1, defF2, defF3, defF4, defF5, seqS_ap, kseq_nx, kseq_rt, kseq_bk, kseq_ct, kseq_exc, kseq_bad, nxS_ap, bkS_ap, ctS_ap, raiseS_ap, retN_ap, op1_ap, k1_ok, op2_ap, k2a_ok, k2b_ok, opN_ap, kN_ok, nilA_ap, consA_ap, kca_ok, kcb_ok, varE_ap, pick_ok, cstE_ap, asgS_ap, kasg_ok, kasg_exc, retS_ap, kret_ok, kret_exc, dropS_ap, kdrop_ok, kdrop_exc, ifS_ap, kif_t, kif_f, ifE_ap, kife_t, kife_f, valT_ap, kval_ok, notT_ap, knot_ok, andT_ap, kand_t, kand_f, orT_ap, kor_t, kor_f, andV_ap, kandv_t, kandv_f, orV_ap, korv_t, korv_f, notV_ap, knotv_ok, callE_ap, kcall_ok, parS_ap, kpar_ok, asgG_ap, forS_ap, kfor_ok, srcE_ap, ksrc_tup, ksrc_str, finF_nx, finF_rt, finF_exc, startE, lft_some, List.length_cons, List.length_nil, List.map_cons, List.map_nil, List.getElem?_cons_succ, List.getElem?_cons_zero, List.set_cons_zero, List.set_cons_succ, List.cons_append, List.nil_append, List.replicate_succ, List.replicate_zero, Nat.reduceAdd, Nat.reduceSub, Nat.sub_self, Nat.zero_add, eqG_int, neG_int, ltG_int, gtG_int, leG_int, geG_int, addG_int, subG_int, negG_int, absG_int, intG_int, gcdG_int, lenG_tup, tupD0, tupD1, tupD2, tupD3, tupD4, lstD0, lstD1, lstD4, isi_int_int, isi_bool_int, isi_tup_tup, decide_true, decide_false, Bool.not_true, Bool.not_false, beq_self_eq_true, Int.reduceBEq, Int.reduceLT, Int.reduceLE, Int.reduceNeg, isi_str, e, lenG_str h.sz, hz, Bool.true_and, idxG_str0 h.sz hl, inG_sign]
/-! rows -/
abbrev big (n : Int) : Bool := decide ((if n < 0 then -n else n) ≤ 999999999)
def isRow (row : List Int) (c : Int) : Bool := ((row.length : Int) == c) && row.all big
theorem row_eq {row : List Int} {c : Int} (h : row.length ≤ 1000) (m : Mem) : ∃ m', f_is_row [rowD row, .int c] m = .ok (.bl (isRow row c)) m' ∧ m <+: m' := by
  unfold f_is_row isRow rowD
  cases h0 : (row.length : Int) == c with
  | false => exact ⟨m, by simp only [atI_c0, atI_c1, atI_c2, atI_c3, nc0, nc1, nc2, nc3, nc4, nc5, nc6, nc7, nc8, nc9, setG_v, ksv_ok, kso_ok, ksi_ok, ksx_ok, ksy_ok, items_kit, kit_lst, kit_con, idxG_refE, kix_some, idxG_tupE, ofI_some, lenG_refE, klen_some, defF1, defF2, defF3, defF4, defF5, seqS_ap, kseq_nx, kseq_rt, kseq_bk, kseq_ct, kseq_exc, kseq_bad, nxS_ap, bkS_ap, ctS_ap, raiseS_ap, retN_ap, op1_ap, k1_ok, op2_ap, k2a_ok, k2b_ok, opN_ap, kN_ok, nilA_ap, consA_ap, kca_ok, kcb_ok, varE_ap, pick_ok, cstE_ap, asgS_ap, kasg_ok, kasg_exc, retS_ap, kret_ok, kret_exc, dropS_ap, kdrop_ok, kdrop_exc, ifS_ap, kif_t, kif_f, ifE_ap, kife_t, kife_f, valT_ap, kval_ok, notT_ap, knot_ok, andT_ap, kand_t, kand_f, orT_ap, kor_t, kor_f, andV_ap, kandv_t, kandv_f, orV_ap, korv_t, korv_f, notV_ap, knotv_ok, callE_ap, kcall_ok, parS_ap, kpar_ok, asgG_ap, forS_ap, kfor_ok, srcE_ap, ksrc_tup, ksrc_str, finF_nx, finF_rt, finF_exc, startE, lft_some, List.length_cons, List.length_nil, List.map_cons, List.map_nil, List.getElem?_cons_succ, List.getElem?_cons_zero, List.set_cons_zero, List.set_cons_succ, List.cons_append, List.nil_append, List.replicate_succ, List.replicate_zero, Nat.reduceAdd, Nat.reduceSub, Nat.sub_self, Nat.zero_add, eqG_int, neG_int, ltG_int, gtG_int, leG_int, geG_int, addG_int, subG_int, negG_int, absG_int, intG_int, gcdG_int, lenG_tup, tupD0, tupD1, tupD2, tupD3, tupD4, lstD0, lstD1, lstD4, isi_int_int, isi_bool_int, isi_tup_tup, decide_true, decide_false, Bool.not_true, Bool.not_false, beq_self_eq_true, Int.reduceBEq, Int.reduceLT, Int.reduceLE, Int.reduceNeg, List.length_map, h0, Bool.false_and], List.prefix_refl _⟩
  | true =>
    obtain ⟨m2, e, p, e2⟩ := comp_map (vs := [2]) (fi := srcE (varE 0)) (tg := nameG 2) (f := andV (op1 (varE 2) (isiG "int")) (op2 (opN (consA (varE 2) nilA) absG) (cstE (.int 999999999)) leG)) (r := [some (.tup (row.map .int)), some (.int c), none]) (m := m) (m1 := m) (s := .fix (row.map .int))
      row (fun n => .int n) (fun n => .bl (big n)) (by simp only [atI_c0, atI_c1, atI_c2, atI_c3, nc0, nc1, nc2, nc3, nc4, nc5, nc6, nc7, nc8, nc9, setG_v, ksv_ok, kso_ok, ksi_ok, ksx_ok, ksy_ok, items_kit, kit_lst, kit_con, idxG_refE, kix_some, idxG_tupE, ofI_some, lenG_refE, klen_some, defF1, defF2, defF3, defF4, defF5, seqS_ap, kseq_nx, kseq_rt, kseq_bk, kseq_ct, kseq_exc, kseq_bad, nxS_ap, bkS_ap, ctS_ap, raiseS_ap, retN_ap, op1_ap, k1_ok, op2_ap, k2a_ok, k2b_ok, opN_ap, kN_ok, nilA_ap, consA_ap, kca_ok, kcb_ok, varE_ap, pick_ok, cstE_ap, asgS_ap, kasg_ok, kasg_exc, retS_ap, kret_ok, kret_exc, dropS_ap, kdrop_ok, kdrop_exc, ifS_ap, kif_t, kif_f, ifE_ap, kife_t, kife_f, valT_ap, kval_ok, notT_ap, knot_ok, andT_ap, kand_t, kand_f, orT_ap, kor_t, kor_f, andV_ap, kandv_t, kandv_f, orV_ap, korv_t, korv_f, notV_ap, knotv_ok, callE_ap, kcall_ok, parS_ap, kpar_ok, asgG_ap, forS_ap, kfor_ok, srcE_ap, ksrc_tup, ksrc_str, finF_nx, finF_rt, finF_exc, startE, lft_some, List.length_cons, List.length_nil, List.map_cons, List.map_nil, List.getElem?_cons_succ, List.getElem?_cons_zero, List.set_cons_zero, List.set_cons_succ, List.cons_append, List.nil_append, List.replicate_succ, List.replicate_zero, Nat.reduceAdd, Nat.reduceSub, Nat.sub_self, Nat.zero_add, eqG_int, neG_int, ltG_int, gtG_int, leG_int, geG_int, addG_int, subG_int, negG_int, absG_int, intG_int, gcdG_int, lenG_tup, tupD0, tupD1, tupD2, tupD3, tupD4, lstD0, lstD1, lstD4, isi_int_int, isi_bool_int, isi_tup_tup, decide_true, decide_false, Bool.not_true, Bool.not_false, beq_self_eq_true, Int.reduceBEq, Int.reduceLT, Int.reduceLE, Int.reduceNeg]) (fun _ _ => trivial) rfl (Nat.lt_of_le_of_lt h (by decide))
      (fun n _ m' _ => ⟨_, rfl, m', by simp only [atI_c0, atI_c1, atI_c2, atI_c3, nc0, nc1, nc2, nc3, nc4, nc5, nc6, nc7, nc8, nc9, setG_v, ksv_ok, kso_ok, ksi_ok, ksx_ok, ksy_ok, items_kit, kit_lst, kit_con, idxG_refE, kix_some, idxG_tupE, ofI_some, lenG_refE, klen_some, defF1, defF2, defF3, defF4, defF5, seqS_ap, kseq_nx, kseq_rt, kseq_bk, kseq_ct, kseq_exc, kseq_bad, nxS_ap, bkS_ap, ctS_ap, raiseS_ap, retN_ap, op1_ap, k1_ok, op2_ap, k2a_ok, k2b_ok, opN_ap, kN_ok, nilA_ap, consA_ap, kca_ok, kcb_ok, varE_ap, pick_ok, cstE_ap, asgS_ap, kasg_ok, kasg_exc, retS_ap, kret_ok, kret_exc, dropS_ap, kdrop_ok, kdrop_exc, ifS_ap, kif_t, kif_f, ifE_ap, kife_t, kife_f, valT_ap, kval_ok, notT_ap, knot_ok, andT_ap, kand_t, kand_f, orT_ap, kor_t, kor_f, andV_ap, kandv_t, kandv_f, orV_ap, korv_t, korv_f, notV_ap, knotv_ok, callE_ap, kcall_ok, parS_ap, kpar_ok, asgG_ap, forS_ap, kfor_ok, srcE_ap, ksrc_tup, ksrc_str, finF_nx, finF_rt, finF_exc, startE, lft_some, List.length_cons, List.length_nil, List.map_cons, List.map_nil, List.getElem?_cons_succ, List.getElem?_cons_zero, List.set_cons_zero, List.set_cons_succ, List.cons_append, List.nil_append, List.replicate_succ, List.replicate_zero, Nat.reduceAdd, Nat.reduceSub, Nat.sub_self, Nat.zero_add, eqG_int, neG_int, ltG_int, gtG_int, leG_int, geG_int, addG_int, subG_int, negG_int, absG_int, intG_int, gcdG_int, lenG_tup, tupD0, tupD1, tupD2, tupD3, tupD4, lstD0, lstD1, lstD4, isi_int_int, isi_bool_int, isi_tup_tup, decide_true, decide_false, Bool.not_true, Bool.not_false, beq_self_eq_true, Int.reduceBEq, Int.reduceLT, Int.reduceLE, Int.reduceNeg, wipeE], List.prefix_refl _⟩)
    exact ⟨m2, by simp only [atI_c0, atI_c1, atI_c2, atI_c3, nc0, nc1, nc2, nc3, nc4, nc5, nc6, nc7, nc8, nc9, setG_v, ksv_ok, kso_ok, ksi_ok, ksx_ok, ksy_ok, items_kit, kit_lst, kit_con, idxG_refE, kix_some, idxG_tupE, ofI_some, lenG_refE, klen_some, defF1, defF2, defF3, defF4, defF5, seqS_ap, kseq_nx, kseq_rt, kseq_bk, kseq_ct, kseq_exc, kseq_bad, nxS_ap, bkS_ap, ctS_ap, raiseS_ap, retN_ap, op1_ap, k1_ok, op2_ap, k2a_ok, k2b_ok, opN_ap, kN_ok, nilA_ap, consA_ap, kca_ok, kcb_ok, varE_ap, pick_ok, cstE_ap, asgS_ap, kasg_ok, kasg_exc, retS_ap, kret_ok, kret_exc, dropS_ap, kdrop_ok, kdrop_exc, ifS_ap, kif_t, kif_f, ifE_ap, kife_t, kife_f, valT_ap, kval_ok, notT_ap, knot_ok, andT_ap, kand_t, kand_f, orT_ap, kor_t, kor_f, andV_ap, kandv_t, kandv_f, orV_ap, korv_t, korv_f, notV_ap, knotv_ok, callE_ap, kcall_ok, parS_ap, kpar_ok, asgG_ap, forS_ap, kfor_ok, srcE_ap, ksrc_tup, ksrc_str, finF_nx, finF_rt, finF_exc, startE, lft_some, List.length_cons, List.length_nil, List.map_cons, List.map_nil, List.getElem?_cons_succ, List.getElem?_cons_zero, List.set_cons_zero, List.set_cons_succ, List.cons_append, List.nil_append, List.replicate_succ, List.replicate_zero, Nat.reduceAdd, Nat.reduceSub, Nat.sub_self, Nat.zero_add, eqG_int, neG_int, ltG_int, gtG_int, leG_int, geG_int, addG_int, subG_int, negG_int, absG_int, intG_int, gcdG_int, lenG_tup, tupD0, tupD1, tupD2, tupD3, tupD4, lstD0, lstD1, lstD4, isi_int_int, isi_bool_int, isi_tup_tup, decide_true, decide_false, Bool.not_true, Bool.not_false, beq_self_eq_true, Int.reduceBEq, Int.reduceLT, Int.reduceLE, Int.reduceNeg, List.length_map, h0, e, allG_at e2, Bool.true_and], p⟩
/-! what ascends -/
def asc {α : Type} (lt : α → α → Bool) (xs : List α) : Bool := (xs.zip xs.tail).all fun p => lt p.1 p.2
theorem zipD_tail {α : Type} (enc : α → D) (xs : List α) : zipD (xs.map enc) (cutD (xs.map enc) (some 1) none) = (xs.zip xs.tail).map fun p => .tup [enc p.1, enc p.2] := by
  rw [cutD_tail, ← List.map_tail]
  unfold zipD
  rw [List.zipWith_map]
  simp [List.zip, List.map_zipWith]
theorem zip_len {α : Type} (xs : List α) : (xs.zip xs.tail).length ≤ xs.length := by
  rw [List.length_zip]
  omega
theorem asc_tup {α : Type} (lt : α → α → Bool) (enc : α → D) (xs : List α) (hl : xs.length ≤ 1000) (hlt : ∀ a ∈ xs, ∀ b ∈ xs, ∀ m, ltG (enc a) (enc b) m = some (.bl (lt a b), m)) (m : Mem) :
    ∃ m', f_ascends [.tup (xs.map enc)] m = .ok (.bl (asc lt xs)) m' ∧ m <+: m' := by
  unfold f_ascends
  obtain ⟨m2, e, p, e2⟩ := comp_map (vs := [2, 1]) (fi := zipI (consA (varE 0) (consA (sliceE (varE 0) (some (cstE (.int 1))) none) nilA))) (tg := tupG (consG (nameG 2) (consG (nameG 1) nilG))) (f := op2 (varE 2) (varE 1) ltG) (r := [some (.tup (xs.map enc)), none, none]) (m := m) (m1 := m)
    (s := .fix (zipD (xs.map enc) (cutD (xs.map enc) (some 1) none))) (xs.zip xs.tail) (fun p => .tup [enc p.1, enc p.2]) (fun p => .bl (lt p.1 p.2)) rfl (fun _ _ => trivial) (zipD_tail enc xs) (Nat.lt_of_le_of_lt (zip_len xs) (Nat.lt_of_le_of_lt hl (by decide)))
    (fun p hp m' _ => ⟨_, rfl, m', by
      have h1 := List.of_mem_zip (a := p.1) (b := p.2) hp
      simp only [atI_c0, atI_c1, atI_c2, atI_c3, nc0, nc1, nc2, nc3, nc4, nc5, nc6, nc7, nc8, nc9, setG_v, ksv_ok, kso_ok, ksi_ok, ksx_ok, ksy_ok, items_kit, kit_lst, kit_con, idxG_refE, kix_some, idxG_tupE, ofI_some, lenG_refE, klen_some, defF1, defF2, defF3, defF4, defF5, seqS_ap, kseq_nx, kseq_rt, kseq_bk, kseq_ct, kseq_exc, kseq_bad, nxS_ap, bkS_ap, ctS_ap, raiseS_ap, retN_ap, op1_ap, k1_ok, op2_ap, k2a_ok, k2b_ok, opN_ap, kN_ok, nilA_ap, consA_ap, kca_ok, kcb_ok, varE_ap, pick_ok, cstE_ap, asgS_ap, kasg_ok, kasg_exc, retS_ap, kret_ok, kret_exc, dropS_ap, kdrop_ok, kdrop_exc, ifS_ap, kif_t, kif_f, ifE_ap, kife_t, kife_f, valT_ap, kval_ok, notT_ap, knot_ok, andT_ap, kand_t, kand_f, orT_ap, kor_t, kor_f, andV_ap, kandv_t, kandv_f, orV_ap, korv_t, korv_f, notV_ap, knotv_ok, callE_ap, kcall_ok, parS_ap, kpar_ok, asgG_ap, forS_ap, kfor_ok, srcE_ap, ksrc_tup, ksrc_str, finF_nx, finF_rt, finF_exc, startE, lft_some, List.length_cons, List.length_nil, List.map_cons, List.map_nil, List.getElem?_cons_succ, List.getElem?_cons_zero, List.set_cons_zero, List.set_cons_succ, List.cons_append, List.nil_append, List.replicate_succ, List.replicate_zero, Nat.reduceAdd, Nat.reduceSub, Nat.sub_self, Nat.zero_add, eqG_int, neG_int, ltG_int, gtG_int, leG_int, geG_int, addG_int, subG_int, negG_int, absG_int, intG_int, gcdG_int, lenG_tup, tupD0, tupD1, tupD2, tupD3, tupD4, lstD0, lstD1, lstD4, isi_int_int, isi_bool_int, isi_tup_tup, decide_true, decide_false, Bool.not_true, Bool.not_false, beq_self_eq_true, Int.reduceBEq, Int.reduceLT, Int.reduceLE, Int.reduceNeg, wipeE, hlt _ h1.1 _ (List.mem_of_mem_tail h1.2)], List.prefix_refl _⟩)
  exact ⟨m2, by simp only [atI_c0, atI_c1, atI_c2, atI_c3, nc0, nc1, nc2, nc3, nc4, nc5, nc6, nc7, nc8, nc9, setG_v, ksv_ok, kso_ok, ksi_ok, ksx_ok, ksy_ok, items_kit, kit_lst, kit_con, idxG_refE, kix_some, idxG_tupE, ofI_some, lenG_refE, klen_some, defF1, defF2, defF3, defF4, defF5, seqS_ap, kseq_nx, kseq_rt, kseq_bk, kseq_ct, kseq_exc, kseq_bad, nxS_ap, bkS_ap, ctS_ap, raiseS_ap, retN_ap, op1_ap, k1_ok, op2_ap, k2a_ok, k2b_ok, opN_ap, kN_ok, nilA_ap, consA_ap, kca_ok, kcb_ok, varE_ap, pick_ok, cstE_ap, asgS_ap, kasg_ok, kasg_exc, retS_ap, kret_ok, kret_exc, dropS_ap, kdrop_ok, kdrop_exc, ifS_ap, kif_t, kif_f, ifE_ap, kife_t, kife_f, valT_ap, kval_ok, notT_ap, knot_ok, andT_ap, kand_t, kand_f, orT_ap, kor_t, kor_f, andV_ap, kandv_t, kandv_f, orV_ap, korv_t, korv_f, notV_ap, knotv_ok, callE_ap, kcall_ok, parS_ap, kpar_ok, asgG_ap, forS_ap, kfor_ok, srcE_ap, ksrc_tup, ksrc_str, finF_nx, finF_rt, finF_exc, startE, lft_some, List.length_cons, List.length_nil, List.map_cons, List.map_nil, List.getElem?_cons_succ, List.getElem?_cons_zero, List.set_cons_zero, List.set_cons_succ, List.cons_append, List.nil_append, List.replicate_succ, List.replicate_zero, Nat.reduceAdd, Nat.reduceSub, Nat.sub_self, Nat.zero_add, eqG_int, neG_int, ltG_int, gtG_int, leG_int, geG_int, addG_int, subG_int, negG_int, absG_int, intG_int, gcdG_int, lenG_tup, tupD0, tupD1, tupD2, tupD3, tupD4, lstD0, lstD1, lstD4, isi_int_int, isi_bool_int, isi_tup_tup, decide_true, decide_false, Bool.not_true, Bool.not_false, beq_self_eq_true, Int.reduceBEq, Int.reduceLT, Int.reduceLE, Int.reduceNeg, e, allG_at e2, asc], p⟩
theorem asc_ref {α : Type} (lt : α → α → Bool) (enc : α → D) (xs : List α) (hl : xs.length ≤ 1000) (hlt : ∀ a ∈ xs, ∀ b ∈ xs, ∀ m, ltG (enc a) (enc b) m = some (.bl (lt a b), m)) (m : Mem) {k : Nat} (hk : m[k]? = some (.lst (xs.map enc))) :
    ∃ m', f_ascends [.ref k] m = .ok (.bl (asc lt xs)) m' ∧ m <+: m' := by
  unfold f_ascends
  have p0 : m <+: m ++ [.lst (cutD (xs.map enc) (some 1) none)] := List.prefix_append _ _
  have i1 := pre_items p0 (items_lst hk)
  have i2 := items_lst (last_at m (.lst (cutD (xs.map enc) (some 1) none)))
  obtain ⟨m2, e, p, e2⟩ := comp_map (vs := [2, 1]) (fi := zipI (consA (varE 0) (consA (sliceE (varE 0) (some (cstE (.int 1))) none) nilA))) (tg := tupG (consG (nameG 2) (consG (nameG 1) nilG))) (f := op2 (varE 2) (varE 1) ltG) (r := [some (.ref k), none, none]) (m := m) (m1 := m ++ [.lst (cutD (xs.map enc) (some 1) none)])
    (s := .gen (zipD (xs.map enc) (cutD (xs.map enc) (some 1) none)) fun m' => itemsOf m' k = some (xs.map enc) ∧ itemsOf m' m.length = some (cutD (xs.map enc) (some 1) none)) (xs.zip xs.tail) (fun p => .tup [enc p.1, enc p.2]) (fun p => .bl (lt p.1 p.2))
    (by
      have es : sliceE (varE 0) (some (cstE (.int 1))) none [some (.ref k), none, none] m = .ok (.ref m.length) (m ++ [.lst (cutD (xs.map enc) (some 1) none)]) := by
        show lft ((itemsOf m k).map fun ds => (D.ref m.length, m ++ [.lst (cutD ds (some 1) none)])) = _
        rw [items_lst hk]
        rfl
      have ea : consA (varE 0) (consA (sliceE (varE 0) (some (cstE (.int 1))) none) nilA) [some (.ref k), none, none] m = .ok [.ref k, .ref m.length] (m ++ [.lst (cutD (xs.map enc) (some 1) none)]) := by
        simp only [atI_c0, atI_c1, atI_c2, atI_c3, nc0, nc1, nc2, nc3, nc4, nc5, nc6, nc7, nc8, nc9, setG_v, ksv_ok, kso_ok, ksi_ok, ksx_ok, ksy_ok, items_kit, kit_lst, kit_con, idxG_refE, kix_some, idxG_tupE, ofI_some, lenG_refE, klen_some, defF1, defF2, defF3, defF4, defF5, seqS_ap, kseq_nx, kseq_rt, kseq_bk, kseq_ct, kseq_exc, kseq_bad, nxS_ap, bkS_ap, ctS_ap, raiseS_ap, retN_ap, op1_ap, k1_ok, op2_ap, k2a_ok, k2b_ok, opN_ap, kN_ok, nilA_ap, consA_ap, kca_ok, kcb_ok, varE_ap, pick_ok, cstE_ap, asgS_ap, kasg_ok, kasg_exc, retS_ap, kret_ok, kret_exc, dropS_ap, kdrop_ok, kdrop_exc, ifS_ap, kif_t, kif_f, ifE_ap, kife_t, kife_f, valT_ap, kval_ok, notT_ap, knot_ok, andT_ap, kand_t, kand_f, orT_ap, kor_t, kor_f, andV_ap, kandv_t, kandv_f, orV_ap, korv_t, korv_f, notV_ap, knotv_ok, callE_ap, kcall_ok, parS_ap, kpar_ok, asgG_ap, forS_ap, kfor_ok, srcE_ap, ksrc_tup, ksrc_str, finF_nx, finF_rt, finF_exc, startE, lft_some, List.length_cons, List.length_nil, List.map_cons, List.map_nil, List.getElem?_cons_succ, List.getElem?_cons_zero, List.set_cons_zero, List.set_cons_succ, List.cons_append, List.nil_append, List.replicate_succ, List.replicate_zero, Nat.reduceAdd, Nat.reduceSub, Nat.sub_self, Nat.zero_add, eqG_int, neG_int, ltG_int, gtG_int, leG_int, geG_int, addG_int, subG_int, negG_int, absG_int, intG_int, gcdG_int, lenG_tup, tupD0, tupD1, tupD2, tupD3, tupD4, lstD0, lstD1, lstD4, isi_int_int, isi_bool_int, isi_tup_tup, decide_true, decide_false, Bool.not_true, Bool.not_false, beq_self_eq_true, Int.reduceBEq, Int.reduceLT, Int.reduceLE, Int.reduceNeg, es]
      unfold zipI
      rw [ea, bind_ok]
      simp only [i1, i2])
    (fun m' p' => ⟨pre_items p' i1, pre_items p' i2⟩) (zipD_tail enc xs) (Nat.lt_of_le_of_lt (zip_len xs) (Nat.lt_of_le_of_lt hl (by decide)))
    (fun p hp m' _ => ⟨_, rfl, m', by
      have h1 := List.of_mem_zip (a := p.1) (b := p.2) hp
      simp only [atI_c0, atI_c1, atI_c2, atI_c3, nc0, nc1, nc2, nc3, nc4, nc5, nc6, nc7, nc8, nc9, setG_v, ksv_ok, kso_ok, ksi_ok, ksx_ok, ksy_ok, items_kit, kit_lst, kit_con, idxG_refE, kix_some, idxG_tupE, ofI_some, lenG_refE, klen_some, defF1, defF2, defF3, defF4, defF5, seqS_ap, kseq_nx, kseq_rt, kseq_bk, kseq_ct, kseq_exc, kseq_bad, nxS_ap, bkS_ap, ctS_ap, raiseS_ap, retN_ap, op1_ap, k1_ok, op2_ap, k2a_ok, k2b_ok, opN_ap, kN_ok, nilA_ap, consA_ap, kca_ok, kcb_ok, varE_ap, pick_ok, cstE_ap, asgS_ap, kasg_ok, kasg_exc, retS_ap, kret_ok, kret_exc, dropS_ap, kdrop_ok, kdrop_exc, ifS_ap, kif_t, kif_f, ifE_ap, kife_t, kife_f, valT_ap, kval_ok, notT_ap, knot_ok, andT_ap, kand_t, kand_f, orT_ap, kor_t, kor_f, andV_ap, kandv_t, kandv_f, orV_ap, korv_t, korv_f, notV_ap, knotv_ok, callE_ap, kcall_ok, parS_ap, kpar_ok, asgG_ap, forS_ap, kfor_ok, srcE_ap, ksrc_tup, ksrc_str, finF_nx, finF_rt, finF_exc, startE, lft_some, List.length_cons, List.length_nil, List.map_cons, List.map_nil, List.getElem?_cons_succ, List.getElem?_cons_zero, List.set_cons_zero, List.set_cons_succ, List.cons_append, List.nil_append, List.replicate_succ, List.replicate_zero, Nat.reduceAdd, Nat.reduceSub, Nat.sub_self, Nat.zero_add, eqG_int, neG_int, ltG_int, gtG_int, leG_int, geG_int, addG_int, subG_int, negG_int, absG_int, intG_int, gcdG_int, lenG_tup, tupD0, tupD1, tupD2, tupD3, tupD4, lstD0, lstD1, lstD4, isi_int_int, isi_bool_int, isi_tup_tup, decide_true, decide_false, Bool.not_true, Bool.not_false, beq_self_eq_true, Int.reduceBEq, Int.reduceLT, Int.reduceLE, Int.reduceNeg, wipeE, hlt _ h1.1 _ (List.mem_of_mem_tail h1.2)], List.prefix_refl _⟩)
  exact ⟨m2, by simp only [atI_c0, atI_c1, atI_c2, atI_c3, nc0, nc1, nc2, nc3, nc4, nc5, nc6, nc7, nc8, nc9, setG_v, ksv_ok, kso_ok, ksi_ok, ksx_ok, ksy_ok, items_kit, kit_lst, kit_con, idxG_refE, kix_some, idxG_tupE, ofI_some, lenG_refE, klen_some, defF1, defF2, defF3, defF4, defF5, seqS_ap, kseq_nx, kseq_rt, kseq_bk, kseq_ct, kseq_exc, kseq_bad, nxS_ap, bkS_ap, ctS_ap, raiseS_ap, retN_ap, op1_ap, k1_ok, op2_ap, k2a_ok, k2b_ok, opN_ap, kN_ok, nilA_ap, consA_ap, kca_ok, kcb_ok, varE_ap, pick_ok, cstE_ap, asgS_ap, kasg_ok, kasg_exc, retS_ap, kret_ok, kret_exc, dropS_ap, kdrop_ok, kdrop_exc, ifS_ap, kif_t, kif_f, ifE_ap, kife_t, kife_f, valT_ap, kval_ok, notT_ap, knot_ok, andT_ap, kand_t, kand_f, orT_ap, kor_t, kor_f, andV_ap, kandv_t, kandv_f, orV_ap, korv_t, korv_f, notV_ap, knotv_ok, callE_ap, kcall_ok, parS_ap, kpar_ok, asgG_ap, forS_ap, kfor_ok, srcE_ap, ksrc_tup, ksrc_str, finF_nx, finF_rt, finF_exc, startE, lft_some, List.length_cons, List.length_nil, List.map_cons, List.map_nil, List.getElem?_cons_succ, List.getElem?_cons_zero, List.set_cons_zero, List.set_cons_succ, List.cons_append, List.nil_append, List.replicate_succ, List.replicate_zero, Nat.reduceAdd, Nat.reduceSub, Nat.sub_self, Nat.zero_add, eqG_int, neG_int, ltG_int, gtG_int, leG_int, geG_int, addG_int, subG_int, negG_int, absG_int, intG_int, gcdG_int, lenG_tup, tupD0, tupD1, tupD2, tupD3, tupD4, lstD0, lstD1, lstD4, isi_int_int, isi_bool_int, isi_tup_tup, decide_true, decide_false, Bool.not_true, Bool.not_false, beq_self_eq_true, Int.reduceBEq, Int.reduceLT, Int.reduceLE, Int.reduceNeg, e, allG_at e2, asc], p0.trans p⟩
/-! tables -/
abbrev Tab := PySem.Str × Int × List (List Int)
def tabD (t : Tab) : D := .tup [.str t.1, .int t.2.1, .tup (t.2.2.map rowD)]
abbrev rowLt (a b : List Int) : Bool := decide (a < b)
abbrev nameLt (a b : PySem.Str) : Bool := decide (a.cps.toList < b.cps.toList)
structure TOk (t : Tab) : Prop where
  nm : Sh t.1
  rs : t.2.2.length ≤ 1000
  rw : ∀ row ∈ t.2.2, row.length ≤ 1000
def isTable (t : Tab) : Bool := isName t.1 && (!(decide (t.2.1 < 1) || decide (4 < t.2.1)) && (t.2.2.all (fun row => isRow row t.2.1) && asc rowLt t.2.2))
theorem table_eq {t : Tab} (h : TOk t) (m : Mem) : ∃ m', f_is_table [tabD t] m = .ok (.bl (isTable t)) m' ∧ m <+: m' := by
  obtain ⟨n, c, rows⟩ := t
  obtain ⟨hn, hr, hw⟩ := h
  dsimp only at hn hr hw
  obtain ⟨m1, e1, p1⟩ := name_eq hn m
  have l3 : lenG [.tup [.str n, .int c, .tup (rows.map rowD)]] m = some (.int 3, m) := rfl
  unfold f_is_table isTable tabD
  have tg : ∀ r : Mi.Env, tupG (consG (nameG 1) (consG (nameG 2) (consG (nameG 3) nilG))) (.tup [.str n, .int c, .tup (rows.map rowD)]) r = some (((r.set 1 (some (.str n))).set 2 (some (.int c))).set 3 (some (.tup (rows.map rowD)))) := fun r => rfl
  cases hnm : isName n with
  | false =>
    rw [hnm] at e1
    exact ⟨m1, by simp only [atI_c0, atI_c1, atI_c2, atI_c3, nc0, nc1, nc2, nc3, nc4, nc5, nc6, nc7, nc8, nc9, setG_v, ksv_ok, kso_ok, ksi_ok, ksx_ok, ksy_ok, items_kit, kit_lst, kit_con, idxG_refE, kix_some, idxG_tupE, ofI_some, lenG_refE, klen_some, defF1, defF2, defF3, defF4, defF5, seqS_ap, kseq_nx, kseq_rt, kseq_bk, kseq_ct, kseq_exc, kseq_bad, nxS_ap, bkS_ap, ctS_ap, raiseS_ap, retN_ap, op1_ap, k1_ok, op2_ap, k2a_ok, k2b_ok, opN_ap, kN_ok, nilA_ap, consA_ap, kca_ok, kcb_ok, varE_ap, pick_ok, cstE_ap, asgS_ap, kasg_ok, kasg_exc, retS_ap, kret_ok, kret_exc, dropS_ap, kdrop_ok, kdrop_exc, ifS_ap, kif_t, kif_f, ifE_ap, kife_t, kife_f, valT_ap, kval_ok, notT_ap, knot_ok, andT_ap, kand_t, kand_f, orT_ap, kor_t, kor_f, andV_ap, kandv_t, kandv_f, orV_ap, korv_t, korv_f, notV_ap, knotv_ok, callE_ap, kcall_ok, parS_ap, kpar_ok, asgG_ap, forS_ap, kfor_ok, srcE_ap, ksrc_tup, ksrc_str, finF_nx, finF_rt, finF_exc, startE, lft_some, List.length_cons, List.length_nil, List.map_cons, List.map_nil, List.getElem?_cons_succ, List.getElem?_cons_zero, List.set_cons_zero, List.set_cons_succ, List.cons_append, List.nil_append, List.replicate_succ, List.replicate_zero, Nat.reduceAdd, Nat.reduceSub, Nat.sub_self, Nat.zero_add, eqG_int, neG_int, ltG_int, gtG_int, leG_int, geG_int, addG_int, subG_int, negG_int, absG_int, intG_int, gcdG_int, lenG_tup, tupD0, tupD1, tupD2, tupD3, tupD4, lstD0, lstD1, lstD4, isi_int_int, isi_bool_int, isi_tup_tup, decide_true, decide_false, Bool.not_true, Bool.not_false, beq_self_eq_true, Int.reduceBEq, Int.reduceLT, Int.reduceLE, Int.reduceNeg, l3, kasgG_ok (tg _), e1, Bool.false_and], p1⟩
  | true =>
    rw [hnm] at e1
    cases h1 : decide (c < 1) with
    | true => exact ⟨m1, by simp only [atI_c0, atI_c1, atI_c2, atI_c3, nc0, nc1, nc2, nc3, nc4, nc5, nc6, nc7, nc8, nc9, setG_v, ksv_ok, kso_ok, ksi_ok, ksx_ok, ksy_ok, items_kit, kit_lst, kit_con, idxG_refE, kix_some, idxG_tupE, ofI_some, lenG_refE, klen_some, defF1, defF2, defF3, defF4, defF5, seqS_ap, kseq_nx, kseq_rt, kseq_bk, kseq_ct, kseq_exc, kseq_bad, nxS_ap, bkS_ap, ctS_ap, raiseS_ap, retN_ap, op1_ap, k1_ok, op2_ap, k2a_ok, k2b_ok, opN_ap, kN_ok, nilA_ap, consA_ap, kca_ok, kcb_ok, varE_ap, pick_ok, cstE_ap, asgS_ap, kasg_ok, kasg_exc, retS_ap, kret_ok, kret_exc, dropS_ap, kdrop_ok, kdrop_exc, ifS_ap, kif_t, kif_f, ifE_ap, kife_t, kife_f, valT_ap, kval_ok, notT_ap, knot_ok, andT_ap, kand_t, kand_f, orT_ap, kor_t, kor_f, andV_ap, kandv_t, kandv_f, orV_ap, korv_t, korv_f, notV_ap, knotv_ok, callE_ap, kcall_ok, parS_ap, kpar_ok, asgG_ap, forS_ap, kfor_ok, srcE_ap, ksrc_tup, ksrc_str, finF_nx, finF_rt, finF_exc, startE, lft_some, List.length_cons, List.length_nil, List.map_cons, List.map_nil, List.getElem?_cons_succ, List.getElem?_cons_zero, List.set_cons_zero, List.set_cons_succ, List.cons_append, List.nil_append, List.replicate_succ, List.replicate_zero, Nat.reduceAdd, Nat.reduceSub, Nat.sub_self, Nat.zero_add, eqG_int, neG_int, ltG_int, gtG_int, leG_int, geG_int, addG_int, subG_int, negG_int, absG_int, intG_int, gcdG_int, lenG_tup, tupD0, tupD1, tupD2, tupD3, tupD4, lstD0, lstD1, lstD4, isi_int_int, isi_bool_int, isi_tup_tup, decide_true, decide_false, Bool.not_true, Bool.not_false, beq_self_eq_true, Int.reduceBEq, Int.reduceLT, Int.reduceLE, Int.reduceNeg, l3, kasgG_ok (tg _), e1, h1, Bool.true_and, Bool.true_or, Bool.false_and], p1⟩
    | false =>
      cases h4 : decide (4 < c) with
      | true => exact ⟨m1, by simp only [atI_c0, atI_c1, atI_c2, atI_c3, nc0, nc1, nc2, nc3, nc4, nc5, nc6, nc7, nc8, nc9, setG_v, ksv_ok, kso_ok, ksi_ok, ksx_ok, ksy_ok, items_kit, kit_lst, kit_con, idxG_refE, kix_some, idxG_tupE, ofI_some, lenG_refE, klen_some, defF1, defF2, defF3, defF4, defF5, seqS_ap, kseq_nx, kseq_rt, kseq_bk, kseq_ct, kseq_exc, kseq_bad, nxS_ap, bkS_ap, ctS_ap, raiseS_ap, retN_ap, op1_ap, k1_ok, op2_ap, k2a_ok, k2b_ok, opN_ap, kN_ok, nilA_ap, consA_ap, kca_ok, kcb_ok, varE_ap, pick_ok, cstE_ap, asgS_ap, kasg_ok, kasg_exc, retS_ap, kret_ok, kret_exc, dropS_ap, kdrop_ok, kdrop_exc, ifS_ap, kif_t, kif_f, ifE_ap, kife_t, kife_f, valT_ap, kval_ok, notT_ap, knot_ok, andT_ap, kand_t, kand_f, orT_ap, kor_t, kor_f, andV_ap, kandv_t, kandv_f, orV_ap, korv_t, korv_f, notV_ap, knotv_ok, callE_ap, kcall_ok, parS_ap, kpar_ok, asgG_ap, forS_ap, kfor_ok, srcE_ap, ksrc_tup, ksrc_str, finF_nx, finF_rt, finF_exc, startE, lft_some, List.length_cons, List.length_nil, List.map_cons, List.map_nil, List.getElem?_cons_succ, List.getElem?_cons_zero, List.set_cons_zero, List.set_cons_succ, List.cons_append, List.nil_append, List.replicate_succ, List.replicate_zero, Nat.reduceAdd, Nat.reduceSub, Nat.sub_self, Nat.zero_add, eqG_int, neG_int, ltG_int, gtG_int, leG_int, geG_int, addG_int, subG_int, negG_int, absG_int, intG_int, gcdG_int, lenG_tup, tupD0, tupD1, tupD2, tupD3, tupD4, lstD0, lstD1, lstD4, isi_int_int, isi_bool_int, isi_tup_tup, decide_true, decide_false, Bool.not_true, Bool.not_false, beq_self_eq_true, Int.reduceBEq, Int.reduceLT, Int.reduceLE, Int.reduceNeg, l3, kasgG_ok (tg _), e1, h1, h4, Bool.true_and, Bool.false_or, Bool.false_and], p1⟩
      | false =>
        obtain ⟨m2, e, p, e2⟩ := comp_map (vs := [4]) (fi := srcE (varE 3)) (tg := nameG 4) (f := callE Pg.f_is_row (consA (varE 4) (consA (varE 2) nilA))) (r := [some (tabD (n, c, rows)), some (.str n), some (.int c), some (.tup (rows.map rowD)), none]) (m := m1) (m1 := m1)
          (s := .fix (rows.map rowD)) rows rowD (fun row => .bl (isRow row c)) (by simp only [atI_c0, atI_c1, atI_c2, atI_c3, nc0, nc1, nc2, nc3, nc4, nc5, nc6, nc7, nc8, nc9, setG_v, ksv_ok, kso_ok, ksi_ok, ksx_ok, ksy_ok, items_kit, kit_lst, kit_con, idxG_refE, kix_some, idxG_tupE, ofI_some, lenG_refE, klen_some, defF1, defF2, defF3, defF4, defF5, seqS_ap, kseq_nx, kseq_rt, kseq_bk, kseq_ct, kseq_exc, kseq_bad, nxS_ap, bkS_ap, ctS_ap, raiseS_ap, retN_ap, op1_ap, k1_ok, op2_ap, k2a_ok, k2b_ok, opN_ap, kN_ok, nilA_ap, consA_ap, kca_ok, kcb_ok, varE_ap, pick_ok, cstE_ap, asgS_ap, kasg_ok, kasg_exc, retS_ap, kret_ok, kret_exc, dropS_ap, kdrop_ok, kdrop_exc, ifS_ap, kif_t, kif_f, ifE_ap, kife_t, kife_f, valT_ap, kval_ok, notT_ap, knot_ok, andT_ap, kand_t, kand_f, orT_ap, kor_t, kor_f, andV_ap, kandv_t, kandv_f, orV_ap, korv_t, korv_f, notV_ap, knotv_ok, callE_ap, kcall_ok, parS_ap, kpar_ok, asgG_ap, forS_ap, kfor_ok, srcE_ap, ksrc_tup, ksrc_str, finF_nx, finF_rt, finF_exc, startE, lft_some, List.length_cons, List.length_nil, List.map_cons, List.map_nil, List.getElem?_cons_succ, List.getElem?_cons_zero, List.set_cons_zero, List.set_cons_succ, List.cons_append, List.nil_append, List.replicate_succ, List.replicate_zero, Nat.reduceAdd, Nat.reduceSub, Nat.sub_self, Nat.zero_add, eqG_int, neG_int, ltG_int, gtG_int, leG_int, geG_int, addG_int, subG_int, negG_int, absG_int, intG_int, gcdG_int, lenG_tup, tupD0, tupD1, tupD2, tupD3, tupD4, lstD0, lstD1, lstD4, isi_int_int, isi_bool_int, isi_tup_tup, decide_true, decide_false, Bool.not_true, Bool.not_false, beq_self_eq_true, Int.reduceBEq, Int.reduceLT, Int.reduceLE, Int.reduceNeg]) (fun _ _ => trivial) rfl (Nat.lt_of_le_of_lt hr (by decide))
          (fun row hrow m' _ => by
            obtain ⟨m3, e3, p3⟩ := row_eq (c := c) (hw row hrow) m'
            exact ⟨_, rfl, m3, by simp only [atI_c0, atI_c1, atI_c2, atI_c3, nc0, nc1, nc2, nc3, nc4, nc5, nc6, nc7, nc8, nc9, setG_v, ksv_ok, kso_ok, ksi_ok, ksx_ok, ksy_ok, items_kit, kit_lst, kit_con, idxG_refE, kix_some, idxG_tupE, ofI_some, lenG_refE, klen_some, defF1, defF2, defF3, defF4, defF5, seqS_ap, kseq_nx, kseq_rt, kseq_bk, kseq_ct, kseq_exc, kseq_bad, nxS_ap, bkS_ap, ctS_ap, raiseS_ap, retN_ap, op1_ap, k1_ok, op2_ap, k2a_ok, k2b_ok, opN_ap, kN_ok, nilA_ap, consA_ap, kca_ok, kcb_ok, varE_ap, pick_ok, cstE_ap, asgS_ap, kasg_ok, kasg_exc, retS_ap, kret_ok, kret_exc, dropS_ap, kdrop_ok, kdrop_exc, ifS_ap, kif_t, kif_f, ifE_ap, kife_t, kife_f, valT_ap, kval_ok, notT_ap, knot_ok, andT_ap, kand_t, kand_f, orT_ap, kor_t, kor_f, andV_ap, kandv_t, kandv_f, orV_ap, korv_t, korv_f, notV_ap, knotv_ok, callE_ap, kcall_ok, parS_ap, kpar_ok, asgG_ap, forS_ap, kfor_ok, srcE_ap, ksrc_tup, ksrc_str, finF_nx, finF_rt, finF_exc, startE, lft_some, List.length_cons, List.length_nil, List.map_cons, List.map_nil, List.getElem?_cons_succ, List.getElem?_cons_zero, List.set_cons_zero, List.set_cons_succ, List.cons_append, List.nil_append, List.replicate_succ, List.replicate_zero, Nat.reduceAdd, Nat.reduceSub, Nat.sub_self, Nat.zero_add, eqG_int, neG_int, ltG_int, gtG_int, leG_int, geG_int, addG_int, subG_int, negG_int, absG_int, intG_int, gcdG_int, lenG_tup, tupD0, tupD1, tupD2, tupD3, tupD4, lstD0, lstD1, lstD4, isi_int_int, isi_bool_int, isi_tup_tup, decide_true, decide_false, Bool.not_true, Bool.not_false, beq_self_eq_true, Int.reduceBEq, Int.reduceLT, Int.reduceLE, Int.reduceNeg, wipeE, e3], p3⟩)
        unfold tabD at e
        dsimp only at e
        cases ha : rows.all (fun row => isRow row c) with
        | false => exact ⟨m2, by simp only [atI_c0, atI_c1, atI_c2, atI_c3, nc0, nc1, nc2, nc3, nc4, nc5, nc6, nc7, nc8, nc9, setG_v, ksv_ok, kso_ok, ksi_ok, ksx_ok, ksy_ok, items_kit, kit_lst, kit_con, idxG_refE, kix_some, idxG_tupE, ofI_some, lenG_refE, klen_some, defF1, defF2, defF3, defF4, defF5, seqS_ap, kseq_nx, kseq_rt, kseq_bk, kseq_ct, kseq_exc, kseq_bad, nxS_ap, bkS_ap, ctS_ap, raiseS_ap, retN_ap, op1_ap, k1_ok, op2_ap, k2a_ok, k2b_ok, opN_ap, kN_ok, nilA_ap, consA_ap, kca_ok, kcb_ok, varE_ap, pick_ok, cstE_ap, asgS_ap, kasg_ok, kasg_exc, retS_ap, kret_ok, kret_exc, dropS_ap, kdrop_ok, kdrop_exc, ifS_ap, kif_t, kif_f, ifE_ap, kife_t, kife_f, valT_ap, kval_ok, notT_ap, knot_ok, andT_ap, kand_t, kand_f, orT_ap, kor_t, kor_f, andV_ap, kandv_t, kandv_f, orV_ap, korv_t, korv_f, notV_ap, knotv_ok, callE_ap, kcall_ok, parS_ap, kpar_ok, asgG_ap, forS_ap, kfor_ok, srcE_ap, ksrc_tup, ksrc_str, finF_nx, finF_rt, finF_exc, startE, lft_some, List.length_cons, List.length_nil, List.map_cons, List.map_nil, List.getElem?_cons_succ, List.getElem?_cons_zero, List.set_cons_zero, List.set_cons_succ, List.cons_append, List.nil_append, List.replicate_succ, List.replicate_zero, Nat.reduceAdd, Nat.reduceSub, Nat.sub_self, Nat.zero_add, eqG_int, neG_int, ltG_int, gtG_int, leG_int, geG_int, addG_int, subG_int, negG_int, absG_int, intG_int, gcdG_int, lenG_tup, tupD0, tupD1, tupD2, tupD3, tupD4, lstD0, lstD1, lstD4, isi_int_int, isi_bool_int, isi_tup_tup, decide_true, decide_false, Bool.not_true, Bool.not_false, beq_self_eq_true, Int.reduceBEq, Int.reduceLT, Int.reduceLE, Int.reduceNeg, l3, kasgG_ok (tg _), e1, h1, h4, e, allG_at e2, ha, Bool.true_and, Bool.false_or, Bool.false_and], p1.trans p⟩
        | true =>
          obtain ⟨m3, e3, p3⟩ := asc_tup rowLt rowD rows hr (fun a _ b _ m => ltG_row) m2
          exact ⟨m3, by simp only [atI_c0, atI_c1, atI_c2, atI_c3, nc0, nc1, nc2, nc3, nc4, nc5, nc6, nc7, nc8, nc9, setG_v, ksv_ok, kso_ok, ksi_ok, ksx_ok, ksy_ok, items_kit, kit_lst, kit_con, idxG_refE, kix_some, idxG_tupE, ofI_some, lenG_refE, klen_some, defF1, defF2, defF3, defF4, defF5, seqS_ap, kseq_nx, kseq_rt, kseq_bk, kseq_ct, kseq_exc, kseq_bad, nxS_ap, bkS_ap, ctS_ap, raiseS_ap, retN_ap, op1_ap, k1_ok, op2_ap, k2a_ok, k2b_ok, opN_ap, kN_ok, nilA_ap, consA_ap, kca_ok, kcb_ok, varE_ap, pick_ok, cstE_ap, asgS_ap, kasg_ok, kasg_exc, retS_ap, kret_ok, kret_exc, dropS_ap, kdrop_ok, kdrop_exc, ifS_ap, kif_t, kif_f, ifE_ap, kife_t, kife_f, valT_ap, kval_ok, notT_ap, knot_ok, andT_ap, kand_t, kand_f, orT_ap, kor_t, kor_f, andV_ap, kandv_t, kandv_f, orV_ap, korv_t, korv_f, notV_ap, knotv_ok, callE_ap, kcall_ok, parS_ap, kpar_ok, asgG_ap, forS_ap, kfor_ok, srcE_ap, ksrc_tup, ksrc_str, finF_nx, finF_rt, finF_exc, startE, lft_some, List.length_cons, List.length_nil, List.map_cons, List.map_nil, List.getElem?_cons_succ, List.getElem?_cons_zero, List.set_cons_zero, List.set_cons_succ, List.cons_append, List.nil_append, List.replicate_succ, List.replicate_zero, Nat.reduceAdd, Nat.reduceSub, Nat.sub_self, Nat.zero_add, eqG_int, neG_int, ltG_int, gtG_int, leG_int, geG_int, addG_int, subG_int, negG_int, absG_int, intG_int, gcdG_int, lenG_tup, tupD0, tupD1, tupD2, tupD3, tupD4, lstD0, lstD1, lstD4, isi_int_int, isi_bool_int, isi_tup_tup, decide_true, decide_false, Bool.not_true, Bool.not_false, beq_self_eq_true, Int.reduceBEq, Int.reduceLT, Int.reduceLE, Int.reduceNeg, l3, kasgG_ok (tg _), e1, h1, h4, e, allG_at e2, ha, e3, Bool.true_and, Bool.false_or], (p1.trans p).trans p3⟩
/-! catalogues -/
abbrev catD (C : List Tab) : D := .tup (C.map tabD)
structure COk (C : List Tab) : Prop where
  len : C.length ≤ 1000
  tab : ∀ t ∈ C, TOk t
def chk (C : List Tab) : Option String :=
  if C.all isTable = false then some "CatalogueError" else if asc nameLt (C.map (·.1)) = false then some "CatalogueError"
  else if decide (8 < (C.length : Int)) = true then some "TooLarge" else if C.any (fun t => decide (300 < (t.2.2.length : Int))) = true then some "TooLarge" else none
def told (o : Option String) (m : Mem) : Res D := match o with
  | some c => .exc c m
  | none => .ok .non m
theorem check_eq {C : List Tab} (h : COk C) (m : Mem) : ∃ m', f_check_catalogue [catD C] m = told (chk C) m' ∧ m <+: m' := by
  have hz : C.length < sizeLine := Nat.lt_of_le_of_lt h.len (by decide)
  unfold f_check_catalogue chk catD
  obtain ⟨m1, e, p, e2⟩ := comp_map (vs := [1]) (fi := srcE (varE 0)) (tg := nameG 1) (f := callE Pg.f_is_table (consA (varE 1) nilA)) (r := [some (.tup (C.map tabD)), none]) (m := m) (m1 := m)
    (s := .fix (C.map tabD)) C tabD (fun t => .bl (isTable t)) (by simp only [atI_c0, atI_c1, atI_c2, atI_c3, nc0, nc1, nc2, nc3, nc4, nc5, nc6, nc7, nc8, nc9, setG_v, ksv_ok, kso_ok, ksi_ok, ksx_ok, ksy_ok, items_kit, kit_lst, kit_con, idxG_refE, kix_some, idxG_tupE, ofI_some, lenG_refE, klen_some, defF1, defF2, defF3, defF4, defF5, seqS_ap, kseq_nx, kseq_rt, kseq_bk, kseq_ct, kseq_exc, kseq_bad, nxS_ap, bkS_ap, ctS_ap, raiseS_ap, retN_ap, op1_ap, k1_ok, op2_ap, k2a_ok, k2b_ok, opN_ap, kN_ok, nilA_ap, consA_ap, kca_ok, kcb_ok, varE_ap, pick_ok, cstE_ap, asgS_ap, kasg_ok, kasg_exc, retS_ap, kret_ok, kret_exc, dropS_ap, kdrop_ok, kdrop_exc, ifS_ap, kif_t, kif_f, ifE_ap, kife_t, kife_f, valT_ap, kval_ok, notT_ap, knot_ok, andT_ap, kand_t, kand_f, orT_ap, kor_t, kor_f, andV_ap, kandv_t, kandv_f, orV_ap, korv_t, korv_f, notV_ap, knotv_ok, callE_ap, kcall_ok, parS_ap, kpar_ok, asgG_ap, forS_ap, kfor_ok, srcE_ap, ksrc_tup, ksrc_str, finF_nx, finF_rt, finF_exc, startE, lft_some, List.length_cons, List.length_nil, List.map_cons, List.map_nil, List.getElem?_cons_succ, List.getElem?_cons_zero, List.set_cons_zero, List.set_cons_succ, List.cons_append, List.nil_append, List.replicate_succ, List.replicate_zero, Nat.reduceAdd, Nat.reduceSub, Nat.sub_self, Nat.zero_add, eqG_int, neG_int, ltG_int, gtG_int, leG_int, geG_int, addG_int, subG_int, negG_int, absG_int, intG_int, gcdG_int, lenG_tup, tupD0, tupD1, tupD2, tupD3, tupD4, lstD0, lstD1, lstD4, isi_int_int, isi_bool_int, isi_tup_tup, decide_true, decide_false, Bool.not_true, Bool.not_false, beq_self_eq_true, Int.reduceBEq, Int.reduceLT, Int.reduceLE, Int.reduceNeg]) (fun _ _ => trivial) rfl hz
    (fun t ht m' _ => by
      obtain ⟨m3, e3, p3⟩ := table_eq (h.tab t ht) m'
      exact ⟨_, rfl, m3, by simp only [atI_c0, atI_c1, atI_c2, atI_c3, nc0, nc1, nc2, nc3, nc4, nc5, nc6, nc7, nc8, nc9, setG_v, ksv_ok, kso_ok, ksi_ok, ksx_ok, ksy_ok, items_kit, kit_lst, kit_con, idxG_refE, kix_some, idxG_tupE, ofI_some, lenG_refE, klen_some, defF1, defF2, defF3, defF4, defF5, seqS_ap, kseq_nx, kseq_rt, kseq_bk, kseq_ct, kseq_exc, kseq_bad, nxS_ap, bkS_ap, ctS_ap, raiseS_ap, retN_ap, op1_ap, k1_ok, op2_ap, k2a_ok, k2b_ok, opN_ap, kN_ok, nilA_ap, consA_ap, kca_ok, kcb_ok, varE_ap, pick_ok, cstE_ap, asgS_ap, kasg_ok, kasg_exc, retS_ap, kret_ok, kret_exc, dropS_ap, kdrop_ok, kdrop_exc, ifS_ap, kif_t, kif_f, ifE_ap, kife_t, kife_f, valT_ap, kval_ok, notT_ap, knot_ok, andT_ap, kand_t, kand_f, orT_ap, kor_t, kor_f, andV_ap, kandv_t, kandv_f, orV_ap, korv_t, korv_f, notV_ap, knotv_ok, callE_ap, kcall_ok, parS_ap, kpar_ok, asgG_ap, forS_ap, kfor_ok, srcE_ap, ksrc_tup, ksrc_str, finF_nx, finF_rt, finF_exc, startE, lft_some, List.length_cons, List.length_nil, List.map_cons, List.map_nil, List.getElem?_cons_succ, List.getElem?_cons_zero, List.set_cons_zero, List.set_cons_succ, List.cons_append, List.nil_append, List.replicate_succ, List.replicate_zero, Nat.reduceAdd, Nat.reduceSub, Nat.sub_self, Nat.zero_add, eqG_int, neG_int, ltG_int, gtG_int, leG_int, geG_int, addG_int, subG_int, negG_int, absG_int, intG_int, gcdG_int, lenG_tup, tupD0, tupD1, tupD2, tupD3, tupD4, lstD0, lstD1, lstD4, isi_int_int, isi_bool_int, isi_tup_tup, decide_true, decide_false, Bool.not_true, Bool.not_false, beq_self_eq_true, Int.reduceBEq, Int.reduceLT, Int.reduceLE, Int.reduceNeg, wipeE, e3], p3⟩)
  cases h1 : C.all isTable with
  | false => exact ⟨m1, by simp only [atI_c0, atI_c1, atI_c2, atI_c3, nc0, nc1, nc2, nc3, nc4, nc5, nc6, nc7, nc8, nc9, setG_v, ksv_ok, kso_ok, ksi_ok, ksx_ok, ksy_ok, items_kit, kit_lst, kit_con, idxG_refE, kix_some, idxG_tupE, ofI_some, lenG_refE, klen_some, defF1, defF2, defF3, defF4, defF5, seqS_ap, kseq_nx, kseq_rt, kseq_bk, kseq_ct, kseq_exc, kseq_bad, nxS_ap, bkS_ap, ctS_ap, raiseS_ap, retN_ap, op1_ap, k1_ok, op2_ap, k2a_ok, k2b_ok, opN_ap, kN_ok, nilA_ap, consA_ap, kca_ok, kcb_ok, varE_ap, pick_ok, cstE_ap, asgS_ap, kasg_ok, kasg_exc, retS_ap, kret_ok, kret_exc, dropS_ap, kdrop_ok, kdrop_exc, ifS_ap, kif_t, kif_f, ifE_ap, kife_t, kife_f, valT_ap, kval_ok, notT_ap, knot_ok, andT_ap, kand_t, kand_f, orT_ap, kor_t, kor_f, andV_ap, kandv_t, kandv_f, orV_ap, korv_t, korv_f, notV_ap, knotv_ok, callE_ap, kcall_ok, parS_ap, kpar_ok, asgG_ap, forS_ap, kfor_ok, srcE_ap, ksrc_tup, ksrc_str, finF_nx, finF_rt, finF_exc, startE, lft_some, List.length_cons, List.length_nil, List.map_cons, List.map_nil, List.getElem?_cons_succ, List.getElem?_cons_zero, List.set_cons_zero, List.set_cons_succ, List.cons_append, List.nil_append, List.replicate_succ, List.replicate_zero, Nat.reduceAdd, Nat.reduceSub, Nat.sub_self, Nat.zero_add, eqG_int, neG_int, ltG_int, gtG_int, leG_int, geG_int, addG_int, subG_int, negG_int, absG_int, intG_int, gcdG_int, lenG_tup, tupD0, tupD1, tupD2, tupD3, tupD4, lstD0, lstD1, lstD4, isi_int_int, isi_bool_int, isi_tup_tup, decide_true, decide_false, Bool.not_true, Bool.not_false, beq_self_eq_true, Int.reduceBEq, Int.reduceLT, Int.reduceLE, Int.reduceNeg, e, allG_at e2, h1, if_true, told], p⟩
  | true =>
    obtain ⟨m2, f, q, f2⟩ := comp_map (vs := [1]) (fi := srcE (varE 0)) (tg := nameG 1) (f := op2 (varE 1) (cstE (.int 0)) idxG) (r := [some (.tup (C.map tabD)), none]) (m := m1) (m1 := m1)
      (s := .fix (C.map tabD)) C tabD (fun t => .str t.1) (by simp only [atI_c0, atI_c1, atI_c2, atI_c3, nc0, nc1, nc2, nc3, nc4, nc5, nc6, nc7, nc8, nc9, setG_v, ksv_ok, kso_ok, ksi_ok, ksx_ok, ksy_ok, items_kit, kit_lst, kit_con, idxG_refE, kix_some, idxG_tupE, ofI_some, lenG_refE, klen_some, defF1, defF2, defF3, defF4, defF5, seqS_ap, kseq_nx, kseq_rt, kseq_bk, kseq_ct, kseq_exc, kseq_bad, nxS_ap, bkS_ap, ctS_ap, raiseS_ap, retN_ap, op1_ap, k1_ok, op2_ap, k2a_ok, k2b_ok, opN_ap, kN_ok, nilA_ap, consA_ap, kca_ok, kcb_ok, varE_ap, pick_ok, cstE_ap, asgS_ap, kasg_ok, kasg_exc, retS_ap, kret_ok, kret_exc, dropS_ap, kdrop_ok, kdrop_exc, ifS_ap, kif_t, kif_f, ifE_ap, kife_t, kife_f, valT_ap, kval_ok, notT_ap, knot_ok, andT_ap, kand_t, kand_f, orT_ap, kor_t, kor_f, andV_ap, kandv_t, kandv_f, orV_ap, korv_t, korv_f, notV_ap, knotv_ok, callE_ap, kcall_ok, parS_ap, kpar_ok, asgG_ap, forS_ap, kfor_ok, srcE_ap, ksrc_tup, ksrc_str, finF_nx, finF_rt, finF_exc, startE, lft_some, List.length_cons, List.length_nil, List.map_cons, List.map_nil, List.getElem?_cons_succ, List.getElem?_cons_zero, List.set_cons_zero, List.set_cons_succ, List.cons_append, List.nil_append, List.replicate_succ, List.replicate_zero, Nat.reduceAdd, Nat.reduceSub, Nat.sub_self, Nat.zero_add, eqG_int, neG_int, ltG_int, gtG_int, leG_int, geG_int, addG_int, subG_int, negG_int, absG_int, intG_int, gcdG_int, lenG_tup, tupD0, tupD1, tupD2, tupD3, tupD4, lstD0, lstD1, lstD4, isi_int_int, isi_bool_int, isi_tup_tup, decide_true, decide_false, Bool.not_true, Bool.not_false, beq_self_eq_true, Int.reduceBEq, Int.reduceLT, Int.reduceLE, Int.reduceNeg]) (fun _ _ => trivial) rfl hz
      (fun t ht m' _ => ⟨_, rfl, m', by simp only [atI_c0, atI_c1, atI_c2, atI_c3, nc0, nc1, nc2, nc3, nc4, nc5, nc6, nc7, nc8, nc9, setG_v, ksv_ok, kso_ok, ksi_ok, ksx_ok, ksy_ok, items_kit, kit_lst, kit_con, idxG_refE, kix_some, idxG_tupE, ofI_some, lenG_refE, klen_some, defF1, defF2, defF3, defF4, defF5, seqS_ap, kseq_nx, kseq_rt, kseq_bk, kseq_ct, kseq_exc, kseq_bad, nxS_ap, bkS_ap, ctS_ap, raiseS_ap, retN_ap, op1_ap, k1_ok, op2_ap, k2a_ok, k2b_ok, opN_ap, kN_ok, nilA_ap, consA_ap, kca_ok, kcb_ok, varE_ap, pick_ok, cstE_ap, asgS_ap, kasg_ok, kasg_exc, retS_ap, kret_ok, kret_exc, dropS_ap, kdrop_ok, kdrop_exc, ifS_ap, kif_t, kif_f, ifE_ap, kife_t, kife_f, valT_ap, kval_ok, notT_ap, knot_ok, andT_ap, kand_t, kand_f, orT_ap, kor_t, kor_f, andV_ap, kandv_t, kandv_f, orV_ap, korv_t, korv_f, notV_ap, knotv_ok, callE_ap, kcall_ok, parS_ap, kpar_ok, asgG_ap, forS_ap, kfor_ok, srcE_ap, ksrc_tup, ksrc_str, finF_nx, finF_rt, finF_exc, startE, lft_some, List.length_cons, List.length_nil, List.map_cons, List.map_nil, List.getElem?_cons_succ, List.getElem?_cons_zero, List.set_cons_zero, List.set_cons_succ, List.cons_append, List.nil_append, List.replicate_succ, List.replicate_zero, Nat.reduceAdd, Nat.reduceSub, Nat.sub_self, Nat.zero_add, eqG_int, neG_int, ltG_int, gtG_int, leG_int, geG_int, addG_int, subG_int, negG_int, absG_int, intG_int, gcdG_int, lenG_tup, tupD0, tupD1, tupD2, tupD3, tupD4, lstD0, lstD1, lstD4, isi_int_int, isi_bool_int, isi_tup_tup, decide_true, decide_false, Bool.not_true, Bool.not_false, beq_self_eq_true, Int.reduceBEq, Int.reduceLT, Int.reduceLE, Int.reduceNeg, wipeE, tabD], List.prefix_refl _⟩)
    have f3 : m2[m1.length]? = some (.lst ((C.map (·.1)).map .str)) := by rw [f2, List.map_map]; rfl
    obtain ⟨m3, g, q3⟩ := asc_ref nameLt .str (C.map (·.1)) (by rw [List.length_map]; exact h.len) (fun a ha b hb m => by
      obtain ⟨t, ht, rfl⟩ := List.mem_map.mp ha
      obtain ⟨u, hu, rfl⟩ := List.mem_map.mp hb
      exact ltG_str (h.tab t ht).nm.ok (h.tab u hu).nm.ok) m2 f3
    have pq := (p.trans q).trans q3
    cases h2 : asc nameLt (C.map (·.1)) with
    | false =>
      rw [h2] at g
      exact ⟨m3, by simp only [atI_c0, atI_c1, atI_c2, atI_c3, nc0, nc1, nc2, nc3, nc4, nc5, nc6, nc7, nc8, nc9, setG_v, ksv_ok, kso_ok, ksi_ok, ksx_ok, ksy_ok, items_kit, kit_lst, kit_con, idxG_refE, kix_some, idxG_tupE, ofI_some, lenG_refE, klen_some, defF1, defF2, defF3, defF4, defF5, seqS_ap, kseq_nx, kseq_rt, kseq_bk, kseq_ct, kseq_exc, kseq_bad, nxS_ap, bkS_ap, ctS_ap, raiseS_ap, retN_ap, op1_ap, k1_ok, op2_ap, k2a_ok, k2b_ok, opN_ap, kN_ok, nilA_ap, consA_ap, kca_ok, kcb_ok, varE_ap, pick_ok, cstE_ap, asgS_ap, kasg_ok, kasg_exc, retS_ap, kret_ok, kret_exc, dropS_ap, kdrop_ok, kdrop_exc, ifS_ap, kif_t, kif_f, ifE_ap, kife_t, kife_f, valT_ap, kval_ok, notT_ap, knot_ok, andT_ap, kand_t, kand_f, orT_ap, kor_t, kor_f, andV_ap, kandv_t, kandv_f, orV_ap, korv_t, korv_f, notV_ap, knotv_ok, callE_ap, kcall_ok, parS_ap, kpar_ok, asgG_ap, forS_ap, kfor_ok, srcE_ap, ksrc_tup, ksrc_str, finF_nx, finF_rt, finF_exc, startE, lft_some, List.length_cons, List.length_nil, List.map_cons, List.map_nil, List.getElem?_cons_succ, List.getElem?_cons_zero, List.set_cons_zero, List.set_cons_succ, List.cons_append, List.nil_append, List.replicate_succ, List.replicate_zero, Nat.reduceAdd, Nat.reduceSub, Nat.sub_self, Nat.zero_add, eqG_int, neG_int, ltG_int, gtG_int, leG_int, geG_int, addG_int, subG_int, negG_int, absG_int, intG_int, gcdG_int, lenG_tup, tupD0, tupD1, tupD2, tupD3, tupD4, lstD0, lstD1, lstD4, isi_int_int, isi_bool_int, isi_tup_tup, decide_true, decide_false, Bool.not_true, Bool.not_false, beq_self_eq_true, Int.reduceBEq, Int.reduceLT, Int.reduceLE, Int.reduceNeg, e, allG_at e2, h1, f, g, if_true, if_false, reduceCtorEq, told], pq⟩
    | true =>
      rw [h2] at g
      cases h3 : decide (8 < (C.length : Int)) with
      | true => exact ⟨m3, by simp only [atI_c0, atI_c1, atI_c2, atI_c3, nc0, nc1, nc2, nc3, nc4, nc5, nc6, nc7, nc8, nc9, setG_v, ksv_ok, kso_ok, ksi_ok, ksx_ok, ksy_ok, items_kit, kit_lst, kit_con, idxG_refE, kix_some, idxG_tupE, ofI_some, lenG_refE, klen_some, defF1, defF2, defF3, defF4, defF5, seqS_ap, kseq_nx, kseq_rt, kseq_bk, kseq_ct, kseq_exc, kseq_bad, nxS_ap, bkS_ap, ctS_ap, raiseS_ap, retN_ap, op1_ap, k1_ok, op2_ap, k2a_ok, k2b_ok, opN_ap, kN_ok, nilA_ap, consA_ap, kca_ok, kcb_ok, varE_ap, pick_ok, cstE_ap, asgS_ap, kasg_ok, kasg_exc, retS_ap, kret_ok, kret_exc, dropS_ap, kdrop_ok, kdrop_exc, ifS_ap, kif_t, kif_f, ifE_ap, kife_t, kife_f, valT_ap, kval_ok, notT_ap, knot_ok, andT_ap, kand_t, kand_f, orT_ap, kor_t, kor_f, andV_ap, kandv_t, kandv_f, orV_ap, korv_t, korv_f, notV_ap, knotv_ok, callE_ap, kcall_ok, parS_ap, kpar_ok, asgG_ap, forS_ap, kfor_ok, srcE_ap, ksrc_tup, ksrc_str, finF_nx, finF_rt, finF_exc, startE, lft_some, List.length_cons, List.length_nil, List.map_cons, List.map_nil, List.getElem?_cons_succ, List.getElem?_cons_zero, List.set_cons_zero, List.set_cons_succ, List.cons_append, List.nil_append, List.replicate_succ, List.replicate_zero, Nat.reduceAdd, Nat.reduceSub, Nat.sub_self, Nat.zero_add, eqG_int, neG_int, ltG_int, gtG_int, leG_int, geG_int, addG_int, subG_int, negG_int, absG_int, intG_int, gcdG_int, lenG_tup, tupD0, tupD1, tupD2, tupD3, tupD4, lstD0, lstD1, lstD4, isi_int_int, isi_bool_int, isi_tup_tup, decide_true, decide_false, Bool.not_true, Bool.not_false, beq_self_eq_true, Int.reduceBEq, Int.reduceLT, Int.reduceLE, Int.reduceNeg, e, allG_at e2, h1, f, g, List.length_map, h3, if_true, if_false, reduceCtorEq, told], pq⟩
      | false =>
        obtain ⟨m4, k, q4, k2⟩ := comp_map (vs := [1]) (fi := srcE (varE 0)) (tg := nameG 1) (f := op2 (opN (consA (op2 (varE 1) (cstE (.int 2)) idxG) nilA) lenG) (cstE (.int 300)) gtG) (r := [some (.tup (C.map tabD)), none]) (m := m3) (m1 := m3)
          (s := .fix (C.map tabD)) C tabD (fun t => .bl (decide (300 < (t.2.2.length : Int)))) (by simp only [atI_c0, atI_c1, atI_c2, atI_c3, nc0, nc1, nc2, nc3, nc4, nc5, nc6, nc7, nc8, nc9, setG_v, ksv_ok, kso_ok, ksi_ok, ksx_ok, ksy_ok, items_kit, kit_lst, kit_con, idxG_refE, kix_some, idxG_tupE, ofI_some, lenG_refE, klen_some, defF1, defF2, defF3, defF4, defF5, seqS_ap, kseq_nx, kseq_rt, kseq_bk, kseq_ct, kseq_exc, kseq_bad, nxS_ap, bkS_ap, ctS_ap, raiseS_ap, retN_ap, op1_ap, k1_ok, op2_ap, k2a_ok, k2b_ok, opN_ap, kN_ok, nilA_ap, consA_ap, kca_ok, kcb_ok, varE_ap, pick_ok, cstE_ap, asgS_ap, kasg_ok, kasg_exc, retS_ap, kret_ok, kret_exc, dropS_ap, kdrop_ok, kdrop_exc, ifS_ap, kif_t, kif_f, ifE_ap, kife_t, kife_f, valT_ap, kval_ok, notT_ap, knot_ok, andT_ap, kand_t, kand_f, orT_ap, kor_t, kor_f, andV_ap, kandv_t, kandv_f, orV_ap, korv_t, korv_f, notV_ap, knotv_ok, callE_ap, kcall_ok, parS_ap, kpar_ok, asgG_ap, forS_ap, kfor_ok, srcE_ap, ksrc_tup, ksrc_str, finF_nx, finF_rt, finF_exc, startE, lft_some, List.length_cons, List.length_nil, List.map_cons, List.map_nil, List.getElem?_cons_succ, List.getElem?_cons_zero, List.set_cons_zero, List.set_cons_succ, List.cons_append, List.nil_append, List.replicate_succ, List.replicate_zero, Nat.reduceAdd, Nat.reduceSub, Nat.sub_self, Nat.zero_add, eqG_int, neG_int, ltG_int, gtG_int, leG_int, geG_int, addG_int, subG_int, negG_int, absG_int, intG_int, gcdG_int, lenG_tup, tupD0, tupD1, tupD2, tupD3, tupD4, lstD0, lstD1, lstD4, isi_int_int, isi_bool_int, isi_tup_tup, decide_true, decide_false, Bool.not_true, Bool.not_false, beq_self_eq_true, Int.reduceBEq, Int.reduceLT, Int.reduceLE, Int.reduceNeg]) (fun _ _ => trivial) rfl hz
          (fun t ht m' _ => ⟨_, rfl, m', by simp only [atI_c0, atI_c1, atI_c2, atI_c3, nc0, nc1, nc2, nc3, nc4, nc5, nc6, nc7, nc8, nc9, setG_v, ksv_ok, kso_ok, ksi_ok, ksx_ok, ksy_ok, items_kit, kit_lst, kit_con, idxG_refE, kix_some, idxG_tupE, ofI_some, lenG_refE, klen_some, defF1, defF2, defF3, defF4, defF5, seqS_ap, kseq_nx, kseq_rt, kseq_bk, kseq_ct, kseq_exc, kseq_bad, nxS_ap, bkS_ap, ctS_ap, raiseS_ap, retN_ap, op1_ap, k1_ok, op2_ap, k2a_ok, k2b_ok, opN_ap, kN_ok, nilA_ap, consA_ap, kca_ok, kcb_ok, varE_ap, pick_ok, cstE_ap, asgS_ap, kasg_ok, kasg_exc, retS_ap, kret_ok, kret_exc, dropS_ap, kdrop_ok, kdrop_exc, ifS_ap, kif_t, kif_f, ifE_ap, kife_t, kife_f, valT_ap, kval_ok, notT_ap, knot_ok, andT_ap, kand_t, kand_f, orT_ap, kor_t, kor_f, andV_ap, kandv_t, kandv_f, orV_ap, korv_t, korv_f, notV_ap, knotv_ok, callE_ap, kcall_ok, parS_ap, kpar_ok, asgG_ap, forS_ap, kfor_ok, srcE_ap, ksrc_tup, ksrc_str, finF_nx, finF_rt, finF_exc, startE, lft_some, List.length_cons, List.length_nil, List.map_cons, List.map_nil, List.getElem?_cons_succ, List.getElem?_cons_zero, List.set_cons_zero, List.set_cons_succ, List.cons_append, List.nil_append, List.replicate_succ, List.replicate_zero, Nat.reduceAdd, Nat.reduceSub, Nat.sub_self, Nat.zero_add, eqG_int, neG_int, ltG_int, gtG_int, leG_int, geG_int, addG_int, subG_int, negG_int, absG_int, intG_int, gcdG_int, lenG_tup, tupD0, tupD1, tupD2, tupD3, tupD4, lstD0, lstD1, lstD4, isi_int_int, isi_bool_int, isi_tup_tup, decide_true, decide_false, Bool.not_true, Bool.not_false, beq_self_eq_true, Int.reduceBEq, Int.reduceLT, Int.reduceLE, Int.reduceNeg, wipeE, tabD, List.length_map], List.prefix_refl _⟩)
        cases h4 : C.any (fun t => decide (300 < (t.2.2.length : Int))) with
        | true => exact ⟨m4, by simp only [atI_c0, atI_c1, atI_c2, atI_c3, nc0, nc1, nc2, nc3, nc4, nc5, nc6, nc7, nc8, nc9, setG_v, ksv_ok, kso_ok, ksi_ok, ksx_ok, ksy_ok, items_kit, kit_lst, kit_con, idxG_refE, kix_some, idxG_tupE, ofI_some, lenG_refE, klen_some, defF1, defF2, defF3, defF4, defF5, seqS_ap, kseq_nx, kseq_rt, kseq_bk, kseq_ct, kseq_exc, kseq_bad, nxS_ap, bkS_ap, ctS_ap, raiseS_ap, retN_ap, op1_ap, k1_ok, op2_ap, k2a_ok, k2b_ok, opN_ap, kN_ok, nilA_ap, consA_ap, kca_ok, kcb_ok, varE_ap, pick_ok, cstE_ap, asgS_ap, kasg_ok, kasg_exc, retS_ap, kret_ok, kret_exc, dropS_ap, kdrop_ok, kdrop_exc, ifS_ap, kif_t, kif_f, ifE_ap, kife_t, kife_f, valT_ap, kval_ok, notT_ap, knot_ok, andT_ap, kand_t, kand_f, orT_ap, kor_t, kor_f, andV_ap, kandv_t, kandv_f, orV_ap, korv_t, korv_f, notV_ap, knotv_ok, callE_ap, kcall_ok, parS_ap, kpar_ok, asgG_ap, forS_ap, kfor_ok, srcE_ap, ksrc_tup, ksrc_str, finF_nx, finF_rt, finF_exc, startE, lft_some, List.length_cons, List.length_nil, List.map_cons, List.map_nil, List.getElem?_cons_succ, List.getElem?_cons_zero, List.set_cons_zero, List.set_cons_succ, List.cons_append, List.nil_append, List.replicate_succ, List.replicate_zero, Nat.reduceAdd, Nat.reduceSub, Nat.sub_self, Nat.zero_add, eqG_int, neG_int, ltG_int, gtG_int, leG_int, geG_int, addG_int, subG_int, negG_int, absG_int, intG_int, gcdG_int, lenG_tup, tupD0, tupD1, tupD2, tupD3, tupD4, lstD0, lstD1, lstD4, isi_int_int, isi_bool_int, isi_tup_tup, decide_true, decide_false, Bool.not_true, Bool.not_false, beq_self_eq_true, Int.reduceBEq, Int.reduceLT, Int.reduceLE, Int.reduceNeg, e, allG_at e2, h1, f, g, List.length_map, h3, k, anyG_at k2, h4, if_true, if_false, reduceCtorEq, told], pq.trans q4⟩
        | false => exact ⟨m4, by simp only [atI_c0, atI_c1, atI_c2, atI_c3, nc0, nc1, nc2, nc3, nc4, nc5, nc6, nc7, nc8, nc9, setG_v, ksv_ok, kso_ok, ksi_ok, ksx_ok, ksy_ok, items_kit, kit_lst, kit_con, idxG_refE, kix_some, idxG_tupE, ofI_some, lenG_refE, klen_some, defF1, defF2, defF3, defF4, defF5, seqS_ap, kseq_nx, kseq_rt, kseq_bk, kseq_ct, kseq_exc, kseq_bad, nxS_ap, bkS_ap, ctS_ap, raiseS_ap, retN_ap, op1_ap, k1_ok, op2_ap, k2a_ok, k2b_ok, opN_ap, kN_ok, nilA_ap, consA_ap, kca_ok, kcb_ok, varE_ap, pick_ok, cstE_ap, asgS_ap, kasg_ok, kasg_exc, retS_ap, kret_ok, kret_exc, dropS_ap, kdrop_ok, kdrop_exc, ifS_ap, kif_t, kif_f, ifE_ap, kife_t, kife_f, valT_ap, kval_ok, notT_ap, knot_ok, andT_ap, kand_t, kand_f, orT_ap, kor_t, kor_f, andV_ap, kandv_t, kandv_f, orV_ap, korv_t, korv_f, notV_ap, knotv_ok, callE_ap, kcall_ok, parS_ap, kpar_ok, asgG_ap, forS_ap, kfor_ok, srcE_ap, ksrc_tup, ksrc_str, finF_nx, finF_rt, finF_exc, startE, lft_some, List.length_cons, List.length_nil, List.map_cons, List.map_nil, List.getElem?_cons_succ, List.getElem?_cons_zero, List.set_cons_zero, List.set_cons_succ, List.cons_append, List.nil_append, List.replicate_succ, List.replicate_zero, Nat.reduceAdd, Nat.reduceSub, Nat.sub_self, Nat.zero_add, eqG_int, neG_int, ltG_int, gtG_int, leG_int, geG_int, addG_int, subG_int, negG_int, absG_int, intG_int, gcdG_int, lenG_tup, tupD0, tupD1, tupD2, tupD3, tupD4, lstD0, lstD1, lstD4, isi_int_int, isi_bool_int, isi_tup_tup, decide_true, decide_false, Bool.not_true, Bool.not_false, beq_self_eq_true, Int.reduceBEq, Int.reduceLT, Int.reduceLE, Int.reduceNeg, e, allG_at e2, h1, f, g, List.length_map, h3, k, anyG_at k2, h4, if_true, if_false, reduceCtorEq, told], pq.trans q4⟩
end Pg

end

section
set_option Elab.async false
set_option linter.all false
set_option maxRecDepth 100000
set_option maxHeartbeats 4000000
open PySem PySem.Spec L2 Mi
open PyProof.Rows hiding St
open scoped Classical
namespace Lw
/-- all but the drawer at k stays, and memory may grow -/
structure Gk (k : Nat) (m m' : Mem) : Prop where
  len : m.length ≤ m'.length
  same : ∀ i, i < m.length → i ≠ k → m'[i]? = m[i]?
theorem Gk.refl {k : Nat} {m : Mem} : Gk k m m := ⟨Nat.le_refl _, fun _ _ _ => rfl⟩
theorem Gk.trans {k : Nat} {m m1 m2 : Mem} (a : Gk k m m1) (b : Gk k m1 m2) : Gk k m m2 := ⟨Nat.le_trans a.len b.len, fun i h hi => (b.same i (Nat.lt_of_lt_of_le h a.len) hi).trans (a.same i h hi)⟩
theorem Gk.of_pre {k : Nat} {m m' : Mem} (h : m <+: m') : Gk k m m' := ⟨h.length_le, fun i hi _ => by
  obtain ⟨r, rfl⟩ := h
  exact List.getElem?_append_left hi⟩
theorem Gk.of_but {k : Nat} {m m' : Mem} (h : But k m m') : Gk k m m' := ⟨Nat.le_of_eq h.len.symm, fun i _ hi => h.get hi⟩
theorem Gk.add {k : Nat} {m m' : Mem} (h : Gk k m m') (l : Mem) : Gk k m (m' ++ l) := h.trans (.of_pre (List.prefix_append _ _))
theorem Gk.set {k : Nat} {m m' : Mem} (h : Gk k m m') {i : Nat} (hi : m.length ≤ i) (o : MO) : Gk k m (m'.set i o) := ⟨by rw [List.length_set]; exact h.len, fun j hj hk => by
  rw [List.getElem?_set_ne (by omega)]
  exact h.same j hj hk⟩
theorem Gk.get {k : Nat} {m m' : Mem} (h : Gk k m m') {i : Nat} (hi : i ≠ k) {o : MO} (e : m[i]? = some o) : m'[i]? = some o := by
  rw [h.same i (List.getElem?_eq_some_iff.mp e).1 hi]
  exact e
theorem Drw.pre {m m' : Mem} {k : Nat} (h : Drw m k) (p : m <+: m') : Drw m' k := by
  obtain ⟨r, rfl⟩ := p
  exact h.app r
theorem Drw.lt {m : Mem} {k : Nat} (h : Drw m k) : k < m.length := by
  obtain ⟨o, e⟩ := h.at
  exact (List.getElem?_eq_some_iff.mp e).1
theorem okI_small {x : Int} (h0 : 0 ≤ x) (h : x ≤ 1000000) : okI x := ⟨by omega, by omega⟩
/-! ## a row -/
theorem row_take {m : Mem} {k c0 : Nat} (h : Drw m k) {reach : Int} (hr : 0 < reach) (hr2 : reach.natAbs.log2 < 9000) (hc : c0 ≤ 1000) (x2 x4 x5 x6 x7 : Option D) :
    ∃ (row : List Int) (m' : Mem), compE [7] (rng1 (consA (varE 1) nilA)) (nameG 7) yesT (callE Lw.f__law_take (consA (varE 0) (consA (varE 3) nilA))) [some (.ref k), some (.int c0), x2, some (.int reach), x4, x5, x6, x7] m = .ok (.ref m.length) m' ∧ m'[m.length]? = some (.lst (row.map .int)) ∧
      row.length = c0 ∧ (∀ n ∈ row, 0 ≤ n ∧ n < reach) ∧ Drw m' k ∧ Gk k m m' := by
  have hi : rng1 (consA (varE 1) nilA) [some (.ref k), some (.int c0), x2, some (.int reach), x4, x5, x6, x7] m = .ok (.fix (iotaD 0 c0)) m := by
    have := rng1_ap (h := consA (varE 1) nilA) (r := [some (.ref k), some (.int c0), x2, some (.int reach), x4, x5, x6, x7]) (m := m) (m' := m) (j := (c0 : Int)) (okI_small (by omega) (by omega)) (by simp only [atI_c0, atI_c1, atI_c2, atI_c3, nc0, nc1, nc2, nc3, nc4, nc5, nc6, nc7, nc8, nc9, setG_v, ksv_ok, kso_ok, ksi_ok, ksx_ok, ksy_ok, items_kit, kit_lst, kit_con, idxG_refE, kix_some, idxG_tupE, ofI_some, lenG_refE, klen_some, defF1, defF2, defF3, defF4, defF5, seqS_ap, kseq_nx, kseq_rt, kseq_bk, kseq_ct, kseq_exc, kseq_bad, nxS_ap, bkS_ap, ctS_ap, raiseS_ap, retN_ap, op1_ap, k1_ok, op2_ap, k2a_ok, k2b_ok, opN_ap, kN_ok, nilA_ap, consA_ap, kca_ok, kcb_ok, varE_ap, pick_ok, cstE_ap, asgS_ap, kasg_ok, kasg_exc, retS_ap, kret_ok, kret_exc, dropS_ap, kdrop_ok, kdrop_exc, ifS_ap, kif_t, kif_f, ifE_ap, kife_t, kife_f, valT_ap, kval_ok, notT_ap, knot_ok, andT_ap, kand_t, kand_f, orT_ap, kor_t, kor_f, andV_ap, kandv_t, kandv_f, orV_ap, korv_t, korv_f, notV_ap, knotv_ok, callE_ap, kcall_ok, parS_ap, kpar_ok, asgG_ap, forS_ap, kfor_ok, srcE_ap, ksrc_tup, ksrc_str, finF_nx, finF_rt, finF_exc, startE, lft_some, List.length_cons, List.length_nil, List.map_cons, List.map_nil, List.getElem?_cons_succ, List.getElem?_cons_zero, List.set_cons_zero, List.set_cons_succ, List.cons_append, List.nil_append, List.replicate_succ, List.replicate_zero, Nat.reduceAdd, Nat.reduceSub, Nat.sub_self, Nat.zero_add, eqG_int, neG_int, ltG_int, gtG_int, leG_int, geG_int, addG_int, subG_int, negG_int, absG_int, intG_int, gcdG_int, lenG_tup, tupD0, tupD1, tupD2, tupD3, tupD4, lstD0, lstD1, lstD4, isi_int_int, isi_bool_int, isi_tup_tup, decide_true, decide_false, Bool.not_true, Bool.not_false, beq_self_eq_true, Int.reduceBEq, Int.reduceLT, Int.reduceLE, Int.reduceNeg])
    rw [this, Int.toNat_natCast]
  have ne : m.length ≠ k := by have := h.lt; omega
  have fin := compL_inv (s := .fix (iotaD 0 c0)) (tg := nameG 7) (c := yesT) (f := callE Lw.f__law_take (consA (varE 0) (consA (varE 3) nilA))) (k := m.length) (r0 := wipeE [some (.ref k), some (.int c0), x2, some (.int reach), x4, x5, x6, x7] [7])
    (fun ds ys m' => m'[m.length]? = some (.lst ys) ∧ Drw m' k ∧ Gk k m m' ∧ ∃ row : List Int, ys = row.map .int ∧ row.length + ds.length = c0 ∧ ∀ n ∈ row, 0 ≤ n ∧ n < reach)
    (fun _ _ _ _ => trivial) (fun d ds ys m' q => by
      obtain ⟨h1, h2, h3, row, e1, e2, e3⟩ := q
      obtain ⟨n, m2, et, n0, n1, d2, b2⟩ := take_eq h2 hr hr2
      have em : m2[m.length]? = some (.lst ys) := by rw [b2.get ne]; exact h1
      have hl : m.length < m2.length := (List.getElem?_eq_some_iff.mp em).1
      refine ⟨_, rfl, .inr ⟨m', .int n, m2, rfl, by simp only [atI_c0, atI_c1, atI_c2, atI_c3, nc0, nc1, nc2, nc3, nc4, nc5, nc6, nc7, nc8, nc9, setG_v, ksv_ok, kso_ok, ksi_ok, ksx_ok, ksy_ok, items_kit, kit_lst, kit_con, idxG_refE, kix_some, idxG_tupE, ofI_some, lenG_refE, klen_some, defF1, defF2, defF3, defF4, defF5, seqS_ap, kseq_nx, kseq_rt, kseq_bk, kseq_ct, kseq_exc, kseq_bad, nxS_ap, bkS_ap, ctS_ap, raiseS_ap, retN_ap, op1_ap, k1_ok, op2_ap, k2a_ok, k2b_ok, opN_ap, kN_ok, nilA_ap, consA_ap, kca_ok, kcb_ok, varE_ap, pick_ok, cstE_ap, asgS_ap, kasg_ok, kasg_exc, retS_ap, kret_ok, kret_exc, dropS_ap, kdrop_ok, kdrop_exc, ifS_ap, kif_t, kif_f, ifE_ap, kife_t, kife_f, valT_ap, kval_ok, notT_ap, knot_ok, andT_ap, kand_t, kand_f, orT_ap, kor_t, kor_f, andV_ap, kandv_t, kandv_f, orV_ap, korv_t, korv_f, notV_ap, knotv_ok, callE_ap, kcall_ok, parS_ap, kpar_ok, asgG_ap, forS_ap, kfor_ok, srcE_ap, ksrc_tup, ksrc_str, finF_nx, finF_rt, finF_exc, startE, lft_some, List.length_cons, List.length_nil, List.map_cons, List.map_nil, List.getElem?_cons_succ, List.getElem?_cons_zero, List.set_cons_zero, List.set_cons_succ, List.cons_append, List.nil_append, List.replicate_succ, List.replicate_zero, Nat.reduceAdd, Nat.reduceSub, Nat.sub_self, Nat.zero_add, eqG_int, neG_int, ltG_int, gtG_int, leG_int, geG_int, addG_int, subG_int, negG_int, absG_int, intG_int, gcdG_int, lenG_tup, tupD0, tupD1, tupD2, tupD3, tupD4, lstD0, lstD1, lstD4, isi_int_int, isi_bool_int, isi_tup_tup, decide_true, decide_false, Bool.not_true, Bool.not_false, beq_self_eq_true, Int.reduceBEq, Int.reduceLT, Int.reduceLE, Int.reduceNeg, wipeE, et], em, ?_, List.getElem?_set_self hl, d2.set h.lt _, (h3.trans (.of_but b2)).set (Nat.le_refl _) _, row ++ [n], by rw [e1]; simp, ?_, ?_⟩⟩
      · rw [e1, List.length_map]
        simp only [List.length_cons] at e2
        exact Nat.lt_of_le_of_lt (by omega : row.length ≤ 1000) (by decide)
      · simp only [List.length_cons] at e2
        simp
        omega
      · intro z hz
        rcases List.mem_append.mp hz with hz | hz
        · exact e3 z hz
        · cases List.mem_singleton.mp hz
          exact ⟨n0, n1⟩)
    (iotaD 0 c0) [] (m ++ [.lst []]) ⟨last_at _ _, h.app _, .of_pre (List.prefix_append _ _), [], rfl, by rw [iotaD_length]; simp, by simp⟩
  obtain ⟨ys, m', e, h1, h2, h3, row, e1, e2, e3⟩ := fin
  refine ⟨row, m', ?_, by rw [h1, e1], by simpa using e2, e3, h2, h3⟩
  unfold compE
  rw [hi, bind_ok]
  exact e
/-! ## rows among rows -/
theorem eqvAll_ints : ∀ xs ys : List Int, PyData.eqvAll (D.pdL (xs.map .int)) (D.pdL (ys.map .int)) = decide (xs = ys)
  | [], [] => by simp [D.pdL, PyData.eqvAll]
  | [], y :: ys => by simp [D.pdL, PyData.eqvAll]
  | x :: xs, [] => by simp [D.pdL, PyData.eqvAll]
  | x :: xs, y :: ys => by
    show (PyData.eqv (.int x) (.int y) && PyData.eqvAll (D.pdL (xs.map .int)) (D.pdL (ys.map .int))) = _
    rw [eqvAll_ints xs ys]
    simp only [PyData.eqv, List.cons.injEq, Bool.decide_and]
    rfl
theorem any_rows (row : List Int) : ∀ R : List (List Int), ((D.pdL (R.map rowD)).any fun e => PyData.eqv e (rowD row).pd) = decide (row ∈ R)
  | [] => by simp [D.pdL]
  | x :: R => by
    show (PyData.eqvAll (D.pdL (x.map .int)) (D.pdL (row.map .int)) || (D.pdL (R.map rowD)).any fun e => PyData.eqv e (rowD row).pd) = _
    rw [any_rows row R, eqvAll_ints]
    by_cases h : x = row
    · subst h; simp
    · have h' : ¬ row = x := fun e => h e.symm
      simp [h, h']
theorem lay_rows : ∀ R : List (List Int), PyData.canLayAll0 (D.pdL (R.map rowD)) = true
  | [] => rfl
  | x :: R => by
    show (PyData.canLayAll0 (D.pdL (x.map .int)) && PyData.canLayAll0 (D.pdL (R.map rowD))) = true
    rw [layAll_ints, lay_rows R]
    rfl
theorem depth_rows : ∀ R : List (List Int), PyData.depthAll (D.pdL (R.map rowD)) ≤ 1
  | [] => by simp [D.pdL, PyData.depthAll]
  | x :: R => by
    show max (PyData.depthAll (D.pdL (x.map .int)) + 1) (PyData.depthAll (D.pdL (R.map rowD))) ≤ 1
    rw [Mi.depthAll_ints]
    have := depth_rows R
    omega
theorem shaped_row (row : List Int) : SeqAt.shaped (rowD row).pd = true := by
  unfold SeqAt.shaped
  rw [Bool.and_eq_true, decide_eq_true_eq]
  refine ⟨layAll_ints row, ?_⟩
  show PyData.depthAll (D.pdL (row.map .int)) + 1 ≤ 64
  rw [Mi.depthAll_ints]
  decide
theorem shaped_rows (R : List (List Int)) : SeqAt.shaped (.list (D.pdL (R.map rowD))) = true := by
  unfold SeqAt.shaped
  rw [Bool.and_eq_true, decide_eq_true_eq]
  refine ⟨lay_rows R, ?_⟩
  show PyData.depthAll (D.pdL (R.map rowD)) + 1 ≤ 64
  have := depth_rows R
  omega
theorem ninG_rows {m : Mem} {L : Nat} {R : List (List Int)} (h : m[L]? = some (.lst (R.map rowD))) (row : List Int) : ninG (rowD row) (.ref L) m = some (.bl (!decide (row ∈ R)), m) := by
  have e : inB (rowD row) (.ref L) m = some (decide (row ∈ R)) := by
    show (match itemsOf m L with
      | some ds => if (SeqAt.shaped (rowD row).pd && SeqAt.shaped (PyData.list (D.pdL ds))) = true then some ((D.pdL ds).any fun e => PyData.eqv e (rowD row).pd) else none
      | none => inO m[L]? (rowD row)) = _
    rw [items_lst h]
    dsimp only
    rw [shaped_row, shaped_rows, any_rows]
    rfl
  unfold ninG
  rw [e]
  rfl
/-! ## sorted rows -/
def rowLe (a b : List Int) : Bool := !decide (b < a)
theorem sort_rows (R : List (List Int)) : sortD (R.map rowD) = (R.mergeSort rowLe).map rowD := by
  unfold sortD
  rw [List.map_mergeSort (r := rowLe) (s := PySem.W.dataLe false D.pd) (f := rowD)]
  intro a _ b _
  show (!decide (b < a)) = (!PySem.W.dataLt (rowD b).pd (rowD a).pd)
  rw [dataLt_rowD]
theorem sortOk_rows {R : List (List Int)} (h : ∀ row ∈ R, row ≠ []) : SortOk (R.map rowD) := by
  refine ⟨fun _ => ?_, fun _ => .inl ?_, ?_⟩
  · intro d hd d' hd'
    simp only [List.map_map, List.mem_map, Function.comp] at hd hd'
    obtain ⟨a, _, rfl⟩ := hd
    obtain ⟨b, _, rfl⟩ := hd'
    show PySem.W.alikeAll (D.pdL (a.map .int)) (D.pdL (b.map .int)) = true
    rw [pdL_ints, pdL_ints]
    exact PySem.W.alike_ints a b
  · intro d hd
    simp only [List.map_map, List.mem_map, Function.comp] at hd
    obtain ⟨a, ha, rfl⟩ := hd
    cases a with
    | nil => exact absurd rfl (h _ ha)
    | cons x l => exact ⟨.int x, D.pdL (l.map .int), rfl⟩
  · intro d hd
    obtain ⟨a, _, rfl⟩ := List.mem_map.mp hd
    refine ⟨layAll_ints a, ?_⟩
    show PyData.depthAll (D.pdL (a.map .int)) + 1 ≤ 64
    rw [Mi.depthAll_ints]
    decide
theorem sortedG_rows {m : Mem} {L : Nat} {R : List (List Int)} (h : m[L]? = some (.lst (R.map rowD))) (hn : ∀ row ∈ R, row ≠ []) : sortedG [.ref L] m = some (.ref m.length, m ++ [.lst ((R.mergeSort rowLe).map rowD)]) := by
  show (match itemsOf m L with
    | some ds => if SortOk ds then some (D.ref m.length, m ++ [MO.lst (sortD ds)]) else none
    | none => none) = _
  rw [items_lst h]
  dsimp only
  rw [if_pos (sortOk_rows hn), sort_rows]
theorem sort_asc {R : List (List Int)} (h : R.Nodup) : (R.mergeSort rowLe).Pairwise (· < ·) := by
  have hp := List.mergeSort_perm R rowLe
  have hs : (R.mergeSort rowLe).Pairwise (fun a b => rowLe a b = true) := by
    refine List.pairwise_mergeSort ?_ ?_ R
    · intro a b c h1 h2
      unfold rowLe at *
      simp only [Bool.not_eq_true', decide_eq_false_iff_not] at *
      have h1 : a ≤ b := List.not_lt.mp h1
      have h2 : b ≤ c := List.not_lt.mp h2
      exact List.not_lt.mpr (List.le_trans h1 h2)
    · intro a b
      unfold rowLe
      simp only [Bool.or_eq_true, Bool.not_eq_true', decide_eq_false_iff_not]
      rcases List.le_total a b with h | h
      · exact .inl (List.not_lt.mpr h)
      · exact .inr (List.not_lt.mpr h)
  have hn : (R.mergeSort rowLe).Nodup := hp.nodup_iff.mpr h
  refine (hs.and hn).imp fun {a b} q => ?_
  unfold rowLe at q
  simp only [Bool.not_eq_true', decide_eq_false_iff_not] at q
  obtain ⟨q1, q2⟩ := q
  have q1 : a ≤ b := List.not_lt.mp q1
  by_cases hab : a < b
  · exact hab
  · exact absurd (List.le_antisymm q1 (List.not_lt.mp hab)) q2
end Lw

end

section
set_option Elab.async false
set_option linter.all false
set_option maxRecDepth 100000
set_option maxHeartbeats 4000000
open PySem PySem.Spec L2 Mi
open PyProof.Rows hiding St
namespace Lw
open Pg (Tab tabD catD)
abbrev rowsR (k : Nat) (c0 : Nat) (most : Nat) (reach : Int) (L : Nat) (a b c : Option D) : Mi.Env := [some (.ref k), some (.int c0), some (.int most), some (.int reach), some (.ref L), a, b, c]
theorem rows_a {m' m4 : Mem} {k c0 most L : Nat} {reach : Int} {d : D} {x6 x7 : Option D} {row : List Int}
    (e4 : compE [7] (rng1 (consA (varE 1) nilA)) (nameG 7) yesT (callE Lw.f__law_take (consA (varE 0) (consA (varE 3) nilA))) [some (.ref k), some (.int c0), some (.int most), some (.int reach), some (.ref L), some d, x6, x7] m' = .ok (.ref m'.length) m4)
    (b4 : m4[m'.length]? = some (.lst (row.map .int))) :
    asgS 6 (opN (consA (compE [7] (rng1 (consA (varE 1) nilA)) (nameG 7) yesT (callE Lw.f__law_take (consA (varE 0) (consA (varE 3) nilA)))) nilA) tupleG) (rowsR k c0 most reach L (some d) x6 x7) m' = .ok .nx (rowsR k c0 most reach L (some d) (some (rowD row)) x7) m4 := by
  simp only [atI_c0, atI_c1, atI_c2, atI_c3, nc0, nc1, nc2, nc3, nc4, nc5, nc6, nc7, nc8, nc9, setG_v, ksv_ok, kso_ok, ksi_ok, ksx_ok, ksy_ok, items_kit, kit_lst, kit_con, idxG_refE, kix_some, idxG_tupE, ofI_some, lenG_refE, klen_some, defF1, defF2, defF3, defF4, defF5, seqS_ap, kseq_nx, kseq_rt, kseq_bk, kseq_ct, kseq_exc, kseq_bad, nxS_ap, bkS_ap, ctS_ap, raiseS_ap, retN_ap, op1_ap, k1_ok, op2_ap, k2a_ok, k2b_ok, opN_ap, kN_ok, nilA_ap, consA_ap, kca_ok, kcb_ok, varE_ap, pick_ok, cstE_ap, asgS_ap, kasg_ok, kasg_exc, retS_ap, kret_ok, kret_exc, dropS_ap, kdrop_ok, kdrop_exc, ifS_ap, kif_t, kif_f, ifE_ap, kife_t, kife_f, valT_ap, kval_ok, notT_ap, knot_ok, andT_ap, kand_t, kand_f, orT_ap, kor_t, kor_f, andV_ap, kandv_t, kandv_f, orV_ap, korv_t, korv_f, notV_ap, knotv_ok, callE_ap, kcall_ok, parS_ap, kpar_ok, asgG_ap, forS_ap, kfor_ok, srcE_ap, ksrc_tup, ksrc_str, finF_nx, finF_rt, finF_exc, startE, lft_some, List.length_cons, List.length_nil, List.map_cons, List.map_nil, List.getElem?_cons_succ, List.getElem?_cons_zero, List.set_cons_zero, List.set_cons_succ, List.cons_append, List.nil_append, List.replicate_succ, List.replicate_zero, Nat.reduceAdd, Nat.reduceSub, Nat.sub_self, Nat.zero_add, eqG_int, neG_int, ltG_int, gtG_int, leG_int, geG_int, addG_int, subG_int, negG_int, absG_int, intG_int, gcdG_int, lenG_tup, tupD0, tupD1, tupD2, tupD3, tupD4, lstD0, lstD1, lstD4, isi_int_int, isi_bool_int, isi_tup_tup, decide_true, decide_false, Bool.not_true, Bool.not_false, beq_self_eq_true, Int.reduceBEq, Int.reduceLT, Int.reduceLE, Int.reduceNeg, e4, tupleG_at b4]
theorem rows_b {m4 : Mem} {k c0 most L : Nat} {reach : Int} {d : D} {x7 : Option D} {row : List Int} {R : List (List Int)} (a4 : m4[L]? = some (.lst (R.map rowD))) (hm' : row ∈ R) :
    ifS (valT (op2 (varE 6) (varE 4) ninG)) (seqS (dropS (appE (varE 4) (varE 6))) nxS) nxS (rowsR k c0 most reach L (some d) (some (rowD row)) x7) m4 = .ok .nx (rowsR k c0 most reach L (some d) (some (rowD row)) x7) m4 := by
  simp only [atI_c0, atI_c1, atI_c2, atI_c3, nc0, nc1, nc2, nc3, nc4, nc5, nc6, nc7, nc8, nc9, setG_v, ksv_ok, kso_ok, ksi_ok, ksx_ok, ksy_ok, items_kit, kit_lst, kit_con, idxG_refE, kix_some, idxG_tupE, ofI_some, lenG_refE, klen_some, defF1, defF2, defF3, defF4, defF5, seqS_ap, kseq_nx, kseq_rt, kseq_bk, kseq_ct, kseq_exc, kseq_bad, nxS_ap, bkS_ap, ctS_ap, raiseS_ap, retN_ap, op1_ap, k1_ok, op2_ap, k2a_ok, k2b_ok, opN_ap, kN_ok, nilA_ap, consA_ap, kca_ok, kcb_ok, varE_ap, pick_ok, cstE_ap, asgS_ap, kasg_ok, kasg_exc, retS_ap, kret_ok, kret_exc, dropS_ap, kdrop_ok, kdrop_exc, ifS_ap, kif_t, kif_f, ifE_ap, kife_t, kife_f, valT_ap, kval_ok, notT_ap, knot_ok, andT_ap, kand_t, kand_f, orT_ap, kor_t, kor_f, andV_ap, kandv_t, kandv_f, orV_ap, korv_t, korv_f, notV_ap, knotv_ok, callE_ap, kcall_ok, parS_ap, kpar_ok, asgG_ap, forS_ap, kfor_ok, srcE_ap, ksrc_tup, ksrc_str, finF_nx, finF_rt, finF_exc, startE, lft_some, List.length_cons, List.length_nil, List.map_cons, List.map_nil, List.getElem?_cons_succ, List.getElem?_cons_zero, List.set_cons_zero, List.set_cons_succ, List.cons_append, List.nil_append, List.replicate_succ, List.replicate_zero, Nat.reduceAdd, Nat.reduceSub, Nat.sub_self, Nat.zero_add, eqG_int, neG_int, ltG_int, gtG_int, leG_int, geG_int, addG_int, subG_int, negG_int, absG_int, intG_int, gcdG_int, lenG_tup, tupD0, tupD1, tupD2, tupD3, tupD4, lstD0, lstD1, lstD4, isi_int_int, isi_bool_int, isi_tup_tup, decide_true, decide_false, Bool.not_true, Bool.not_false, beq_self_eq_true, Int.reduceBEq, Int.reduceLT, Int.reduceLE, Int.reduceNeg, ninG_rows a4 row, decide_eq_true hm', Bool.false_eq_true, if_false, if_true]
theorem rows_c {m4 : Mem} {k c0 most L : Nat} {reach : Int} {d : D} {x7 : Option D} {row : List Int} {R : List (List Int)} (a4 : m4[L]? = some (.lst (R.map rowD))) (hm' : ¬ row ∈ R) (hz : (R.map rowD).length < sizeLine) :
    ifS (valT (op2 (varE 6) (varE 4) ninG)) (seqS (dropS (appE (varE 4) (varE 6))) nxS) nxS (rowsR k c0 most reach L (some d) (some (rowD row)) x7) m4 = .ok .nx (rowsR k c0 most reach L (some d) (some (rowD row)) x7) (m4.set L (.lst (R.map rowD ++ [rowD row]))) := by
  have ek := kapp_ok (b := varE 6) (r := [some (.ref k), some (.int c0), some (.int most), some (.int reach), some (.ref L), some d, some (rowD row), x7]) (m := m4) (d := rowD row) a4 rfl a4 hz
  simp only [atI_c0, atI_c1, atI_c2, atI_c3, nc0, nc1, nc2, nc3, nc4, nc5, nc6, nc7, nc8, nc9, setG_v, ksv_ok, kso_ok, ksi_ok, ksx_ok, ksy_ok, items_kit, kit_lst, kit_con, idxG_refE, kix_some, idxG_tupE, ofI_some, lenG_refE, klen_some, defF1, defF2, defF3, defF4, defF5, seqS_ap, kseq_nx, kseq_rt, kseq_bk, kseq_ct, kseq_exc, kseq_bad, nxS_ap, bkS_ap, ctS_ap, raiseS_ap, retN_ap, op1_ap, k1_ok, op2_ap, k2a_ok, k2b_ok, opN_ap, kN_ok, nilA_ap, consA_ap, kca_ok, kcb_ok, varE_ap, pick_ok, cstE_ap, asgS_ap, kasg_ok, kasg_exc, retS_ap, kret_ok, kret_exc, dropS_ap, kdrop_ok, kdrop_exc, ifS_ap, kif_t, kif_f, ifE_ap, kife_t, kife_f, valT_ap, kval_ok, notT_ap, knot_ok, andT_ap, kand_t, kand_f, orT_ap, kor_t, kor_f, andV_ap, kandv_t, kandv_f, orV_ap, korv_t, korv_f, notV_ap, knotv_ok, callE_ap, kcall_ok, parS_ap, kpar_ok, asgG_ap, forS_ap, kfor_ok, srcE_ap, ksrc_tup, ksrc_str, finF_nx, finF_rt, finF_exc, startE, lft_some, List.length_cons, List.length_nil, List.map_cons, List.map_nil, List.getElem?_cons_succ, List.getElem?_cons_zero, List.set_cons_zero, List.set_cons_succ, List.cons_append, List.nil_append, List.replicate_succ, List.replicate_zero, Nat.reduceAdd, Nat.reduceSub, Nat.sub_self, Nat.zero_add, eqG_int, neG_int, ltG_int, gtG_int, leG_int, geG_int, addG_int, subG_int, negG_int, absG_int, intG_int, gcdG_int, lenG_tup, tupD0, tupD1, tupD2, tupD3, tupD4, lstD0, lstD1, lstD4, isi_int_int, isi_bool_int, isi_tup_tup, decide_true, decide_false, Bool.not_true, Bool.not_false, beq_self_eq_true, Int.reduceBEq, Int.reduceLT, Int.reduceLE, Int.reduceNeg, ninG_rows a4 row, decide_eq_false hm', appE_ap, ek, Bool.false_eq_true, if_false, if_true]
theorem rows_eq {m : Mem} {k c0 most : Nat} (h : Drw m k) {reach : Int} (hr : 0 < reach) (hr2 : reach.natAbs.log2 < 9000) (hc1 : 1 ≤ c0) (hc : c0 ≤ 1000) (hm : most ≤ 1000) :
    ∃ (R : List (List Int)) (m' : Mem), f__law_rows [.ref k, .int c0, .int most, .int reach] m = .ok (.tup (R.map rowD)) m' ∧ R.Pairwise (· < ·) ∧ (∀ row ∈ R, row.length = c0 ∧ ∀ n ∈ row, 0 ≤ n ∧ n < reach) ∧ R.length ≤ most ∧ Drw m' k ∧ Gk k m m' := by
  have hk := h.lt
  have hl : (most + 1 : Int).natAbs.log2 < 9000 := by
    refine Nat.lt_of_lt_of_le (Pg.log_of (k := 11) ?_ (by omega)) (by omega)
    have e : (most + 1 : Int).natAbs = most + 1 := by omega
    rw [e]
    omega
  obtain ⟨t, m2, et, t0, t1, d2, b2⟩ := take_eq (h.app [.lst []]) (n := (most + 1 : Int)) (by omega) hl
  have at2 : m2[m.length]? = some (.lst []) := by rw [b2.get (by omega)]; exact last_at _ _
  have g2 : Gk k m m2 := (Gk.of_pre (List.prefix_append _ _)).trans (.of_but b2)
  have hi : rng1 (consA (callE Lw.f__law_take (consA (varE 0) (consA (op2 (varE 2) (cstE (.int 1)) addG) nilA))) nilA) [some (.ref k), some (.int c0), some (.int most), some (.int reach), some (.ref m.length), none, none, none] (m ++ [.lst []]) = .ok (.fix (iotaD 0 t.toNat)) m2 :=
    rng1_ap (okI_small t0 (by omega)) (by simp only [atI_c0, atI_c1, atI_c2, atI_c3, nc0, nc1, nc2, nc3, nc4, nc5, nc6, nc7, nc8, nc9, setG_v, ksv_ok, kso_ok, ksi_ok, ksx_ok, ksy_ok, items_kit, kit_lst, kit_con, idxG_refE, kix_some, idxG_tupE, ofI_some, lenG_refE, klen_some, defF1, defF2, defF3, defF4, defF5, seqS_ap, kseq_nx, kseq_rt, kseq_bk, kseq_ct, kseq_exc, kseq_bad, nxS_ap, bkS_ap, ctS_ap, raiseS_ap, retN_ap, op1_ap, k1_ok, op2_ap, k2a_ok, k2b_ok, opN_ap, kN_ok, nilA_ap, consA_ap, kca_ok, kcb_ok, varE_ap, pick_ok, cstE_ap, asgS_ap, kasg_ok, kasg_exc, retS_ap, kret_ok, kret_exc, dropS_ap, kdrop_ok, kdrop_exc, ifS_ap, kif_t, kif_f, ifE_ap, kife_t, kife_f, valT_ap, kval_ok, notT_ap, knot_ok, andT_ap, kand_t, kand_f, orT_ap, kor_t, kor_f, andV_ap, kandv_t, kandv_f, orV_ap, korv_t, korv_f, notV_ap, knotv_ok, callE_ap, kcall_ok, parS_ap, kpar_ok, asgG_ap, forS_ap, kfor_ok, srcE_ap, ksrc_tup, ksrc_str, finF_nx, finF_rt, finF_exc, startE, lft_some, List.length_cons, List.length_nil, List.map_cons, List.map_nil, List.getElem?_cons_succ, List.getElem?_cons_zero, List.set_cons_zero, List.set_cons_succ, List.cons_append, List.nil_append, List.replicate_succ, List.replicate_zero, Nat.reduceAdd, Nat.reduceSub, Nat.sub_self, Nat.zero_add, eqG_int, neG_int, ltG_int, gtG_int, leG_int, geG_int, addG_int, subG_int, negG_int, absG_int, intG_int, gcdG_int, lenG_tup, tupD0, tupD1, tupD2, tupD3, tupD4, lstD0, lstD1, lstD4, isi_int_int, isi_bool_int, isi_tup_tup, decide_true, decide_false, Bool.not_true, Bool.not_false, beq_self_eq_true, Int.reduceBEq, Int.reduceLT, Int.reduceLE, Int.reduceNeg, et])
  obtain ⟨r', m3, ef, R, x5, x6, x7, er, a3, nd, gd, ln, d3, g3⟩ := forL_fix (s := .fix (iotaD 0 t.toNat)) (tg := nameG 5) (b := seqS (asgS 6 (opN (consA (compE [7] (rng1 (consA (varE 1) nilA)) (nameG 7) yesT (callE Lw.f__law_take (consA (varE 0) (consA (varE 3) nilA)))) nilA) tupleG)) (seqS (ifS (valT (op2 (varE 6) (varE 4) ninG)) (seqS (dropS (appE (varE 4) (varE 6))) nxS) nxS) nxS))
    (fun ds r m' => ∃ (R : List (List Int)) (x5 x6 x7 : Option D), r = [some (.ref k), some (.int c0), some (.int most), some (.int reach), some (.ref m.length), x5, x6, x7] ∧ m'[m.length]? = some (.lst (R.map rowD)) ∧ R.Nodup ∧ (∀ row ∈ R, row.length = c0 ∧ ∀ n ∈ row, 0 ≤ n ∧ n < reach) ∧ R.length + ds.length ≤ most ∧ Drw m' k ∧ Gk k m m')
    (fun _ _ _ _ => trivial)
    (fun d ds r m' q => by
      obtain ⟨R, x5, x6, x7, rfl, a1, nd, gd, ln, d1, g1⟩ := q
      refine ⟨rowsR k c0 most reach m.length (some d) x6 x7, rfl, ?_⟩
      obtain ⟨row, m4, e4, b4, l4, p4, d4, g4⟩ := row_take d1 hr hr2 hc (some (.int most)) (some (.ref m.length)) (some d) x6 x7
      have a4 : m4[m.length]? = some (.lst (R.map rowD)) := g4.get (by omega) a1
      simp only [List.length_cons] at ln
      by_cases hm' : row ∈ R
      · refine ⟨_, m4, .inl ?_, R, some d, some (rowD row), x7, rfl, a4, nd, gd, by omega, d4, g1.trans g4⟩
        rw [seqS_ap, rows_a e4 b4, kseq_nx, seqS_ap, rows_b a4 hm', kseq_nx, nxS_ap]
      · have hz : (R.map rowD).length < sizeLine := by rw [List.length_map]; exact Nat.lt_of_le_of_lt (by omega : R.length ≤ 1000) (by decide)
        refine ⟨_, m4.set m.length (.lst (R.map rowD ++ [rowD row])), .inl ?_, R ++ [row], some d, some (rowD row), x7, rfl, ?_, ?_, ?_, ?_, d4.set (by omega) _, (g1.trans g4).set (Nat.le_refl _) _⟩
        · rw [seqS_ap, rows_a e4 b4, kseq_nx, seqS_ap, rows_c a4 hm' hz, kseq_nx, nxS_ap]
        · rw [List.getElem?_set_self (List.getElem?_eq_some_iff.mp a4).1, List.map_append]
          rfl
        · rw [List.nodup_append]
          refine ⟨nd, by simp, fun a ha b hb e => ?_⟩
          cases List.mem_singleton.mp hb
          exact hm' (e ▸ ha)
        · intro z hz
          rcases List.mem_append.mp hz with hz | hz
          · exact gd z hz
          · cases List.mem_singleton.mp hz
            exact ⟨l4, p4⟩
        · simp
          omega)
    (iotaD 0 t.toNat) [some (.ref k), some (.int c0), some (.int most), some (.int reach), some (.ref m.length), none, none, none] m2
    ⟨[], none, none, none, rfl, at2, by simp, by simp, by rw [iotaD_length]; simp; omega, d2, g2⟩
  subst er
  have hne : ∀ row ∈ R, row ≠ [] := fun row hrow e => by
    have := (gd row hrow).1
    rw [e] at this
    simp at this
    omega
  refine ⟨R.mergeSort rowLe, m3 ++ [.lst ((R.mergeSort rowLe).map rowD)], ?_, sort_asc nd, fun row hrow => gd row ((List.mergeSort_perm R rowLe).mem_iff.mp hrow), ?_, d3.app _, g3.add _⟩
  · unfold f__law_rows
    simp only [atI_c0, atI_c1, atI_c2, atI_c3, nc0, nc1, nc2, nc3, nc4, nc5, nc6, nc7, nc8, nc9, setG_v, ksv_ok, kso_ok, ksi_ok, ksx_ok, ksy_ok, items_kit, kit_lst, kit_con, idxG_refE, kix_some, idxG_tupE, ofI_some, lenG_refE, klen_some, defF1, defF2, defF3, defF4, defF5, seqS_ap, kseq_nx, kseq_rt, kseq_bk, kseq_ct, kseq_exc, kseq_bad, nxS_ap, bkS_ap, ctS_ap, raiseS_ap, retN_ap, op1_ap, k1_ok, op2_ap, k2a_ok, k2b_ok, opN_ap, kN_ok, nilA_ap, consA_ap, kca_ok, kcb_ok, varE_ap, pick_ok, cstE_ap, asgS_ap, kasg_ok, kasg_exc, retS_ap, kret_ok, kret_exc, dropS_ap, kdrop_ok, kdrop_exc, ifS_ap, kif_t, kif_f, ifE_ap, kife_t, kife_f, valT_ap, kval_ok, notT_ap, knot_ok, andT_ap, kand_t, kand_f, orT_ap, kor_t, kor_f, andV_ap, kandv_t, kandv_f, orV_ap, korv_t, korv_f, notV_ap, knotv_ok, callE_ap, kcall_ok, parS_ap, kpar_ok, asgG_ap, forS_ap, kfor_ok, srcE_ap, ksrc_tup, ksrc_str, finF_nx, finF_rt, finF_exc, startE, lft_some, List.length_cons, List.length_nil, List.map_cons, List.map_nil, List.getElem?_cons_succ, List.getElem?_cons_zero, List.set_cons_zero, List.set_cons_succ, List.cons_append, List.nil_append, List.replicate_succ, List.replicate_zero, Nat.reduceAdd, Nat.reduceSub, Nat.sub_self, Nat.zero_add, eqG_int, neG_int, ltG_int, gtG_int, leG_int, geG_int, addG_int, subG_int, negG_int, absG_int, intG_int, gcdG_int, lenG_tup, tupD0, tupD1, tupD2, tupD3, tupD4, lstD0, lstD1, lstD4, isi_int_int, isi_bool_int, isi_tup_tup, decide_true, decide_false, Bool.not_true, Bool.not_false, beq_self_eq_true, Int.reduceBEq, Int.reduceLT, Int.reduceLE, Int.reduceNeg, forS_ap, hi, Src.items, ef, sortedG_rows a3 hne, tupleG_at (last_at m3 _)]
  · rw [List.length_mergeSort]
    simpa using ln
/-! ## a catalogue -/
def nm (i c : Nat) : PySem.Str := (⟨#[97 + i]⟩ : PySem.Str) ++ ((toString (c : Int) : String) : PySem.Str)
structure GoodT (most : Nat) (reach : Int) (i : Nat) (t : Tab) : Prop where
  ex : ∃ c : Nat, 1 ≤ c ∧ c ≤ 4 ∧ t.1 = nm i c ∧ t.2.1 = (c : Int) ∧ ∀ row ∈ t.2.2, row.length = c ∧ ∀ n ∈ row, 0 ≤ n ∧ n < reach
  up : t.2.2.Pairwise (· < ·)
  len : t.2.2.length ≤ most
def GoodC (most : Nat) (reach : Int) (C : List Tab) : Prop := ∀ i t, C[i]? = some t → GoodT most reach i t
theorem GoodC.snoc {most : Nat} {reach : Int} {C : List Tab} (h : GoodC most reach C) {t : Tab} (ht : GoodT most reach C.length t) : GoodC most reach (C ++ [t]) := fun i u e => by
  rcases snoc_get e with e | ⟨rfl, rfl⟩
  · exact h i u e
  · exact ht
theorem col_at {j : Int} (h0 : 0 ≤ j) (h6 : j < 6) (m : Mem) : ∃ c : Nat, 1 ≤ c ∧ c ≤ 4 ∧ idxG (.tup [.int 2, .int 2, .int 2, .int 1, .int 3, .int 4]) (.int j) m = some (.int (c : Int), m) := by
  have : j = 0 ∨ j = 1 ∨ j = 2 ∨ j = 3 ∨ j = 4 ∨ j = 5 := by omega
  rcases this with rfl | rfl | rfl | rfl | rfl | rfl
  · exact ⟨2, by decide, by decide, rfl⟩
  · exact ⟨2, by decide, by decide, rfl⟩
  · exact ⟨2, by decide, by decide, rfl⟩
  · exact ⟨1, by decide, by decide, rfl⟩
  · exact ⟨3, by decide, by decide, rfl⟩
  · exact ⟨4, by decide, by decide, rfl⟩
theorem let_at {i : Nat} (h : i < 8) (m : Mem) : idxG (.str "abcdefgh") (.int (i : Int)) m = some (.str ⟨#[97 + i]⟩, m) := by
  have : i = 0 ∨ i = 1 ∨ i = 2 ∨ i = 3 ∨ i = 4 ∨ i = 5 ∨ i = 6 ∨ i = 7 := by omega
  rcases this with rfl | rfl | rfl | rfl | rfl | rfl | rfl | rfl <;> exact idxG_sure (by decide +kernel) (by decide +kernel)
theorem str_at {c : Nat} (h : c ≤ 4) (m : Mem) : strG [.int (c : Int)] m = some (.str ((toString (c : Int) : String) : PySem.Str), m) := by
  show (if (c : Int).natAbs.log2 < 1920 then some (D.str ((toString (c : Int) : String) : PySem.Str), m) else none) = _
  rw [if_pos (Nat.lt_of_lt_of_le (Pg.log_of (k := 11) (by omega) (by omega)) (by omega))]
theorem nm_len {i c : Nat} (h1 : 1 ≤ c) (h : c ≤ 4) : (⟨#[97 + i]⟩ : PySem.Str).length = 1 ∧ ((toString (c : Int) : String) : PySem.Str).length = 1 := by
  have : c = 1 ∨ c = 2 ∨ c = 3 ∨ c = 4 := by omega
  rcases this with rfl | rfl | rfl | rfl <;> exact ⟨rfl, by decide +kernel⟩
theorem nm_add {i c : Nat} (h1 : 1 ≤ c) (h : c ≤ 4) (m : Mem) : addG (.str ⟨#[97 + i]⟩) (.str ((toString (c : Int) : String) : PySem.Str)) m = some (.str (nm i c), m) := by
  obtain ⟨l1, l2⟩ := nm_len (i := i) h1 h
  show (if (⟨#[97 + i]⟩ : PySem.Str).length + ((toString (c : Int) : String) : PySem.Str).length ≤ sizeLine then some (D.str (nm i c), m) else none) = _
  rw [l1, l2, if_pos (by decide)]
abbrev catR (k many most : Nat) (reach : Int) (L : Nat) (a b : Option D) : Mi.Env := [some (.ref k), some (.int many), some (.int most), some (.int reach), some (.ref L), a, b]
theorem cat_a {m m' : Mem} {k many most L : Nat} {reach : Int} {d : D} {x6 : Option D} {j : Int} {c : Nat} (et : f__law_take [.ref k, .int 6] m = .ok (.int j) m') (ec : idxG (.tup [.int 2, .int 2, .int 2, .int 1, .int 3, .int 4]) (.int j) m' = some (.int (c : Int), m')) :
    asgS 6 (op2 (opN (consA (cstE (.int 2)) (consA (cstE (.int 2)) (consA (cstE (.int 2)) (consA (cstE (.int 1)) (consA (cstE (.int 3)) (consA (cstE (.int 4)) nilA)))))) tupD) (callE Lw.f__law_take (consA (varE 0) (consA (cstE (.int 6)) nilA))) idxG) (catR k many most reach L (some d) x6) m = .ok .nx (catR k many most reach L (some d) (some (.int c))) m' := by
  have e6 : tupD [.int 2, .int 2, .int 2, .int 1, .int 3, .int 4] m = some (.tup [.int 2, .int 2, .int 2, .int 1, .int 3, .int 4], m) := rfl
  simp only [asgS_ap, op2_ap, opN_ap, consA_ap, cstE_ap, kca_ok, nilA_ap, kcb_ok, kN_ok, e6, lft_some, k2a_ok, callE_ap, varE_ap, List.getElem?_cons_zero, pick_ok, kcall_ok, et, k2b_ok, ec, kasg_ok, List.set_cons_succ, List.set_cons_zero]
theorem cat_b {m : Mem} {k many most L : Nat} {reach : Int} {d : D} {c : Nat} (hm : most ≤ 8) {f : FS} :
    ifS (andT (valT (op2 (varE 6) (cstE (.int 2)) gtG)) (valT (op2 (varE 2) (cstE (.int 8)) gtG))) f nxS (catR k many most reach L (some d) (some (.int c))) m = .ok .nx (catR k many most reach L (some d) (some (.int c))) m := by
  have h8 : decide ((8 : Int) < (most : Int)) = false := decide_eq_false (by omega)
  cases h : decide ((2 : Int) < (c : Int)) with
  | true => simp only [atI_c0, atI_c1, atI_c2, atI_c3, nc0, nc1, nc2, nc3, nc4, nc5, nc6, nc7, nc8, nc9, setG_v, ksv_ok, kso_ok, ksi_ok, ksx_ok, ksy_ok, items_kit, kit_lst, kit_con, idxG_refE, kix_some, idxG_tupE, ofI_some, lenG_refE, klen_some, defF1, defF2, defF3, defF4, defF5, seqS_ap, kseq_nx, kseq_rt, kseq_bk, kseq_ct, kseq_exc, kseq_bad, nxS_ap, bkS_ap, ctS_ap, raiseS_ap, retN_ap, op1_ap, k1_ok, op2_ap, k2a_ok, k2b_ok, opN_ap, kN_ok, nilA_ap, consA_ap, kca_ok, kcb_ok, varE_ap, pick_ok, cstE_ap, asgS_ap, kasg_ok, kasg_exc, retS_ap, kret_ok, kret_exc, dropS_ap, kdrop_ok, kdrop_exc, ifS_ap, kif_t, kif_f, ifE_ap, kife_t, kife_f, valT_ap, kval_ok, notT_ap, knot_ok, andT_ap, kand_t, kand_f, orT_ap, kor_t, kor_f, andV_ap, kandv_t, kandv_f, orV_ap, korv_t, korv_f, notV_ap, knotv_ok, callE_ap, kcall_ok, parS_ap, kpar_ok, asgG_ap, forS_ap, kfor_ok, srcE_ap, ksrc_tup, ksrc_str, finF_nx, finF_rt, finF_exc, startE, lft_some, List.length_cons, List.length_nil, List.map_cons, List.map_nil, List.getElem?_cons_succ, List.getElem?_cons_zero, List.set_cons_zero, List.set_cons_succ, List.cons_append, List.nil_append, List.replicate_succ, List.replicate_zero, Nat.reduceAdd, Nat.reduceSub, Nat.sub_self, Nat.zero_add, eqG_int, neG_int, ltG_int, gtG_int, leG_int, geG_int, addG_int, subG_int, negG_int, absG_int, intG_int, gcdG_int, lenG_tup, tupD0, tupD1, tupD2, tupD3, tupD4, lstD0, lstD1, lstD4, isi_int_int, isi_bool_int, isi_tup_tup, decide_true, decide_false, Bool.not_true, Bool.not_false, beq_self_eq_true, Int.reduceBEq, Int.reduceLT, Int.reduceLE, Int.reduceNeg, h, h8]
  | false => simp only [atI_c0, atI_c1, atI_c2, atI_c3, nc0, nc1, nc2, nc3, nc4, nc5, nc6, nc7, nc8, nc9, setG_v, ksv_ok, kso_ok, ksi_ok, ksx_ok, ksy_ok, items_kit, kit_lst, kit_con, idxG_refE, kix_some, idxG_tupE, ofI_some, lenG_refE, klen_some, defF1, defF2, defF3, defF4, defF5, seqS_ap, kseq_nx, kseq_rt, kseq_bk, kseq_ct, kseq_exc, kseq_bad, nxS_ap, bkS_ap, ctS_ap, raiseS_ap, retN_ap, op1_ap, k1_ok, op2_ap, k2a_ok, k2b_ok, opN_ap, kN_ok, nilA_ap, consA_ap, kca_ok, kcb_ok, varE_ap, pick_ok, cstE_ap, asgS_ap, kasg_ok, kasg_exc, retS_ap, kret_ok, kret_exc, dropS_ap, kdrop_ok, kdrop_exc, ifS_ap, kif_t, kif_f, ifE_ap, kife_t, kife_f, valT_ap, kval_ok, notT_ap, knot_ok, andT_ap, kand_t, kand_f, orT_ap, kor_t, kor_f, andV_ap, kandv_t, kandv_f, orV_ap, korv_t, korv_f, notV_ap, knotv_ok, callE_ap, kcall_ok, parS_ap, kpar_ok, asgG_ap, forS_ap, kfor_ok, srcE_ap, ksrc_tup, ksrc_str, finF_nx, finF_rt, finF_exc, startE, lft_some, List.length_cons, List.length_nil, List.map_cons, List.map_nil, List.getElem?_cons_succ, List.getElem?_cons_zero, List.set_cons_zero, List.set_cons_succ, List.cons_append, List.nil_append, List.replicate_succ, List.replicate_zero, Nat.reduceAdd, Nat.reduceSub, Nat.sub_self, Nat.zero_add, eqG_int, neG_int, ltG_int, gtG_int, leG_int, geG_int, addG_int, subG_int, negG_int, absG_int, intG_int, gcdG_int, lenG_tup, tupD0, tupD1, tupD2, tupD3, tupD4, lstD0, lstD1, lstD4, isi_int_int, isi_bool_int, isi_tup_tup, decide_true, decide_false, Bool.not_true, Bool.not_false, beq_self_eq_true, Int.reduceBEq, Int.reduceLT, Int.reduceLE, Int.reduceNeg, h]
theorem cat_c {m m' : Mem} {k many most L i c : Nat} {reach : Int} {R : List (List Int)} {C : List Tab} (hi : i < 8) (h1 : 1 ≤ c) (h4 : c ≤ 4) (er : f__law_rows [.ref k, .int c, .int most, .int reach] m = .ok (.tup (R.map rowD)) m') (e0 : m[L]? = some (.lst (C.map tabD))) (e1 : m'[L]? = some (.lst (C.map tabD))) (hz : (C.map tabD).length < sizeLine) :
    dropS (appE (varE 4) (opN (consA (op2 (op2 (cstE (.str "abcdefgh")) (varE 5) idxG) (opN (consA (varE 6) nilA) strG) addG) (consA (varE 6) (consA (callE Lw.f__law_rows (consA (varE 0) (consA (varE 6) (consA (varE 2) (consA (varE 3) nilA))))) nilA))) tupD)) (catR k many most reach L (some (.int (i : Int))) (some (.int c))) m =
      .ok .nx (catR k many most reach L (some (.int (i : Int))) (some (.int c))) (m'.set L (.lst (C.map tabD ++ [tabD (nm i c, (c : Int), R)]))) := by
  have hb : opN (consA (op2 (op2 (cstE (.str "abcdefgh")) (varE 5) idxG) (opN (consA (varE 6) nilA) strG) addG) (consA (varE 6) (consA (callE Lw.f__law_rows (consA (varE 0) (consA (varE 6) (consA (varE 2) (consA (varE 3) nilA))))) nilA))) tupD (catR k many most reach L (some (.int (i : Int))) (some (.int c))) m = .ok (tabD (nm i c, (c : Int), R)) m' := by
    simp only [atI_c0, atI_c1, atI_c2, atI_c3, nc0, nc1, nc2, nc3, nc4, nc5, nc6, nc7, nc8, nc9, setG_v, ksv_ok, kso_ok, ksi_ok, ksx_ok, ksy_ok, items_kit, kit_lst, kit_con, idxG_refE, kix_some, idxG_tupE, ofI_some, lenG_refE, klen_some, defF1, defF2, defF3, defF4, defF5, seqS_ap, kseq_nx, kseq_rt, kseq_bk, kseq_ct, kseq_exc, kseq_bad, nxS_ap, bkS_ap, ctS_ap, raiseS_ap, retN_ap, op1_ap, k1_ok, op2_ap, k2a_ok, k2b_ok, opN_ap, kN_ok, nilA_ap, consA_ap, kca_ok, kcb_ok, varE_ap, pick_ok, cstE_ap, asgS_ap, kasg_ok, kasg_exc, retS_ap, kret_ok, kret_exc, dropS_ap, kdrop_ok, kdrop_exc, ifS_ap, kif_t, kif_f, ifE_ap, kife_t, kife_f, valT_ap, kval_ok, notT_ap, knot_ok, andT_ap, kand_t, kand_f, orT_ap, kor_t, kor_f, andV_ap, kandv_t, kandv_f, orV_ap, korv_t, korv_f, notV_ap, knotv_ok, callE_ap, kcall_ok, parS_ap, kpar_ok, asgG_ap, forS_ap, kfor_ok, srcE_ap, ksrc_tup, ksrc_str, finF_nx, finF_rt, finF_exc, startE, lft_some, List.length_cons, List.length_nil, List.map_cons, List.map_nil, List.getElem?_cons_succ, List.getElem?_cons_zero, List.set_cons_zero, List.set_cons_succ, List.cons_append, List.nil_append, List.replicate_succ, List.replicate_zero, Nat.reduceAdd, Nat.reduceSub, Nat.sub_self, Nat.zero_add, eqG_int, neG_int, ltG_int, gtG_int, leG_int, geG_int, addG_int, subG_int, negG_int, absG_int, intG_int, gcdG_int, lenG_tup, tupD0, tupD1, tupD2, tupD3, tupD4, lstD0, lstD1, lstD4, isi_int_int, isi_bool_int, isi_tup_tup, decide_true, decide_false, Bool.not_true, Bool.not_false, beq_self_eq_true, Int.reduceBEq, Int.reduceLT, Int.reduceLE, Int.reduceNeg, let_at hi, str_at h4, nm_add h1 h4, er, tabD]
  have ek := kapp_ok e0 hb e1 hz
  rw [dropS_ap, appE_ap]
  show kdrop (kapp (.ok (.ref L) m) _ _) _ = _
  rw [ek]
  rfl
theorem cat_eq {m : Mem} {k many most : Nat} (h : Drw m k) {reach : Int} (hr : 0 < reach) (hr2 : reach.natAbs.log2 < 9000) (h0 : 0 < many) (h8 : many ≤ 8) (hm : most ≤ 8) :
    ∃ (C : List Tab) (m' : Mem), f__law_catalogue [.ref k, .int many, .int most, .int reach] m = .ok (catD C) m' ∧ GoodC most reach C ∧ 1 ≤ C.length ∧ C.length ≤ many ∧ Drw m' k ∧ Gk k m m' := by
  have hk := h.lt
  have hl : (many : Int).natAbs.log2 < 9000 := Nat.lt_of_lt_of_le (Pg.log_of (k := 11) (by omega) (by omega)) (by omega)
  obtain ⟨t, m2, et, t0, t1, d2, b2⟩ := take_eq (h.app [.lst []]) (n := (many : Int)) (by omega) hl
  have at2 : m2[m.length]? = some (.lst []) := by rw [b2.get (by omega)]; exact last_at _ _
  have g2 : Gk k m m2 := (Gk.of_pre (List.prefix_append _ _)).trans (.of_but b2)
  have hi : rng1 (consA (op2 (cstE (.int 1)) (callE Lw.f__law_take (consA (varE 0) (consA (varE 1) nilA))) addG) nilA) [some (.ref k), some (.int many), some (.int most), some (.int reach), some (.ref m.length), none, none] (m ++ [.lst []]) = .ok (.fix (iotaD 0 (1 + t).toNat)) m2 :=
    rng1_ap (okI_small (by omega) (by omega)) (by simp only [atI_c0, atI_c1, atI_c2, atI_c3, nc0, nc1, nc2, nc3, nc4, nc5, nc6, nc7, nc8, nc9, setG_v, ksv_ok, kso_ok, ksi_ok, ksx_ok, ksy_ok, items_kit, kit_lst, kit_con, idxG_refE, kix_some, idxG_tupE, ofI_some, lenG_refE, klen_some, defF1, defF2, defF3, defF4, defF5, seqS_ap, kseq_nx, kseq_rt, kseq_bk, kseq_ct, kseq_exc, kseq_bad, nxS_ap, bkS_ap, ctS_ap, raiseS_ap, retN_ap, op1_ap, k1_ok, op2_ap, k2a_ok, k2b_ok, opN_ap, kN_ok, nilA_ap, consA_ap, kca_ok, kcb_ok, varE_ap, pick_ok, cstE_ap, asgS_ap, kasg_ok, kasg_exc, retS_ap, kret_ok, kret_exc, dropS_ap, kdrop_ok, kdrop_exc, ifS_ap, kif_t, kif_f, ifE_ap, kife_t, kife_f, valT_ap, kval_ok, notT_ap, knot_ok, andT_ap, kand_t, kand_f, orT_ap, kor_t, kor_f, andV_ap, kandv_t, kandv_f, orV_ap, korv_t, korv_f, notV_ap, knotv_ok, callE_ap, kcall_ok, parS_ap, kpar_ok, asgG_ap, forS_ap, kfor_ok, srcE_ap, ksrc_tup, ksrc_str, finF_nx, finF_rt, finF_exc, startE, lft_some, List.length_cons, List.length_nil, List.map_cons, List.map_nil, List.getElem?_cons_succ, List.getElem?_cons_zero, List.set_cons_zero, List.set_cons_succ, List.cons_append, List.nil_append, List.replicate_succ, List.replicate_zero, Nat.reduceAdd, Nat.reduceSub, Nat.sub_self, Nat.zero_add, eqG_int, neG_int, ltG_int, gtG_int, leG_int, geG_int, addG_int, subG_int, negG_int, absG_int, intG_int, gcdG_int, lenG_tup, tupD0, tupD1, tupD2, tupD3, tupD4, lstD0, lstD1, lstD4, isi_int_int, isi_bool_int, isi_tup_tup, decide_true, decide_false, Bool.not_true, Bool.not_false, beq_self_eq_true, Int.reduceBEq, Int.reduceLT, Int.reduceLE, Int.reduceNeg, et])
  have l6 : (6 : Int).natAbs.log2 < 9000 := by decide +kernel
  have ei : iotaD 0 (1 + t).toNat = (List.range (1 + t).toNat).map fun (j : Nat) => D.int (j : Int) := by
    unfold iotaD
    refine List.map_congr_left fun a _ => ?_
    rw [Int.zero_add]
  obtain ⟨r', m3, ef, C, x5, x6, done, er, a3, gd, ln, d3, g3⟩ := forL_fix (s := .fix (iotaD 0 (1 + t).toNat)) (tg := nameG 5) (b := seqS (asgS 6 (op2 (opN (consA (cstE (.int 2)) (consA (cstE (.int 2)) (consA (cstE (.int 2)) (consA (cstE (.int 1)) (consA (cstE (.int 3)) (consA (cstE (.int 4)) nilA)))))) tupD) (callE Lw.f__law_take (consA (varE 0) (consA (cstE (.int 6)) nilA))) idxG))
  (seqS (ifS (andT (valT (op2 (varE 6) (cstE (.int 2)) gtG)) (valT (op2 (varE 2) (cstE (.int 8)) gtG))) (seqS (asgS 6 (cstE (.int 3)))
  nxS) nxS)
  (seqS (dropS (appE (varE 4) (opN (consA (op2 (op2 (cstE (.str "abcdefgh")) (varE 5) idxG) (opN (consA (varE 6) nilA) strG) addG) (consA (varE 6) (consA (callE Lw.f__law_rows (consA (varE 0) (consA (varE 6) (consA (varE 2) (consA (varE 3) nilA))))) nilA))) tupD)))
  nxS)))
    (fun ds r m' => ∃ (C : List Tab) (x5 x6 : Option D) (rest : Nat), r = catR k many most reach m.length x5 x6 ∧ m'[m.length]? = some (.lst (C.map tabD)) ∧ GoodC most reach C ∧ (C.length + rest = (1 + t).toNat ∧ ds = (List.range' C.length rest).map fun (j : Nat) => D.int (j : Int)) ∧ Drw m' k ∧ Gk k m m')
    (fun _ _ _ _ => trivial)
    (fun d ds r m' q => by
      obtain ⟨C, x5, x6, rest, rfl, a1, gd, ⟨ln, ed⟩, d1, g1⟩ := q
      cases rest with
      | zero => cases ed
      | succ rest =>
        rw [List.range'_succ, List.map_cons] at ed
        cases ed
        refine ⟨catR k many most reach m.length (some (.int (C.length : Int))) x6, rfl, ?_⟩
        obtain ⟨j, m4, et, j0, j1, d4, b4⟩ := take_eq d1 (n := 6) (by omega) l6
        obtain ⟨c, c1, c4, ec⟩ := col_at j0 j1 m4
        obtain ⟨R, m5, er, up, row, len, d5, g5⟩ := rows_eq (c0 := c) (most := most) d4 hr hr2 c1 (by omega) (by omega)
        have a4 : m4[m.length]? = some (.lst (C.map tabD)) := by rw [b4.get (by omega)]; exact a1
        have a5 : m5[m.length]? = some (.lst (C.map tabD)) := g5.get (by omega) a4
        have hz : (C.map tabD).length < sizeLine := by rw [List.length_map]; exact Nat.lt_of_le_of_lt (by omega : C.length ≤ 1000) (by decide)
        refine ⟨_, m5.set m.length (.lst (C.map tabD ++ [tabD (nm C.length c, (c : Int), R)])), .inl ?_, C ++ [(nm C.length c, (c : Int), R)], some (.int (C.length : Int)), some (.int c), rest, rfl, ?_, ?_, ?_, d5.set (by omega) _, ((g1.trans (.of_but b4)).trans g5).set (Nat.le_refl _) _⟩
        · rw [seqS_ap, cat_a et ec, kseq_nx, seqS_ap, cat_b hm, kseq_nx, seqS_ap, cat_c (by omega) c1 c4 er a4 a5 hz, kseq_nx, nxS_ap]
        · rw [List.getElem?_set_self (List.getElem?_eq_some_iff.mp a5).1, List.map_append]
          rfl
        · exact gd.snoc ⟨⟨c, c1, c4, rfl, rfl, row⟩, up, len⟩
        · rw [List.length_append]
          exact ⟨by simp; omega, rfl⟩)
    (iotaD 0 (1 + t).toNat) (catR k many most reach m.length none none) m2
    ⟨[], none, none, (1 + t).toNat, rfl, at2, (fun i t e => by simp at e), ⟨by simp, by rw [ei, List.range_eq_range']; rfl⟩, d2, g2⟩
  subst er
  obtain ⟨ln, ed⟩ := ln
  have h0' : done = 0 := by
    cases done with
    | zero => rfl
    | succ n => rw [List.range'_succ] at ed; cases ed
  subst h0'
  refine ⟨C, m3, ?_, gd, by omega, by omega, d3, g3⟩
  unfold f__law_catalogue
  simp only [atI_c0, atI_c1, atI_c2, atI_c3, nc0, nc1, nc2, nc3, nc4, nc5, nc6, nc7, nc8, nc9, setG_v, ksv_ok, kso_ok, ksi_ok, ksx_ok, ksy_ok, items_kit, kit_lst, kit_con, idxG_refE, kix_some, idxG_tupE, ofI_some, lenG_refE, klen_some, defF1, defF2, defF3, defF4, defF5, seqS_ap, kseq_nx, kseq_rt, kseq_bk, kseq_ct, kseq_exc, kseq_bad, nxS_ap, bkS_ap, ctS_ap, raiseS_ap, retN_ap, op1_ap, k1_ok, op2_ap, k2a_ok, k2b_ok, opN_ap, kN_ok, nilA_ap, consA_ap, kca_ok, kcb_ok, varE_ap, pick_ok, cstE_ap, asgS_ap, kasg_ok, kasg_exc, retS_ap, kret_ok, kret_exc, dropS_ap, kdrop_ok, kdrop_exc, ifS_ap, kif_t, kif_f, ifE_ap, kife_t, kife_f, valT_ap, kval_ok, notT_ap, knot_ok, andT_ap, kand_t, kand_f, orT_ap, kor_t, kor_f, andV_ap, kandv_t, kandv_f, orV_ap, korv_t, korv_f, notV_ap, knotv_ok, callE_ap, kcall_ok, parS_ap, kpar_ok, asgG_ap, forS_ap, kfor_ok, srcE_ap, ksrc_tup, ksrc_str, finF_nx, finF_rt, finF_exc, startE, lft_some, List.length_cons, List.length_nil, List.map_cons, List.map_nil, List.getElem?_cons_succ, List.getElem?_cons_zero, List.set_cons_zero, List.set_cons_succ, List.cons_append, List.nil_append, List.replicate_succ, List.replicate_zero, Nat.reduceAdd, Nat.reduceSub, Nat.sub_self, Nat.zero_add, eqG_int, neG_int, ltG_int, gtG_int, leG_int, geG_int, addG_int, subG_int, negG_int, absG_int, intG_int, gcdG_int, lenG_tup, tupD0, tupD1, tupD2, tupD3, tupD4, lstD0, lstD1, lstD4, isi_int_int, isi_bool_int, isi_tup_tup, decide_true, decide_false, Bool.not_true, Bool.not_false, beq_self_eq_true, Int.reduceBEq, Int.reduceLT, Int.reduceLE, Int.reduceNeg, forS_ap, hi, Src.items, ef, tupleG_at a3]
end Lw

end

section
set_option Elab.async false
set_option linter.all false
set_option maxRecDepth 100000
set_option maxHeartbeats 4000000
open PySem PySem.Spec L2 Mi
open PyProof.Rows hiding St
namespace Pg
theorem asc_iff {α : Type} {lt : α → α → Bool} : ∀ {xs : List α}, asc lt xs = true ↔ ∀ i a b, xs[i]? = some a → xs[i + 1]? = some b → lt a b = true
  | [] => by simp [asc]
  | [x] => by
    refine ⟨fun _ i a b h1 h2 => ?_, fun _ => rfl⟩
    simp at h2
  | x :: y :: l => by
    have ih := asc_iff (lt := lt) (xs := y :: l)
    have e : asc lt (x :: y :: l) = (lt x y && asc lt (y :: l)) := rfl
    rw [e, Bool.and_eq_true, ih]
    refine ⟨fun h i a b h1 h2 => ?_, fun h => ⟨h 0 x y rfl rfl, fun i a b h1 h2 => h (i + 1) a b (by simpa using h1) (by simpa using h2)⟩⟩
    cases i with
    | zero => cases h1; cases h2; exact h.1
    | succ i => exact h.2 i a b (by simpa using h1) (by simpa using h2)
theorem asc_of {xs : List (List Int)} (h : xs.Pairwise (· < ·)) : asc rowLt xs = true := asc_iff.mpr fun i a b h1 h2 => by
  obtain ⟨l1, e1⟩ := List.getElem?_eq_some_iff.mp h1
  obtain ⟨l2, e2⟩ := List.getElem?_eq_some_iff.mp h2
  subst e1 e2
  exact decide_eq_true (List.pairwise_iff_getElem.mp h i (i + 1) l1 l2 (by omega))
end Pg
namespace Lw
open Pg
theorem nm_ok {i c : Nat} (h : i < 8) (h1 : 1 ≤ c) (h4 : c ≤ 4) : Pg.Sh (nm i c) ∧ isName (nm i c) = true ∧ ∃ l, (nm i c).cps.toList = (97 + i) :: l := by
  have e1 : i = 0 ∨ i = 1 ∨ i = 2 ∨ i = 3 ∨ i = 4 ∨ i = 5 ∨ i = 6 ∨ i = 7 := by omega
  have e2 : c = 1 ∨ c = 2 ∨ c = 3 ∨ c = 4 := by omega
  rcases e1 with rfl | rfl | rfl | rfl | rfl | rfl | rfl | rfl <;> rcases e2 with rfl | rfl | rfl | rfl <;> exact ⟨⟨by decide +kernel, by decide +kernel⟩, by decide +kernel, _, rfl⟩
theorem good_ok {most : Nat} {reach : Int} {C : List Tab} (g : GoodC most reach C) (h8 : C.length ≤ 8) (hm : most ≤ 300) (hr : reach ≤ 1000000000) : COk C ∧ chk C = none := by
  have tab : ∀ t ∈ C, TOk t ∧ isTable t = true ∧ t.2.2.length ≤ 300 := fun t ht => by
    obtain ⟨i, hi, e⟩ := List.getElem_of_mem ht
    obtain ⟨⟨c, c1, c4, en, ec, rw'⟩, up, len⟩ := g i t (by rw [List.getElem?_eq_getElem hi, e])
    obtain ⟨sh, isn, _⟩ := nm_ok (i := i) (by omega) c1 c4
    refine ⟨⟨by rw [en]; exact sh, by omega, fun row hrow => by rw [(rw' row hrow).1]; omega⟩, ?_, by omega⟩
    unfold isTable
    rw [en, isn, ec, asc_of up, decide_eq_false (show ¬ ((c : Int) < 1) by omega), decide_eq_false (show ¬ ((4 : Int) < (c : Int)) by omega)]
    have : t.2.2.all (fun row => isRow row (c : Int)) = true := List.all_eq_true.mpr fun row hrow => by
      obtain ⟨l, b⟩ := rw' row hrow
      unfold isRow
      rw [l, beq_self_eq_true, Bool.true_and]
      exact List.all_eq_true.mpr fun n hn => decide_eq_true (by
        have := b n hn
        split <;> omega)
    rw [this]
    rfl
  refine ⟨⟨by omega, fun t ht => (tab t ht).1⟩, ?_⟩
  have h1 : C.all isTable = true := List.all_eq_true.mpr fun t ht => (tab t ht).2.1
  have h2 : asc nameLt (C.map (·.1)) = true := asc_iff.mpr fun i a b e1 e2 => by
    rw [List.getElem?_map] at e1 e2
    obtain ⟨t, et, rfl⟩ := Option.map_eq_some_iff.mp e1
    obtain ⟨u, eu, rfl⟩ := Option.map_eq_some_iff.mp e2
    obtain ⟨⟨c, c1, c4, en, _, _⟩, _, _⟩ := g i t et
    obtain ⟨⟨d, d1, d4, dn, _, _⟩, _, _⟩ := g (i + 1) u eu
    have l1 := (List.getElem?_eq_some_iff.mp eu).1
    obtain ⟨_, _, l, el⟩ := nm_ok (i := i) (by omega) c1 c4
    obtain ⟨_, _, l', el'⟩ := nm_ok (i := i + 1) (by omega) d1 d4
    refine decide_eq_true ?_
    rw [en, dn, el, el']
    exact List.cons_lt_cons_iff.mpr (.inl (by omega))
  have h3 : decide (8 < (C.length : Int)) = false := decide_eq_false (by omega)
  have h4 : C.any (fun t => decide (300 < (t.2.2.length : Int))) = false := by
    rw [List.any_eq_false]
    intro t ht q
    have q := of_decide_eq_true q
    have := (tab t ht).2.2
    omega
  unfold chk
  rw [h1, h2, h3, h4]
  rfl
/-! ## a loop that may hand back -/
theorem scan {s : Src} (hs : ∀ m, s.still m) {j : Nat} {b : FS} {n : Nat} (bad : Nat → Bool) (dv : D) (P : Mi.Env → Mem → Prop) (Q : Mem → Prop)
    (step : ∀ i r m, i < n → P r m → (bad i = true → ∃ r2 m2, b (r.set j (some (.int (i : Int)))) m = .ok (.rt dv) r2 m2 ∧ Q m2) ∧ (bad i = false → ∃ r2 m2, b (r.set j (some (.int (i : Int)))) m = .ok .nx r2 m2 ∧ P r2 m2)) :
    ∀ (k i : Nat) (r : Mi.Env) (m : Mem), i + k = n → P r m →
      ((List.range' i k).any bad = true → ∃ r2 m2, forL s (nameG j) b ((List.range' i k).map fun (i : Nat) => D.int (i : Int)) r m = .ok (.rt dv) r2 m2 ∧ Q m2) ∧
      ((List.range' i k).any bad = false → ∃ r2 m2, forL s (nameG j) b ((List.range' i k).map fun (i : Nat) => D.int (i : Int)) r m = .ok .nx r2 m2 ∧ P r2 m2)
  | 0, i, r, m, _, h => ⟨fun q => by simp at q, fun _ => ⟨r, m, by rw [List.range'_zero, List.map_nil, forL, if_pos (hs m)], h⟩⟩
  | k + 1, i, r, m, hk, h => by
    obtain ⟨s1, s2⟩ := step i r m (by omega) h
    have unf : forL s (nameG j) b ((List.range' i (k + 1)).map fun (i : Nat) => D.int (i : Int)) r m = (match b (r.set j (some (.int (i : Int)))) m with
        | .ok .nx r2 m2 => forL s (nameG j) b ((List.range' (i + 1) k).map fun (i : Nat) => D.int (i : Int)) r2 m2
        | .ok .ct r2 m2 => forL s (nameG j) b ((List.range' (i + 1) k).map fun (i : Nat) => D.int (i : Int)) r2 m2
        | .ok .bk r2 m2 => .ok .nx r2 m2
        | .ok (.rt d) r2 m2 => .ok (.rt d) r2 m2
        | .exc c r2 m2 => .exc c r2 m2
        | .bad => .bad) := by
      rw [List.range'_succ, List.map_cons, forL, if_pos (hs m)]
      simp only [nameG]
      cases b (r.set j (some (.int (i : Int)))) m with
      | ok f r2 m2 => cases f <;> rfl
      | exc _ _ _ => rfl
      | bad => rfl
    rw [unf, List.range'_succ, List.any_cons]
    cases hb : bad i with
    | true =>
      obtain ⟨r2, m2, e, q⟩ := s1 hb
      refine ⟨fun _ => ⟨r2, m2, by rw [e], q⟩, fun z => by simp at z⟩
    | false =>
      obtain ⟨r2, m2, e, q⟩ := s2 hb
      rw [e, Bool.false_or]
      exact scan hs bad dv P Q step k (i + 1) r2 m2 (by omega) q
theorem iota_range (n : Nat) : iotaD 0 n = (List.range' 0 n).map fun (i : Nat) => D.int (i : Int) := by
  unfold iotaD
  rw [List.range_eq_range']
  refine List.map_congr_left fun a _ => ?_
  rw [Int.zero_add]
theorem name_law {z : PySem.Str} (h : Pg.Sh z) (m : Mem) : ∃ m', f__law_is_name [.str z] m = .ok (.bl (isName z)) m' ∧ m <+: m' := by
  unfold f__law_is_name
  have l0 := lenG_str (m := m) h.sz
  cases hl : z.cps.toList with
  | nil =>
    have := cps_nil hl
    subst this
    have e : lenG [.str ""] m = some (.int 0, m) := rfl
    have ec : chainE (cstE (.int 0)) (opN (consA (varE 0) nilA) lenG) (cstE (.int 21)) ltG ltG [some (.str ""), some (.str "abcdefghijklmnopqrstuvwxyz"), none] m = .ok (.bl false) m := by
      unfold chainE
      simp only [atI_c0, atI_c1, atI_c2, atI_c3, nc0, nc1, nc2, nc3, nc4, nc5, nc6, nc7, nc8, nc9, setG_v, ksv_ok, kso_ok, ksi_ok, ksx_ok, ksy_ok, items_kit, kit_lst, kit_con, idxG_refE, kix_some, idxG_tupE, ofI_some, lenG_refE, klen_some, defF1, defF2, defF3, defF4, defF5, seqS_ap, kseq_nx, kseq_rt, kseq_bk, kseq_ct, kseq_exc, kseq_bad, nxS_ap, bkS_ap, ctS_ap, raiseS_ap, retN_ap, op1_ap, k1_ok, op2_ap, k2a_ok, k2b_ok, opN_ap, kN_ok, nilA_ap, consA_ap, kca_ok, kcb_ok, varE_ap, pick_ok, cstE_ap, asgS_ap, kasg_ok, kasg_exc, retS_ap, kret_ok, kret_exc, dropS_ap, kdrop_ok, kdrop_exc, ifS_ap, kif_t, kif_f, ifE_ap, kife_t, kife_f, valT_ap, kval_ok, notT_ap, knot_ok, andT_ap, kand_t, kand_f, orT_ap, kor_t, kor_f, andV_ap, kandv_t, kandv_f, orV_ap, korv_t, korv_f, notV_ap, knotv_ok, callE_ap, kcall_ok, parS_ap, kpar_ok, asgG_ap, forS_ap, kfor_ok, srcE_ap, ksrc_tup, ksrc_str, finF_nx, finF_rt, finF_exc, startE, lft_some, List.length_cons, List.length_nil, List.map_cons, List.map_nil, List.getElem?_cons_succ, List.getElem?_cons_zero, List.set_cons_zero, List.set_cons_succ, List.cons_append, List.nil_append, List.replicate_succ, List.replicate_zero, Nat.reduceAdd, Nat.reduceSub, Nat.sub_self, Nat.zero_add, eqG_int, neG_int, ltG_int, gtG_int, leG_int, geG_int, addG_int, subG_int, negG_int, absG_int, intG_int, gcdG_int, lenG_tup, tupD0, tupD1, tupD2, tupD3, tupD4, lstD0, lstD1, lstD4, isi_int_int, isi_bool_int, isi_tup_tup, decide_true, decide_false, Bool.not_true, Bool.not_false, beq_self_eq_true, Int.reduceBEq, Int.reduceLT, Int.reduceLE, Int.reduceNeg, bind_ok, e]
    have en : isName "" = false := by decide +kernel
    exact ⟨m, by simp only [atI_c0, atI_c1, atI_c2, atI_c3, nc0, nc1, nc2, nc3, nc4, nc5, nc6, nc7, nc8, nc9, setG_v, ksv_ok, kso_ok, ksi_ok, ksx_ok, ksy_ok, items_kit, kit_lst, kit_con, idxG_refE, kix_some, idxG_tupE, ofI_some, lenG_refE, klen_some, defF1, defF2, defF3, defF4, defF5, seqS_ap, kseq_nx, kseq_rt, kseq_bk, kseq_ct, kseq_exc, kseq_bad, nxS_ap, bkS_ap, ctS_ap, raiseS_ap, retN_ap, op1_ap, k1_ok, op2_ap, k2a_ok, k2b_ok, opN_ap, kN_ok, nilA_ap, consA_ap, kca_ok, kcb_ok, varE_ap, pick_ok, cstE_ap, asgS_ap, kasg_ok, kasg_exc, retS_ap, kret_ok, kret_exc, dropS_ap, kdrop_ok, kdrop_exc, ifS_ap, kif_t, kif_f, ifE_ap, kife_t, kife_f, valT_ap, kval_ok, notT_ap, knot_ok, andT_ap, kand_t, kand_f, orT_ap, kor_t, kor_f, andV_ap, kandv_t, kandv_f, orV_ap, korv_t, korv_f, notV_ap, knotv_ok, callE_ap, kcall_ok, parS_ap, kpar_ok, asgG_ap, forS_ap, kfor_ok, srcE_ap, ksrc_tup, ksrc_str, finF_nx, finF_rt, finF_exc, startE, lft_some, List.length_cons, List.length_nil, List.map_cons, List.map_nil, List.getElem?_cons_succ, List.getElem?_cons_zero, List.set_cons_zero, List.set_cons_succ, List.cons_append, List.nil_append, List.replicate_succ, List.replicate_zero, Nat.reduceAdd, Nat.reduceSub, Nat.sub_self, Nat.zero_add, eqG_int, neG_int, ltG_int, gtG_int, leG_int, geG_int, addG_int, subG_int, negG_int, absG_int, intG_int, gcdG_int, lenG_tup, tupD0, tupD1, tupD2, tupD3, tupD4, lstD0, lstD1, lstD4, isi_int_int, isi_bool_int, isi_tup_tup, decide_true, decide_false, Bool.not_true, Bool.not_false, beq_self_eq_true, Int.reduceBEq, Int.reduceLT, Int.reduceLE, Int.reduceNeg, ec, en], List.prefix_refl _⟩
  | cons c l =>
    have hlen : 0 < z.length := by
      show 0 < z.cps.size
      rw [← Array.length_toList, hl]
      exact Nat.succ_pos _
    have h0 : decide ((0 : Int) < (z.length : Int)) = true := decide_eq_true (by omega)
    have ez : (z == "") = false := by
      cases e : z == "" with
      | false => rfl
      | true =>
        have e' : z = "" := by simpa using e
        subst e'
        exact absurd hlen (by decide)
    have ec : chainE (cstE (.int 0)) (opN (consA (varE 0) nilA) lenG) (cstE (.int 21)) ltG ltG [some (.str z), some (.str "abcdefghijklmnopqrstuvwxyz"), none] m = .ok (.bl (decide ((z.length : Int) < 21))) m := by
      unfold chainE
      simp only [atI_c0, atI_c1, atI_c2, atI_c3, nc0, nc1, nc2, nc3, nc4, nc5, nc6, nc7, nc8, nc9, setG_v, ksv_ok, kso_ok, ksi_ok, ksx_ok, ksy_ok, items_kit, kit_lst, kit_con, idxG_refE, kix_some, idxG_tupE, ofI_some, lenG_refE, klen_some, defF1, defF2, defF3, defF4, defF5, seqS_ap, kseq_nx, kseq_rt, kseq_bk, kseq_ct, kseq_exc, kseq_bad, nxS_ap, bkS_ap, ctS_ap, raiseS_ap, retN_ap, op1_ap, k1_ok, op2_ap, k2a_ok, k2b_ok, opN_ap, kN_ok, nilA_ap, consA_ap, kca_ok, kcb_ok, varE_ap, pick_ok, cstE_ap, asgS_ap, kasg_ok, kasg_exc, retS_ap, kret_ok, kret_exc, dropS_ap, kdrop_ok, kdrop_exc, ifS_ap, kif_t, kif_f, ifE_ap, kife_t, kife_f, valT_ap, kval_ok, notT_ap, knot_ok, andT_ap, kand_t, kand_f, orT_ap, kor_t, kor_f, andV_ap, kandv_t, kandv_f, orV_ap, korv_t, korv_f, notV_ap, knotv_ok, callE_ap, kcall_ok, parS_ap, kpar_ok, asgG_ap, forS_ap, kfor_ok, srcE_ap, ksrc_tup, ksrc_str, finF_nx, finF_rt, finF_exc, startE, lft_some, List.length_cons, List.length_nil, List.map_cons, List.map_nil, List.getElem?_cons_succ, List.getElem?_cons_zero, List.set_cons_zero, List.set_cons_succ, List.cons_append, List.nil_append, List.replicate_succ, List.replicate_zero, Nat.reduceAdd, Nat.reduceSub, Nat.sub_self, Nat.zero_add, eqG_int, neG_int, ltG_int, gtG_int, leG_int, geG_int, addG_int, subG_int, negG_int, absG_int, intG_int, gcdG_int, lenG_tup, tupD0, tupD1, tupD2, tupD3, tupD4, lstD0, lstD1, lstD4, isi_int_int, isi_bool_int, isi_tup_tup, decide_true, decide_false, Bool.not_true, Bool.not_false, beq_self_eq_true, Int.reduceBEq, Int.reduceLT, Int.reduceLE, Int.reduceNeg, bind_ok, l0, h0]
    have e21 : decide ((z.length : Int) < 21) = decide ((z.length : Int) ≤ 20) := by
      rw [Bool.eq_iff_iff, decide_eq_true_eq, decide_eq_true_eq]
      omega
    rw [e21] at ec
    have en : isName z = (decide ((z.length : Int) ≤ 20) && (decide (c ∈ letters.cps.toList) && z.cps.toList.all fun c => decide (c ∈ signs.cps.toList))) := by
      unfold isName isWord
      rw [ez, hl]
      simp only [Bool.not_false, Bool.true_and]
      cases (List.all (c :: l) fun c => decide (c ∈ signs.cps.toList)) <;> cases decide ((z.length : Int) ≤ 20) <;> cases decide (c ∈ letters.cps.toList) <;> rfl
    rw [en]
    cases h20 : decide ((z.length : Int) ≤ 20) with
    | false =>
      rw [h20] at ec
      exact ⟨m, by simp only [atI_c0, atI_c1, atI_c2, atI_c3, nc0, nc1, nc2, nc3, nc4, nc5, nc6, nc7, nc8, nc9, setG_v, ksv_ok, kso_ok, ksi_ok, ksx_ok, ksy_ok, items_kit, kit_lst, kit_con, idxG_refE, kix_some, idxG_tupE, ofI_some, lenG_refE, klen_some, defF1, defF2, defF3, defF4, defF5, seqS_ap, kseq_nx, kseq_rt, kseq_bk, kseq_ct, kseq_exc, kseq_bad, nxS_ap, bkS_ap, ctS_ap, raiseS_ap, retN_ap, op1_ap, k1_ok, op2_ap, k2a_ok, k2b_ok, opN_ap, kN_ok, nilA_ap, consA_ap, kca_ok, kcb_ok, varE_ap, pick_ok, cstE_ap, asgS_ap, kasg_ok, kasg_exc, retS_ap, kret_ok, kret_exc, dropS_ap, kdrop_ok, kdrop_exc, ifS_ap, kif_t, kif_f, ifE_ap, kife_t, kife_f, valT_ap, kval_ok, notT_ap, knot_ok, andT_ap, kand_t, kand_f, orT_ap, kor_t, kor_f, andV_ap, kandv_t, kandv_f, orV_ap, korv_t, korv_f, notV_ap, knotv_ok, callE_ap, kcall_ok, parS_ap, kpar_ok, asgG_ap, forS_ap, kfor_ok, srcE_ap, ksrc_tup, ksrc_str, finF_nx, finF_rt, finF_exc, startE, lft_some, List.length_cons, List.length_nil, List.map_cons, List.map_nil, List.getElem?_cons_succ, List.getElem?_cons_zero, List.set_cons_zero, List.set_cons_succ, List.cons_append, List.nil_append, List.replicate_succ, List.replicate_zero, Nat.reduceAdd, Nat.reduceSub, Nat.sub_self, Nat.zero_add, eqG_int, neG_int, ltG_int, gtG_int, leG_int, geG_int, addG_int, subG_int, negG_int, absG_int, intG_int, gcdG_int, lenG_tup, tupD0, tupD1, tupD2, tupD3, tupD4, lstD0, lstD1, lstD4, isi_int_int, isi_bool_int, isi_tup_tup, decide_true, decide_false, Bool.not_true, Bool.not_false, beq_self_eq_true, Int.reduceBEq, Int.reduceLT, Int.reduceLE, Int.reduceNeg, ec, Bool.false_and], List.prefix_refl _⟩
    | true =>
      rw [h20] at ec
      have ix : idxG (.str z) (.int 0) m = some (.str ⟨#[c]⟩, m) := idxG_str0 h.sz hl
      cases hc : decide (c ∈ letters.cps.toList) with
      | false => exact ⟨m, by simp only [atI_c0, atI_c1, atI_c2, atI_c3, nc0, nc1, nc2, nc3, nc4, nc5, nc6, nc7, nc8, nc9, setG_v, ksv_ok, kso_ok, ksi_ok, ksx_ok, ksy_ok, items_kit, kit_lst, kit_con, idxG_refE, kix_some, idxG_tupE, ofI_some, lenG_refE, klen_some, defF1, defF2, defF3, defF4, defF5, seqS_ap, kseq_nx, kseq_rt, kseq_bk, kseq_ct, kseq_exc, kseq_bad, nxS_ap, bkS_ap, ctS_ap, raiseS_ap, retN_ap, op1_ap, k1_ok, op2_ap, k2a_ok, k2b_ok, opN_ap, kN_ok, nilA_ap, consA_ap, kca_ok, kcb_ok, varE_ap, pick_ok, cstE_ap, asgS_ap, kasg_ok, kasg_exc, retS_ap, kret_ok, kret_exc, dropS_ap, kdrop_ok, kdrop_exc, ifS_ap, kif_t, kif_f, ifE_ap, kife_t, kife_f, valT_ap, kval_ok, notT_ap, knot_ok, andT_ap, kand_t, kand_f, orT_ap, kor_t, kor_f, andV_ap, kandv_t, kandv_f, orV_ap, korv_t, korv_f, notV_ap, knotv_ok, callE_ap, kcall_ok, parS_ap, kpar_ok, asgG_ap, forS_ap, kfor_ok, srcE_ap, ksrc_tup, ksrc_str, finF_nx, finF_rt, finF_exc, startE, lft_some, List.length_cons, List.length_nil, List.map_cons, List.map_nil, List.getElem?_cons_succ, List.getElem?_cons_zero, List.set_cons_zero, List.set_cons_succ, List.cons_append, List.nil_append, List.replicate_succ, List.replicate_zero, Nat.reduceAdd, Nat.reduceSub, Nat.sub_self, Nat.zero_add, eqG_int, neG_int, ltG_int, gtG_int, leG_int, geG_int, addG_int, subG_int, negG_int, absG_int, intG_int, gcdG_int, lenG_tup, tupD0, tupD1, tupD2, tupD3, tupD4, lstD0, lstD1, lstD4, isi_int_int, isi_bool_int, isi_tup_tup, decide_true, decide_false, Bool.not_true, Bool.not_false, beq_self_eq_true, Int.reduceBEq, Int.reduceLT, Int.reduceLE, Int.reduceNeg, ec, ix, inG_sign, hc, Bool.true_and, Bool.false_and], List.prefix_refl _⟩
      | true =>
        have ad : ∀ m', addG (.str "abcdefghijklmnopqrstuvwxyz") (.str "0123456789") m' = some (.str signs, m') := fun m' => by
          show (if (26 : Nat) + 10 ≤ sizeLine then some (D.str (letters ++ "0123456789"), m') else none) = _
          rw [if_pos (by decide)]
          have : letters ++ "0123456789" = Pg.signs := by decide +kernel
          rw [this]
        obtain ⟨m2, e, p, e2⟩ := comp_map (vs := [2]) (fi := srcE (varE 0)) (tg := nameG 2) (f := op2 (varE 2) (op2 (varE 1) (cstE (.str "0123456789")) addG) inG) (r := [some (.str z), some (.str "abcdefghijklmnopqrstuvwxyz"), none]) (m := m) (m1 := m) (s := .fix (strItems z))
          z.cps.toList (fun c => .str ⟨#[c]⟩) (fun c => .bl (decide (c ∈ signs.cps.toList))) (by simp only [atI_c0, atI_c1, atI_c2, atI_c3, nc0, nc1, nc2, nc3, nc4, nc5, nc6, nc7, nc8, nc9, setG_v, ksv_ok, kso_ok, ksi_ok, ksx_ok, ksy_ok, items_kit, kit_lst, kit_con, idxG_refE, kix_some, idxG_tupE, ofI_some, lenG_refE, klen_some, defF1, defF2, defF3, defF4, defF5, seqS_ap, kseq_nx, kseq_rt, kseq_bk, kseq_ct, kseq_exc, kseq_bad, nxS_ap, bkS_ap, ctS_ap, raiseS_ap, retN_ap, op1_ap, k1_ok, op2_ap, k2a_ok, k2b_ok, opN_ap, kN_ok, nilA_ap, consA_ap, kca_ok, kcb_ok, varE_ap, pick_ok, cstE_ap, asgS_ap, kasg_ok, kasg_exc, retS_ap, kret_ok, kret_exc, dropS_ap, kdrop_ok, kdrop_exc, ifS_ap, kif_t, kif_f, ifE_ap, kife_t, kife_f, valT_ap, kval_ok, notT_ap, knot_ok, andT_ap, kand_t, kand_f, orT_ap, kor_t, kor_f, andV_ap, kandv_t, kandv_f, orV_ap, korv_t, korv_f, notV_ap, knotv_ok, callE_ap, kcall_ok, parS_ap, kpar_ok, asgG_ap, forS_ap, kfor_ok, srcE_ap, ksrc_tup, ksrc_str, finF_nx, finF_rt, finF_exc, startE, lft_some, List.length_cons, List.length_nil, List.map_cons, List.map_nil, List.getElem?_cons_succ, List.getElem?_cons_zero, List.set_cons_zero, List.set_cons_succ, List.cons_append, List.nil_append, List.replicate_succ, List.replicate_zero, Nat.reduceAdd, Nat.reduceSub, Nat.sub_self, Nat.zero_add, eqG_int, neG_int, ltG_int, gtG_int, leG_int, geG_int, addG_int, subG_int, negG_int, absG_int, intG_int, gcdG_int, lenG_tup, tupD0, tupD1, tupD2, tupD3, tupD4, lstD0, lstD1, lstD4, isi_int_int, isi_bool_int, isi_tup_tup, decide_true, decide_false, Bool.not_true, Bool.not_false, beq_self_eq_true, Int.reduceBEq, Int.reduceLT, Int.reduceLE, Int.reduceNeg]) (fun _ _ => trivial) rfl (by rw [sizeLine_eq, Array.length_toList]; exact Nat.lt_of_le_of_lt h.len (by decide))
          (fun c _ m' _ => ⟨_, rfl, m', by simp only [atI_c0, atI_c1, atI_c2, atI_c3, nc0, nc1, nc2, nc3, nc4, nc5, nc6, nc7, nc8, nc9, setG_v, ksv_ok, kso_ok, ksi_ok, ksx_ok, ksy_ok, items_kit, kit_lst, kit_con, idxG_refE, kix_some, idxG_tupE, ofI_some, lenG_refE, klen_some, defF1, defF2, defF3, defF4, defF5, seqS_ap, kseq_nx, kseq_rt, kseq_bk, kseq_ct, kseq_exc, kseq_bad, nxS_ap, bkS_ap, ctS_ap, raiseS_ap, retN_ap, op1_ap, k1_ok, op2_ap, k2a_ok, k2b_ok, opN_ap, kN_ok, nilA_ap, consA_ap, kca_ok, kcb_ok, varE_ap, pick_ok, cstE_ap, asgS_ap, kasg_ok, kasg_exc, retS_ap, kret_ok, kret_exc, dropS_ap, kdrop_ok, kdrop_exc, ifS_ap, kif_t, kif_f, ifE_ap, kife_t, kife_f, valT_ap, kval_ok, notT_ap, knot_ok, andT_ap, kand_t, kand_f, orT_ap, kor_t, kor_f, andV_ap, kandv_t, kandv_f, orV_ap, korv_t, korv_f, notV_ap, knotv_ok, callE_ap, kcall_ok, parS_ap, kpar_ok, asgG_ap, forS_ap, kfor_ok, srcE_ap, ksrc_tup, ksrc_str, finF_nx, finF_rt, finF_exc, startE, lft_some, List.length_cons, List.length_nil, List.map_cons, List.map_nil, List.getElem?_cons_succ, List.getElem?_cons_zero, List.set_cons_zero, List.set_cons_succ, List.cons_append, List.nil_append, List.replicate_succ, List.replicate_zero, Nat.reduceAdd, Nat.reduceSub, Nat.sub_self, Nat.zero_add, eqG_int, neG_int, ltG_int, gtG_int, leG_int, geG_int, addG_int, subG_int, negG_int, absG_int, intG_int, gcdG_int, lenG_tup, tupD0, tupD1, tupD2, tupD3, tupD4, lstD0, lstD1, lstD4, isi_int_int, isi_bool_int, isi_tup_tup, decide_true, decide_false, Bool.not_true, Bool.not_false, beq_self_eq_true, Int.reduceBEq, Int.reduceLT, Int.reduceLE, Int.reduceNeg, wipeE, ad, inG_sign], List.prefix_refl _⟩)
        exact ⟨m2, by simp only [atI_c0, atI_c1, atI_c2, atI_c3, nc0, nc1, nc2, nc3, nc4, nc5, nc6, nc7, nc8, nc9, setG_v, ksv_ok, kso_ok, ksi_ok, ksx_ok, ksy_ok, items_kit, kit_lst, kit_con, idxG_refE, kix_some, idxG_tupE, ofI_some, lenG_refE, klen_some, defF1, defF2, defF3, defF4, defF5, seqS_ap, kseq_nx, kseq_rt, kseq_bk, kseq_ct, kseq_exc, kseq_bad, nxS_ap, bkS_ap, ctS_ap, raiseS_ap, retN_ap, op1_ap, k1_ok, op2_ap, k2a_ok, k2b_ok, opN_ap, kN_ok, nilA_ap, consA_ap, kca_ok, kcb_ok, varE_ap, pick_ok, cstE_ap, asgS_ap, kasg_ok, kasg_exc, retS_ap, kret_ok, kret_exc, dropS_ap, kdrop_ok, kdrop_exc, ifS_ap, kif_t, kif_f, ifE_ap, kife_t, kife_f, valT_ap, kval_ok, notT_ap, knot_ok, andT_ap, kand_t, kand_f, orT_ap, kor_t, kor_f, andV_ap, kandv_t, kandv_f, orV_ap, korv_t, korv_f, notV_ap, knotv_ok, callE_ap, kcall_ok, parS_ap, kpar_ok, asgG_ap, forS_ap, kfor_ok, srcE_ap, ksrc_tup, ksrc_str, finF_nx, finF_rt, finF_exc, startE, lft_some, List.length_cons, List.length_nil, List.map_cons, List.map_nil, List.getElem?_cons_succ, List.getElem?_cons_zero, List.set_cons_zero, List.set_cons_succ, List.cons_append, List.nil_append, List.replicate_succ, List.replicate_zero, Nat.reduceAdd, Nat.reduceSub, Nat.sub_self, Nat.zero_add, eqG_int, neG_int, ltG_int, gtG_int, leG_int, geG_int, addG_int, subG_int, negG_int, absG_int, intG_int, gcdG_int, lenG_tup, tupD0, tupD1, tupD2, tupD3, tupD4, lstD0, lstD1, lstD4, isi_int_int, isi_bool_int, isi_tup_tup, decide_true, decide_false, Bool.not_true, Bool.not_false, beq_self_eq_true, Int.reduceBEq, Int.reduceLT, Int.reduceLE, Int.reduceNeg, ec, ix, inG_sign, hc, e, allG_at e2, Bool.true_and, hl], p⟩
end Lw

end

section
set_option Elab.async false
set_option linter.all false
set_option maxRecDepth 100000
set_option maxHeartbeats 4000000
open PySem PySem.Spec L2 Mi
open PyProof.Rows hiding St
namespace Lw
open Pg
/-- the one before, if there is one, is less -/
def prevOk {α : Type} (lt : α → α → Bool) (xs : List α) (i : Nat) (a : α) : Bool := match i with
  | 0 => true
  | i + 1 => match xs[i]? with
    | some b => lt b a
    | none => true
theorem bad_all {α : Type} {lt : α → α → Bool} {p : α → Bool} {xs : List α} {bad : Nat → Bool} (h : ∀ i a, xs[i]? = some a → bad i = !(p a && prevOk lt xs i a)) : (List.range' 0 xs.length).any bad = !(xs.all p && asc lt xs) := by
  cases e : (xs.all p && asc lt xs) with
  | true =>
    rw [Bool.and_eq_true] at e
    rw [Bool.not_true, List.any_eq_false]
    intro i hi q
    have hl : i < xs.length := by
      have := List.mem_range'_1.mp hi
      omega
    rw [h i _ (List.getElem?_eq_getElem hl), List.all_eq_true.mp e.1 _ (List.getElem_mem hl), Bool.true_and] at q
    cases i with
    | zero => cases q
    | succ i =>
      have hl' : i < xs.length := by omega
      have := asc_iff.mp e.2 i _ _ (List.getElem?_eq_getElem hl') (List.getElem?_eq_getElem hl)
      simp only [prevOk, List.getElem?_eq_getElem hl'] at q
      rw [this] at q
      cases q
  | false =>
    rw [Bool.not_false, List.any_eq_true]
    apply Classical.byContradiction
    intro hno
    have all : ∀ i a, xs[i]? = some a → p a = true ∧ prevOk lt xs i a = true := fun i a ha => by
      have hb : bad i = false := by
        cases hb : bad i with
        | false => rfl
        | true => exact absurd ⟨i, List.mem_range'_1.mpr ⟨by omega, by have := (List.getElem?_eq_some_iff.mp ha).1; omega⟩, hb⟩ hno
      rw [h i a ha] at hb
      have : (p a && prevOk lt xs i a) = true := by simpa using hb
      exact Bool.and_eq_true_iff.mp this
    have a1 : xs.all p = true := List.all_eq_true.mpr fun a ha => by
      obtain ⟨i, hi, e1⟩ := List.getElem_of_mem ha
      exact (all i a (by rw [List.getElem?_eq_getElem hi, e1])).1
    have a2 : asc lt xs = true := asc_iff.mpr fun i a b h1 h2 => by
      have := (all (i + 1) b h2).2
      simp only [prevOk, h1] at this
      exact this
    rw [a1, a2] at e
    cases e
abbrev ab (n : Int) : Int := if n < 0 then -n else n
theorem mx_big (row : List Int) : decide (999999999 < mxL (row.map ab ++ [0])) = !row.all big := by
  obtain ⟨h1, h2⟩ := mxL_is (l := row.map ab ++ [0]) (by simp)
  rw [Bool.eq_iff_iff, decide_eq_true_eq]
  constructor
  · intro h
    cases e : row.all big with
    | false => rfl
    | true =>
      exfalso
      rcases List.mem_append.mp h1 with q | q
      · obtain ⟨n, hn, en⟩ := List.mem_map.mp q
        have := of_decide_eq_true (List.all_eq_true.mp e n hn)
        rw [← en] at h
        exact absurd h (by show ¬ 999999999 < ab n; unfold ab; omega)
      · have q := List.mem_singleton.mp q
        rw [q] at h
        omega
  · intro h
    apply Classical.byContradiction
    intro hno
    have : row.all big = true := List.all_eq_true.mpr fun n hn => decide_eq_true (by
      have := h2 (ab n) (List.mem_append.mpr (.inl (List.mem_map.mpr ⟨n, hn, rfl⟩)))
      show ab n ≤ 999999999
      omega)
    rw [this] at h
    cases h
theorem at_row {α : Type} {f : α → D} {xs : List α} {i : Nat} {a : α} (h : xs[i]? = some a) : atI (xs.map f) (i : Int) = some (f a) := atI_of (by omega) (by rw [Int.toNat_natCast, List.getElem?_map, h]; rfl)
end Lw

end

section
set_option Elab.async false
set_option linter.all false
set_option maxRecDepth 100000
set_option maxHeartbeats 4000000
open PySem PySem.Spec L2 Mi
open PyProof.Rows hiding St
namespace Pg
/-! ## a table by its name -/
abbrev named (name : PySem.Str) (t : Tab) : Bool := t.1 == name
abbrev tbB : FS := seqS (ifS (valT (op2 (op2 (varE 2) (cstE (.int 0)) idxG) (varE 1) eqG)) (seqS (retS (varE 2)) nxS) nxS) nxS
theorem tb_step {cat : D} {name : PySem.Str} {t : Tab} (hn : PyData.strOk name = true) (ht : PyData.strOk t.1 = true) (m : Mem) :
    valT (op2 (op2 (varE 2) (cstE (.int 0)) idxG) (varE 1) eqG) [some cat, some (.str name), some (tabD t)] m = .ok (named name t) m := by
  have i0 : ∀ m, idxG (tabD t) (.int 0) m = some (.str t.1, m) := fun m => rfl
  simp only [valT_ap, op2_ap, varE_ap, cstE_ap, List.getElem?_cons_zero, List.getElem?_cons_succ, pick_ok, k2a_ok, k2b_ok, i0, lft_some, eqG_str (show PyData.canLay0 (.str t.1) = true from ht) (show PyData.canLay0 (.str name) = true from hn), kval_ok]
theorem tb_loop {s : Src} (hs : ∀ m, s.still m) {cat : D} {name : PySem.Str} (hn : PyData.strOk name = true) (m : Mem) : ∀ (C : List Tab) (x : Option D), (∀ t ∈ C, PyData.strOk t.1 = true) → ∃ x',
    forL s (nameG 2) tbB (C.map tabD) [some cat, some (.str name), x] m = (match C.find? (named name) with
      | some t => .ok (.rt (tabD t)) [some cat, some (.str name), x'] m
      | none => .ok .nx [some cat, some (.str name), x'] m)
  | [], x, _ => ⟨x, by rw [List.map_nil, forL, if_pos (hs m)]; rfl⟩
  | t :: C, x, h => by
    have st := tb_step (cat := cat) hn (h t List.mem_cons_self) m
    rw [List.map_cons, forL, if_pos (hs m)]
    have e1 : nameG 2 (tabD t) [some cat, some (.str name), x] = some [some cat, some (.str name), some (tabD t)] := rfl
    rw [e1, List.find?_cons]
    dsimp only
    cases hb : named name t with
    | true =>
      rw [hb] at st
      have e : tbB [some cat, some (.str name), some (tabD t)] m = .ok (.rt (tabD t)) [some cat, some (.str name), some (tabD t)] m := by
        show seqS (ifS _ _ _) _ _ _ = _
        rw [seqS_ap, ifS_ap, st]
        rfl
      rw [e]
      exact ⟨some (tabD t), rfl⟩
    | false =>
      rw [hb] at st
      have e : tbB [some cat, some (.str name), some (tabD t)] m = .ok .nx [some cat, some (.str name), some (tabD t)] m := by
        show seqS (ifS _ _ _) _ _ _ = _
        rw [seqS_ap, ifS_ap, st]
        rfl
      rw [e]
      exact tb_loop hs hn m C (some (tabD t)) fun u hu => h u (List.mem_cons_of_mem _ hu)
def tableR (o : Option Tab) (m : Mem) : Res D := match o with
  | some t => .ok (tabD t) m
  | none => .exc "UnknownTable" m
theorem table_of_eq {C : List Tab} {name : PySem.Str} (hC : COk C) (hn : PyData.strOk name = true) (m : Mem) : f_table_of [catD C, .str name] m = tableR (C.find? (named name)) m := by
  obtain ⟨x, e⟩ := tb_loop (s := .fix (C.map tabD)) (fun _ => trivial) (cat := catD C) hn m C none fun t ht => (hC.tab t ht).nm.ok
  have hs : startE 3 [catD C, .str name] = [some (catD C), some (.str name), none] := rfl
  have ef : forS (srcE (varE 0)) (nameG 2) tbB [some (catD C), some (.str name), none] m = forL (.fix (C.map tabD)) (nameG 2) tbB (C.map tabD) [some (catD C), some (.str name), none] m := by
    rw [forS_ap]
    rfl
  unfold f_table_of tableR
  rw [defF2, hs, seqS_ap, ef, e]
  cases C.find? (named name) <;> rfl
/-- the outcome of a look at a table -/
def lookR (C : List Tab) (name : PySem.Str) (g : Tab → D) (m : Mem) : Res D := match chk C with
  | some c => .exc c m
  | none => match C.find? (named name) with
    | some t => .ok (g t) m
    | none => .exc "UnknownTable" m
theorem columns_of_eq {C : List Tab} {name : PySem.Str} (hC : COk C) (hn : PyData.strOk name = true) (m : Mem) : ∃ m', f_columns_of [catD C, .str name] m = lookR C name (fun t => .int t.2.1) m' ∧ m <+: m' := by
  obtain ⟨m', e, p⟩ := check_eq hC m
  refine ⟨m', ?_, p⟩
  have hs : startE 2 [catD C, .str name] = [some (catD C), some (.str name)] := rfl
  have c1 : callE Pg.f_check_catalogue (consA (varE 0) nilA) [some (catD C), some (.str name)] m = told (chk C) m' := by
    rw [callE_ap, consA_ap, show varE 0 [some (catD C), some (.str name)] m = .ok (catD C) m from rfl, kca_ok, nilA_ap, kcb_ok, kcall_ok, e]
  have c2 : callE Pg.f_table_of (consA (varE 0) (consA (varE 1) nilA)) [some (catD C), some (.str name)] m' = tableR (C.find? (named name)) m' := by
    rw [callE_ap, show consA (varE 0) (consA (varE 1) nilA) [some (catD C), some (.str name)] m' = .ok [catD C, .str name] m' from rfl, kcall_ok, table_of_eq hC hn]
  unfold f_columns_of lookR
  rw [defF2, hs, seqS_ap, dropS_ap, c1]
  cases chk C with
  | some c => rfl
  | none =>
    show finF (kseq (.ok .nx _ m') _) = _
    rw [kseq_nx, seqS_ap, retS_ap, op2_ap, c2]
    cases C.find? (named name) with
    | none => rfl
    | some t => rfl
theorem rows_of_eq {C : List Tab} {name : PySem.Str} (hC : COk C) (hn : PyData.strOk name = true) (m : Mem) : ∃ m', f_rows_of [catD C, .str name] m = lookR C name (fun t => .tup (t.2.2.map rowD)) m' ∧ m <+: m' := by
  obtain ⟨m', e, p⟩ := check_eq hC m
  refine ⟨m', ?_, p⟩
  have hs : startE 2 [catD C, .str name] = [some (catD C), some (.str name)] := rfl
  have c1 : callE Pg.f_check_catalogue (consA (varE 0) nilA) [some (catD C), some (.str name)] m = told (chk C) m' := by
    rw [callE_ap, consA_ap, show varE 0 [some (catD C), some (.str name)] m = .ok (catD C) m from rfl, kca_ok, nilA_ap, kcb_ok, kcall_ok, e]
  have c2 : callE Pg.f_table_of (consA (varE 0) (consA (varE 1) nilA)) [some (catD C), some (.str name)] m' = tableR (C.find? (named name)) m' := by
    rw [callE_ap, show consA (varE 0) (consA (varE 1) nilA) [some (catD C), some (.str name)] m' = .ok [catD C, .str name] m' from rfl, kcall_ok, table_of_eq hC hn]
  unfold f_rows_of lookR
  rw [defF2, hs, seqS_ap, dropS_ap, c1]
  cases chk C with
  | some c => rfl
  | none =>
    show finF (kseq (.ok .nx _ m') _) = _
    rw [kseq_nx, seqS_ap, retS_ap, op2_ap, c2]
    cases C.find? (named name) with
    | none => rfl
    | some t => rfl
end Pg

end

section
set_option Elab.async false
set_option linter.all false
set_option maxRecDepth 100000
set_option maxHeartbeats 4000000
open PySem PySem.Spec L2 Mi
open PyProof.Rows hiding St
namespace Pg
def putT (name : PySem.Str) (rows : List (List Int)) (t : Tab) : Tab := if named name t = true then (name, t.2.1, rows) else t
abbrev wrE (cat : D) (name : PySem.Str) (rows : List (List Int)) (L : Nat) (x : Option D) : Mi.Env := [some cat, some (.str name), some (.tup (rows.map rowD)), some (.ref L), x]
abbrev wrB : FS := seqS (ifS (valT (op2 (op2 (varE 4) (cstE (.int 0)) idxG) (varE 1) eqG)) (seqS (dropS (appE (varE 3) (opN (consA (varE 1) (consA (op2 (varE 4) (cstE (.int 1)) idxG) (consA (varE 2) nilA))) tupD))) nxS) (seqS (dropS (appE (varE 3) (varE 4))) nxS)) nxS
section
variable {cat : D} {name : PySem.Str} {rows : List (List Int)} {L : Nat} {t : Tab} {m : Mem} {xs : List D}
theorem wr_test (hn : PyData.strOk name = true) (ht : PyData.strOk t.1 = true) : valT (op2 (op2 (varE 4) (cstE (.int 0)) idxG) (varE 1) eqG) (wrE cat name rows L (some (tabD t))) m = .ok (named name t) m := by
  have i0 : ∀ m, idxG (tabD t) (.int 0) m = some (.str t.1, m) := fun m => rfl
  simp only [valT_ap, op2_ap, varE_ap, cstE_ap, List.getElem?_cons_zero, List.getElem?_cons_succ, pick_ok, k2a_ok, k2b_ok, i0, lft_some, eqG_str (show PyData.canLay0 (.str t.1) = true from ht) (show PyData.canLay0 (.str name) = true from hn), kval_ok]
theorem wr_step (hn : PyData.strOk name = true) (ht : PyData.strOk t.1 = true) (hm : m[L]? = some (.lst xs)) (hz : xs.length < sizeLine) : wrB (wrE cat name rows L (some (tabD t))) m = .ok .nx (wrE cat name rows L (some (tabD t))) (m.set L (.lst (xs ++ [tabD (putT name rows t)]))) := by
  have st := wr_test (cat := cat) (rows := rows) (L := L) (m := m) hn ht
  show seqS (ifS _ _ _) _ _ _ = _
  unfold putT
  cases hb : named name t with
  | true =>
    rw [hb] at st
    have i1 : ∀ m, idxG (tabD t) (.int 1) m = some (.int t.2.1, m) := fun m => rfl
    have eb : opN (consA (varE 1) (consA (op2 (varE 4) (cstE (.int 1)) idxG) (consA (varE 2) nilA))) tupD (wrE cat name rows L (some (tabD t))) m = .ok (tabD (name, t.2.1, rows)) m := by
      simp only [opN_ap, consA_ap, varE_ap, List.getElem?_cons_zero, List.getElem?_cons_succ, pick_ok, kca_ok, op2_ap, cstE_ap, k2a_ok, k2b_ok, i1, lft_some, nilA_ap, kcb_ok, kN_ok, tupD3]
      rfl
    have ek := kapp_ok hm eb hm hz
    rw [seqS_ap, ifS_ap, st, kif_t, seqS_ap, dropS_ap, appE_ap, show varE 3 (wrE cat name rows L (some (tabD t))) m = .ok (.ref L) m from rfl, ek]
    rfl
  | false =>
    rw [hb] at st
    have ek := kapp_ok (b := varE 4) (r := wrE cat name rows L (some (tabD t))) (d := tabD t) hm rfl hm hz
    rw [seqS_ap, ifS_ap, st, kif_f, seqS_ap, dropS_ap, appE_ap, show varE 3 (wrE cat name rows L (some (tabD t))) m = .ok (.ref L) m from rfl, ek]
    rfl
end
theorem with_rows_eq {C : List Tab} {name : PySem.Str} {rows : List (List Int)} (hC : COk C) (hn : PyData.strOk name = true) (m : Mem) : ∃ m', f_with_rows [catD C, .str name, .tup (rows.map rowD)] m = .ok (catD (C.map (putT name rows))) m' ∧ m <+: m' := by
  obtain ⟨r', m', e, done, rest, x, e1, e2, er, em, p⟩ := forL_fix (s := .fix (C.map tabD)) (tg := nameG 4) (b := wrB) (fun ds r m' => ∃ (done rest : List Tab) (x : Option D), C = done ++ rest ∧ ds = rest.map tabD ∧ r = wrE (catD C) name rows m.length x ∧ m'[m.length]? = some (.lst ((done.map (putT name rows)).map tabD)) ∧ m <+: m')
    (fun _ _ _ _ => trivial)
    (fun d ds r m' q => by
      obtain ⟨done, rest, x, e1, e2, rfl, em, p⟩ := q
      cases rest with
      | nil => cases e2
      | cons t rest =>
        cases e2
        have ht : t ∈ C := by rw [e1]; simp
        have hz : ((done.map (putT name rows)).map tabD).length < sizeLine := by
          rw [List.length_map, List.length_map]
          have := hC.len
          rw [e1, List.length_append] at this
          exact Nat.lt_of_le_of_lt (by omega : done.length ≤ 1000) (by decide)
        refine ⟨wrE (catD C) name rows m.length (some (tabD t)), rfl, _, _, .inl (wr_step hn (hC.tab t ht).nm.ok em hz), done ++ [t], rest, some (tabD t), by rw [e1]; simp, rfl, rfl, ?_, pre_set p (Nat.le_refl _) _⟩
        rw [List.getElem?_set_self (List.getElem?_eq_some_iff.mp em).1, List.map_append, List.map_append]
        rfl)
    (C.map tabD) (wrE (catD C) name rows m.length none) (m ++ [.lst []]) ⟨[], C, none, rfl, rfl, rfl, last_at _ _, List.prefix_append _ _⟩
  have er2 : rest = [] := by
    cases rest with
    | nil => rfl
    | cons _ _ => cases e2
  subst er2 er
  rw [List.append_nil] at e1
  subst e1
  refine ⟨m', ?_, p⟩
  have hs : startE 5 [catD C, .str name, .tup (rows.map rowD)] = [some (catD C), some (.str name), some (.tup (rows.map rowD)), none, none] := rfl
  have a1 : asgS 3 (opN nilA lstD) [some (catD C), some (.str name), some (.tup (rows.map rowD)), none, none] m = .ok .nx (wrE (catD C) name rows m.length none) (m ++ [.lst []]) := rfl
  have ef : forS (srcE (varE 0)) (nameG 4) wrB (wrE (catD C) name rows m.length none) (m ++ [.lst []]) = .ok .nx (wrE (catD C) name rows m.length x) m' := by
    rw [forS_ap]
    exact e
  have ev : opN (consA (varE 3) nilA) tupleG (wrE (catD C) name rows m.length x) m' = .ok (catD (C.map (putT name rows))) m' := by
    rw [opN_ap, show consA (varE 3) nilA (wrE (catD C) name rows m.length x) m' = .ok [.ref m.length] m' from rfl, kN_ok, tupleG_at em]
    rfl
  unfold f_with_rows
  rw [defF3, hs, seqS_ap, a1, kseq_nx, seqS_ap, ef, kseq_nx, seqS_ap, retS_ap, ev]
  rfl
end Pg

end

section
set_option Elab.async false
set_option linter.all false
set_option maxRecDepth 100000
set_option maxHeartbeats 4000000
open PySem PySem.Spec L2 Mi
open PyProof.Rows hiding St
open scoped Classical in
theorem Pg.sortedG_tup' {R : List (List Int)} (hn : ∀ row ∈ R, row ≠ []) (m : Mem) : sortedG [.tup (R.map rowD)] m = some (.ref m.length, m ++ [.lst ((R.mergeSort Lw.rowLe).map rowD)]) := by
  show (if SortOk (R.map rowD) then some (D.ref m.length, m ++ [MO.lst (sortD (R.map rowD))]) else none) = _
  rw [if_pos (Lw.sortOk_rows hn), Lw.sort_rows]
namespace Pg
open Lw (lay_rows depth_rows shaped_row sortOk_rows sort_rows rowLe)
theorem shaped_tup (R : List (List Int)) : SeqAt.shaped (.tuple (D.pdL (R.map rowD))) = true := by
  unfold SeqAt.shaped
  rw [Bool.and_eq_true, decide_eq_true_eq]
  refine ⟨lay_rows R, ?_⟩
  show PyData.depthAll (D.pdL (R.map rowD)) + 1 ≤ 64
  have := depth_rows R
  omega
theorem inB_tup (row : List Int) (R : List (List Int)) (m : Mem) : inB (rowD row) (.tup (R.map rowD)) m = some (decide (row ∈ R)) := by
  show (if (SeqAt.shaped (rowD row).pd && SeqAt.shaped (PyData.tuple (D.pdL (R.map rowD)))) = true then some ((D.pdL (R.map rowD)).any fun e => PyData.eqv e (rowD row).pd) else none) = _
  rw [shaped_row, shaped_tup, Lw.any_rows]
  rfl
theorem inG_tup (row : List Int) (R : List (List Int)) (m : Mem) : inG (rowD row) (.tup (R.map rowD)) m = some (.bl (decide (row ∈ R)), m) := by
  unfold inG
  rw [inB_tup]
  rfl
theorem ninG_tup (row : List Int) (R : List (List Int)) (m : Mem) : ninG (rowD row) (.tup (R.map rowD)) m = some (.bl (!decide (row ∈ R)), m) := by
  unfold ninG
  rw [inB_tup]
  rfl
/-- what a table of a catalogue that passes is -/
theorem chk_tab {C : List Tab} (h : chk C = none) {t : Tab} (ht : t ∈ C) : isTable t = true := by
  unfold chk at h
  cases e : C.all isTable with
  | true => exact List.all_eq_true.mp e t ht
  | false => rw [e, if_pos rfl] at h; cases h
theorem tab_rows {t : Tab} (h : isTable t = true) : 1 ≤ t.2.1 ∧ t.2.1 ≤ 4 ∧ ∀ row ∈ t.2.2, isRow row t.2.1 = true := by
  unfold isTable at h
  rw [Bool.and_eq_true, Bool.and_eq_true, Bool.and_eq_true] at h
  obtain ⟨_, h2, h3, _⟩ := h
  have h2 : (decide (t.2.1 < 1) || decide (4 < t.2.1)) = false := by simpa using h2
  rw [Bool.or_eq_false_iff, decide_eq_false_iff_not, decide_eq_false_iff_not] at h2
  exact ⟨by omega, by omega, fun row hrow => List.all_eq_true.mp h3 row hrow⟩
theorem row_ne {row : List Int} {c : Int} (h : isRow row c = true) (hc : 1 ≤ c) : row ≠ [] := by
  intro e
  subst e
  unfold isRow at h
  rw [Bool.and_eq_true] at h
  have : ((([] : List Int).length : Nat) : Int) = c := eq_of_beq h.1
  simp at this
  omega
def sortR (rows : List (List Int)) : List (List Int) := rows.mergeSort rowLe
def withR (C : List Tab) (name : PySem.Str) (row : List Int) (m : Mem) : Res D := match chk C with
  | some c => .exc c m
  | none => match C.find? (named name) with
    | none => .exc "UnknownTable" m
    | some t => if isRow row t.2.1 = false then .exc "RowError" m else if decide (row ∈ t.2.2) = true then .exc "RowError" m else if decide (300 ≤ (t.2.2.length : Int)) = true then .exc "TooLarge" m else .ok (catD (C.map (putT name (sortR (t.2.2 ++ [row]))))) m
theorem with_row_eq {C : List Tab} {name : PySem.Str} {row : List Int} (hC : COk C) (hn : PyData.strOk name = true) (hw : row.length ≤ 1000) (m : Mem) : ∃ m', f_with_row [catD C, .str name, rowD row] m = withR C name row m' ∧ m <+: m' := by
  obtain ⟨m1, e, p1⟩ := check_eq hC m
  have hs : startE 6 [catD C, .str name, rowD row] = [some (catD C), some (.str name), some (rowD row), none, none, none] := rfl
  have c1 : callE Pg.f_check_catalogue (consA (varE 0) nilA) [some (catD C), some (.str name), some (rowD row), none, none, none] m = told (chk C) m1 := by
    rw [callE_ap, consA_ap, show varE 0 [some (catD C), some (.str name), some (rowD row), none, none, none] m = .ok (catD C) m from rfl, kca_ok, nilA_ap, kcb_ok, kcall_ok, e]
  have c2 : callE Pg.f_table_of (consA (varE 0) (consA (varE 1) nilA)) [some (catD C), some (.str name), some (rowD row), none, none, none] m1 = tableR (C.find? (named name)) m1 := by
    rw [callE_ap, show consA (varE 0) (consA (varE 1) nilA) [some (catD C), some (.str name), some (rowD row), none, none, none] m1 = .ok [catD C, .str name] m1 from rfl, kcall_ok, table_of_eq hC hn]
  unfold f_with_row withR
  rw [defF3, hs, seqS_ap, dropS_ap, c1]
  cases hc : chk C with
  | some c => exact ⟨m1, rfl, p1⟩
  | none =>
    show ∃ m', finF (kseq (.ok .nx _ m1) _) = _ ∧ _
    rw [kseq_nx, seqS_ap, asgG_ap, c2]
    cases hf : C.find? (named name) with
    | none => exact ⟨m1, rfl, p1⟩
    | some t =>
      have ht := List.mem_of_find?_eq_some hf
      obtain ⟨b1, b4, br⟩ := tab_rows (chk_tab hc ht)
      obtain ⟨m2, e2, p2⟩ := row_eq (c := t.2.1) hw m1
      have tg : tupG (consG (nameG 3) (consG (nameG 4) (consG (nameG 5) nilG))) (tabD t) [some (catD C), some (.str name), some (rowD row), none, none, none] = some [some (catD C), some (.str name), some (rowD row), some (.str t.1), some (.int t.2.1), some (.tup (t.2.2.map rowD))] := rfl
      show ∃ m', finF (kseq (kasgG _ (.ok (tabD t) m1) _) _) = _ ∧ _
      rw [kasgG_ok tg, kseq_nx]
      have i1 : notT (valT (callE Pg.f_is_row (consA (varE 2) (consA (varE 4) nilA)))) [some (catD C), some (.str name), some (rowD row), some (.str t.1), some (.int t.2.1), some (.tup (t.2.2.map rowD))] m1 = .ok (!isRow row t.2.1) m2 := by
        rw [notT_ap, valT_ap, callE_ap, show consA (varE 2) (consA (varE 4) nilA) [some (catD C), some (.str name), some (rowD row), some (.str t.1), some (.int t.2.1), some (.tup (t.2.2.map rowD))] m1 = .ok [rowD row, .int t.2.1] m1 from rfl, kcall_ok, e2]
        rfl
      cases hr : isRow row t.2.1 with
      | false =>
        rw [hr] at i1
        exact ⟨m2, by rw [seqS_ap, ifS_ap, i1, Bool.not_false, kif_t, seqS_ap, raiseS_ap, kseq_exc, kseq_exc, finF_exc]; simp only [hr, if_true], p1.trans p2⟩
      | true =>
        rw [hr] at i1
        have i2 : valT (op2 (varE 2) (varE 5) inG) [some (catD C), some (.str name), some (rowD row), some (.str t.1), some (.int t.2.1), some (.tup (t.2.2.map rowD))] m2 = .ok (decide (row ∈ t.2.2)) m2 := by
          simp only [valT_ap, op2_ap, varE_ap, List.getElem?_cons_zero, List.getElem?_cons_succ, pick_ok, k2a_ok, k2b_ok, inG_tup, lft_some, kval_ok]
        have i3 : valT (op2 (opN (consA (varE 5) nilA) lenG) (cstE (.int 300)) geG) [some (catD C), some (.str name), some (rowD row), some (.str t.1), some (.int t.2.1), some (.tup (t.2.2.map rowD))] m2 = .ok (decide (300 ≤ (t.2.2.length : Int))) m2 := by
          simp only [valT_ap, op2_ap, opN_ap, consA_ap, varE_ap, cstE_ap, nilA_ap, List.getElem?_cons_zero, List.getElem?_cons_succ, pick_ok, kca_ok, kcb_ok, kN_ok, lenG_tup, List.length_map, k2a_ok, k2b_ok, geG_int, lft_some, kval_ok]
        rw [seqS_ap, ifS_ap, i1, Bool.not_true, kif_f, nxS_ap, kseq_nx, seqS_ap, ifS_ap, i2]
        cases hi : decide (row ∈ t.2.2) with
        | true => exact ⟨m2, by rw [kif_t, seqS_ap, raiseS_ap, kseq_exc, kseq_exc, finF_exc]; simp only [if_true, Bool.true_eq_false, if_false, hi, hr], p1.trans p2⟩
        | false =>
          rw [kif_f, nxS_ap, kseq_nx, seqS_ap, ifS_ap, i3]
          cases hl : decide (300 ≤ (t.2.2.length : Int)) with
          | true => exact ⟨m2, by rw [kif_t, seqS_ap, raiseS_ap, kseq_exc, kseq_exc, finF_exc]; simp only [if_true, Bool.true_eq_false, Bool.false_eq_true, if_false, hi, hl, hr], p1.trans p2⟩
          | false =>
            have hl' := of_decide_eq_false hl
            have ne : ∀ z ∈ t.2.2 ++ [row], z ≠ [] := fun z hz => by
              rcases List.mem_append.mp hz with q | q
              · exact row_ne (br z q) b1
              · cases List.mem_singleton.mp q; exact row_ne hr b1
            have ea : addG (.tup (t.2.2.map rowD)) (.tup [rowD row]) m2 = some (.tup ((t.2.2 ++ [row]).map rowD), m2) := by
              show (if (t.2.2.map rowD).length + [rowD row].length ≤ sizeLine then some (D.tup (t.2.2.map rowD ++ [rowD row]), m2) else none) = _
              rw [if_pos (by rw [List.length_map, sizeLine_eq]; show t.2.2.length + 1 ≤ _; omega), List.map_append]
              rfl
            have es := sortedG_tup' ne m2
            have s1 : opN (consA (opN (consA (op2 (varE 5) (opN (consA (varE 2) nilA) tupD) addG) nilA) sortedG) nilA) tupleG [some (catD C), some (.str name), some (rowD row), some (.str t.1), some (.int t.2.1), some (.tup (t.2.2.map rowD))] m2 = .ok (.tup ((sortR (t.2.2 ++ [row])).map rowD)) (m2 ++ [.lst ((sortR (t.2.2 ++ [row])).map rowD)]) := by
              have el := tupleG_at (last_at m2 (MO.lst ((sortR (t.2.2 ++ [row])).map rowD)))
              simp only [opN_ap, consA_ap, op2_ap, varE_ap, nilA_ap, List.getElem?_cons_zero, List.getElem?_cons_succ, pick_ok, kca_ok, kcb_ok, kN_ok, tupD1, k2a_ok, k2b_ok, ea, lft_some]
              rw [es]
              show lft (tupleG [D.ref m2.length] (m2 ++ [MO.lst ((sortR (t.2.2 ++ [row])).map rowD)])) = _
              rw [el]
              rfl
            obtain ⟨m3, e3, p3⟩ := with_rows_eq (rows := sortR (t.2.2 ++ [row])) hC hn (m2 ++ [.lst ((sortR (t.2.2 ++ [row])).map rowD)])
            have c3 : callE Pg.f_with_rows (consA (varE 0) (consA (varE 1) (consA (opN (consA (opN (consA (op2 (varE 5) (opN (consA (varE 2) nilA) tupD) addG) nilA) sortedG) nilA) tupleG) nilA))) [some (catD C), some (.str name), some (rowD row), some (.str t.1), some (.int t.2.1), some (.tup (t.2.2.map rowD))] m2 = .ok (catD (C.map (putT name (sortR (t.2.2 ++ [row]))))) m3 := by
              rw [callE_ap, consA_ap, show varE 0 [some (catD C), some (.str name), some (rowD row), some (.str t.1), some (.int t.2.1), some (.tup (t.2.2.map rowD))] m2 = .ok (catD C) m2 from rfl, kca_ok, consA_ap, show varE 1 [some (catD C), some (.str name), some (rowD row), some (.str t.1), some (.int t.2.1), some (.tup (t.2.2.map rowD))] m2 = .ok (.str name) m2 from rfl, kca_ok, consA_ap, s1, kca_ok, nilA_ap, kcb_ok, kcb_ok, kcb_ok, kcall_ok, e3]
            refine ⟨m3, ?_, ((p1.trans p2).trans (List.prefix_append _ _)).trans p3⟩
            rw [kif_f, nxS_ap, kseq_nx, seqS_ap, retS_ap, c3, kret_ok, kseq_rt, finF_rt]
            simp only [Bool.true_eq_false, Bool.false_eq_true, if_false, hi, hl, hr]
end Pg

end

section
set_option Elab.async false
set_option linter.all false
set_option maxRecDepth 100000
set_option maxHeartbeats 4000000
open PySem PySem.Spec L2 Mi
open PyProof.Rows hiding St
namespace Pg
theorem neG_row {a b : List Int} {m : Mem} : neG (rowD a) (rowD b) m = some (.bl (!decide (a = b)), m) := by
  show (if (SeqAt.shaped (rowD a).pd && SeqAt.shaped (rowD b).pd) = true then some (D.bl (!PyData.eqvAll (D.pdL (a.map .int)) (D.pdL (b.map .int))), m) else none) = _
  rw [Lw.shaped_row, Lw.shaped_row, Lw.eqvAll_ints]
  rfl
def dropR (rows : List (List Int)) (row : List Int) : List (List Int) := rows.filter fun z => !decide (z = row)
def withoutR (C : List Tab) (name : PySem.Str) (row : List Int) (m : Mem) : Res D := match chk C with
  | some c => .exc c m
  | none => match C.find? (named name) with
    | none => .exc "UnknownTable" m
    | some t => if decide (row ∈ t.2.2) = false then .exc "RowError" m else .ok (catD (C.map (putT name (dropR t.2.2 row)))) m
theorem without_row_eq {C : List Tab} {name : PySem.Str} {row : List Int} (hC : COk C) (hn : PyData.strOk name = true) (m : Mem) : ∃ m', f_without_row [catD C, .str name, rowD row] m = withoutR C name row m' ∧ m <+: m' := by
  obtain ⟨m1, e, p1⟩ := rows_of_eq hC hn m
  have hs : startE 5 [catD C, .str name, rowD row] = [some (catD C), some (.str name), some (rowD row), none, none] := rfl
  have c1 : callE Pg.f_rows_of (consA (varE 0) (consA (varE 1) nilA)) [some (catD C), some (.str name), some (rowD row), none, none] m = lookR C name (fun t => .tup (t.2.2.map rowD)) m1 := by
    rw [callE_ap, show consA (varE 0) (consA (varE 1) nilA) [some (catD C), some (.str name), some (rowD row), none, none] m = .ok [catD C, .str name] m from rfl, kcall_ok, e]
  unfold f_without_row withoutR
  rw [defF3, hs, seqS_ap, asgS_ap, c1]
  unfold lookR
  cases hc : chk C with
  | some c => exact ⟨m1, rfl, p1⟩
  | none =>
    cases hf : C.find? (named name) with
    | none => exact ⟨m1, rfl, p1⟩
    | some t =>
      have ht := List.mem_of_find?_eq_some hf
      have hr := (hC.tab t ht).rs
      show ∃ m', finF (kseq (kasg 3 (.ok (.tup (t.2.2.map rowD)) m1) _) _) = _ ∧ _
      rw [kasg_ok, kseq_nx, show [some (catD C), some (.str name), some (rowD row), none, none].set 3 (some (.tup (t.2.2.map rowD))) = [some (catD C), some (.str name), some (rowD row), some (.tup (t.2.2.map rowD)), none] from rfl]
      have i2 : valT (op2 (varE 2) (varE 3) ninG) [some (catD C), some (.str name), some (rowD row), some (.tup (t.2.2.map rowD)), none] m1 = .ok (!decide (row ∈ t.2.2)) m1 := by
        simp only [valT_ap, op2_ap, varE_ap, List.getElem?_cons_zero, List.getElem?_cons_succ, pick_ok, k2a_ok, k2b_ok, ninG_tup, lft_some, kval_ok]
      rw [seqS_ap, ifS_ap, i2]
      cases hi : decide (row ∈ t.2.2) with
      | false => exact ⟨m1, by rw [Bool.not_false, kif_t, seqS_ap, raiseS_ap, kseq_exc, kseq_exc, finF_exc]; simp only [hi, if_true], p1⟩
      | true =>
        rw [Bool.not_true, kif_f, nxS_ap, kseq_nx]
        obtain ⟨m2, e2, p2, at2⟩ := comp_pure (vs := [4]) (fi := srcE (varE 3)) (tg := nameG 4) (c := valT (op2 (varE 4) (varE 2) neG)) (f := varE 4) (r := [some (catD C), some (.str name), some (rowD row), some (.tup (t.2.2.map rowD)), none]) (m := m1) (m1 := m1) (s := .fix (t.2.2.map rowD))
          t.2.2 rowD rowD (fun z => !decide (z = row)) (by simp only [atI_c0, atI_c1, atI_c2, atI_c3, nc0, nc1, nc2, nc3, nc4, nc5, nc6, nc7, nc8, nc9, setG_v, ksv_ok, kso_ok, ksi_ok, ksx_ok, ksy_ok, items_kit, kit_lst, kit_con, idxG_refE, kix_some, idxG_tupE, ofI_some, lenG_refE, klen_some, defF1, defF2, defF3, defF4, defF5, seqS_ap, kseq_nx, kseq_rt, kseq_bk, kseq_ct, kseq_exc, kseq_bad, nxS_ap, bkS_ap, ctS_ap, raiseS_ap, retN_ap, op1_ap, k1_ok, op2_ap, k2a_ok, k2b_ok, opN_ap, kN_ok, nilA_ap, consA_ap, kca_ok, kcb_ok, varE_ap, pick_ok, cstE_ap, asgS_ap, kasg_ok, kasg_exc, retS_ap, kret_ok, kret_exc, dropS_ap, kdrop_ok, kdrop_exc, ifS_ap, kif_t, kif_f, ifE_ap, kife_t, kife_f, valT_ap, kval_ok, notT_ap, knot_ok, andT_ap, kand_t, kand_f, orT_ap, kor_t, kor_f, andV_ap, kandv_t, kandv_f, orV_ap, korv_t, korv_f, notV_ap, knotv_ok, callE_ap, kcall_ok, parS_ap, kpar_ok, asgG_ap, forS_ap, kfor_ok, srcE_ap, ksrc_tup, ksrc_str, finF_nx, finF_rt, finF_exc, startE, lft_some, List.length_cons, List.length_nil, List.map_cons, List.map_nil, List.getElem?_cons_succ, List.getElem?_cons_zero, List.set_cons_zero, List.set_cons_succ, List.cons_append, List.nil_append, List.replicate_succ, List.replicate_zero, Nat.reduceAdd, Nat.reduceSub, Nat.sub_self, Nat.zero_add, eqG_int, neG_int, ltG_int, gtG_int, leG_int, geG_int, addG_int, subG_int, negG_int, absG_int, intG_int, gcdG_int, lenG_tup, tupD0, tupD1, tupD2, tupD3, tupD4, lstD0, lstD1, lstD4, isi_int_int, isi_bool_int, isi_tup_tup, decide_true, decide_false, Bool.not_true, Bool.not_false, beq_self_eq_true, Int.reduceBEq, Int.reduceLT, Int.reduceLE, Int.reduceNeg]) (fun _ _ => trivial) rfl (Nat.lt_of_le_of_lt hr (by decide))
          (fun z _ m' _ => ⟨[some (catD C), some (.str name), some (rowD row), some (.tup (t.2.2.map rowD)), some (rowD z)], rfl, m', by
            simp only [valT_ap, op2_ap, varE_ap, List.getElem?_cons_zero, List.getElem?_cons_succ, pick_ok, k2a_ok, k2b_ok, neG_row, lft_some, kval_ok], List.prefix_refl _, fun _ => ⟨m', rfl, List.prefix_refl _⟩⟩)
        obtain ⟨m3, e3, p3⟩ := with_rows_eq (rows := dropR t.2.2 row) hC hn m2
        have c3 : callE Pg.f_with_rows (consA (varE 0) (consA (varE 1) (consA (opN (consA (compE [4] (srcE (varE 3)) (nameG 4) (valT (op2 (varE 4) (varE 2) neG)) (varE 4)) nilA) tupleG) nilA))) [some (catD C), some (.str name), some (rowD row), some (.tup (t.2.2.map rowD)), none] m1 = .ok (catD (C.map (putT name (dropR t.2.2 row)))) m3 := by
          have s1 : opN (consA (compE [4] (srcE (varE 3)) (nameG 4) (valT (op2 (varE 4) (varE 2) neG)) (varE 4)) nilA) tupleG [some (catD C), some (.str name), some (rowD row), some (.tup (t.2.2.map rowD)), none] m1 = .ok (.tup ((dropR t.2.2 row).map rowD)) m2 := by
            rw [opN_ap, consA_ap, e2, kca_ok, nilA_ap, kcb_ok, kN_ok, tupleG_at at2]
            rfl
          rw [callE_ap, consA_ap, show varE 0 [some (catD C), some (.str name), some (rowD row), some (.tup (t.2.2.map rowD)), none] m1 = .ok (catD C) m1 from rfl, kca_ok, consA_ap, show varE 1 [some (catD C), some (.str name), some (rowD row), some (.tup (t.2.2.map rowD)), none] m1 = .ok (.str name) m1 from rfl, kca_ok, consA_ap, s1, kca_ok, nilA_ap, kcb_ok, kcb_ok, kcb_ok, kcall_ok, e3]
        exact ⟨m3, by rw [seqS_ap, retS_ap, c3, kret_ok, kseq_rt, finF_rt]; simp only [hi, Bool.true_eq_false, if_false], (p1.trans p2).trans p3⟩
end Pg

end

section
set_option Elab.async false
set_option linter.all false
set_option maxRecDepth 100000
set_option maxHeartbeats 4000000
open PySem PySem.Spec L2 Mi
open PyProof.Rows hiding St
namespace Lw
open Pg
/-! ## the drawer, told by what is asked -/
section
variable {m : Mem} {k : Nat} {X : XC} {Q : D → Mem → Prop}
theorem take_w (h : Drw m k) {n : Int} (hn : 0 < n) (hn2 : n ≤ 1000000000) (q : ∀ r m', 0 ≤ r → r < n → Drw m' k → Gk k m m' → Q (.int r) m') : wR (f__law_take [.ref k, .int n] m) X Q := by
  obtain ⟨r, m', e, r0, r1, d, b⟩ := take_eq h hn (Nat.lt_of_lt_of_le (Pg.log_of (k := 40) (by omega) (by omega)) (by omega))
  exact wR_ok e (q r m' r0 r1 d (.of_but b))
theorem signed_w (h : Drw m k) {n : Int} (hn : 0 ≤ n) (hn2 : n ≤ 1000000000) (q : ∀ r m', -n ≤ r → r ≤ n → Drw m' k → Gk k m m' → Q (.int r) m') : wR (f__law_signed [.ref k, .int n] m) X Q := by
  obtain ⟨r, m', e, r0, r1, d, b⟩ := signed_eq h hn (Nat.lt_of_lt_of_le (show n.natAbs < 2 ^ 40 by omega) (Nat.pow_le_pow_right (by omega) (by omega)))
  exact wR_ok e (q r m' r0 r1 d (.of_but b))
theorem begin_w (ns : List Int) (q : ∀ m', Drw m' 2 → m'.length = 3 → Q (.ref 2) m') : wR (f__law_begin [.ref 0] [.con (ns.map .int)]) X Q := by
  obtain ⟨m', e, l, d⟩ := begin_ok ns
  exact wR_ok e (q m' d l)
theorem cat_w (h : Drw m k) {many most : Nat} {reach : Int} (hr : 0 < reach) (hr2 : reach ≤ 1000000000) (h0 : 0 < many) (h8 : many ≤ 8) (hm : most ≤ 8)
    (q : ∀ C m', GoodC most reach C → 1 ≤ C.length → C.length ≤ many → Drw m' k → Gk k m m' → Q (catD C) m') : wR (f__law_catalogue [.ref k, .int many, .int most, .int reach] m) X Q := by
  obtain ⟨C, m', e, g, c1, c4, d, gk⟩ := cat_eq h hr (Nat.lt_of_lt_of_le (Pg.log_of (k := 40) (by omega) (by omega)) (by omega)) h0 h8 hm
  exact wR_ok e (q C m' g c1 c4 d gk)
/-- numbers drawn one by one -/
theorem w_draws {s : Src} {tg : FG} {f : FE} {r0 : Mi.Env} {c0 : Nat} {reach : Int} (h : Drw m k) (hs : s = .fix (iotaD 0 c0)) (hc : c0 ≤ 1000000)
    (step : ∀ (j : Int) m', Drw m' k → ∃ r1, tg (.int j) r0 = some r1 ∧ ∀ Q : D → Mem → Prop, (∀ n m2, 0 ≤ n → n < reach → Drw m2 k → Gk k m' m2 → Q (.int n) m2) → wR (f r1 m') X0 Q)
    (fin : ∀ (row : List Int) m', row.length = c0 → (∀ n ∈ row, 0 ≤ n ∧ n < reach) → Drw m' k → Gk k m m' → m'[m.length]? = some (.lst (row.map .int)) → Q (.ref m.length) m') : wR (compL s tg yesT f m.length r0 s.items (m ++ [.lst []])) X Q := by
  subst hs
  have ne : m.length ≠ k := by have := h.lt; omega
  refine w_compL (List.range c0) (fun (j : Nat) => D.int (0 + (j : Int))) (fun dn _ ys m' => m'[m.length]? = some (.lst ys) ∧ Drw m' k ∧ Gk k m m' ∧ ∃ row : List Int, ys = row.map .int ∧ row.length = dn.length ∧ ∀ n ∈ row, 0 ≤ n ∧ n < reach) rfl
    ⟨last_at _ _, h.app _, .of_pre (List.prefix_append _ _), [], rfl, rfl, by simp⟩ (fun _ _ _ _ _ => trivial) (fun dn x ds ys m' e q => ?_) (fun ys m' q => ?_)
  · obtain ⟨h1, h2, h3, row, e1, e2, e3⟩ := q
    obtain ⟨r1, er, st⟩ := step _ m' h2
    refine ⟨r1, er, w_yesT (wB_t (st _ fun n m2 n0 n1 d2 g2 => ?_))⟩
    have em : m2[m.length]? = some (.lst ys) := g2.get ne h1
    have hl := (List.getElem?_eq_some_iff.mp em).1
    have le : dn.length ≤ c0 := by
      have := congrArg List.length e
      simp at this
      omega
    refine ⟨em, ?_, List.getElem?_set_self hl, d2.set h.lt _, (h3.trans g2).set (Nat.le_refl _) _, row ++ [n], by rw [e1]; simp, by simp [e2], fun z hz => ?_⟩
    · rw [e1, List.length_map, e2]
      exact Nat.lt_of_le_of_lt (by omega : dn.length ≤ 1000000) (by decide)
    · rcases List.mem_append.mp hz with hz | hz
      · exact e3 z hz
      · cases List.mem_singleton.mp hz
        exact ⟨n0, n1⟩
  · obtain ⟨h1, h2, h3, row, e1, e2, e3⟩ := q
    exact fin row m' (by rw [e2, List.length_range]) e3 h2 h3 (by rw [h1, e1])
end
end Lw

end

section
set_option Elab.async false
set_option linter.all false
set_option maxRecDepth 100000
set_option maxHeartbeats 4000000
namespace K10
open PySem PySem.Spec L2 Mi
open PyProof.Rows hiding St
abbrev errs : List String := []
abbrev hands : List String := []
noncomputable def f_law : Fn := defF 9 1 (seqS (asgS 1 (callE Lw.f__law_begin (consA (varE 0) nilA)))
  (seqS (asgS 2 (opN nilA lstD))
  (seqS (forS (rng1 (consA (callE Lw.f__law_take (consA (varE 1) (consA (cstE (.int 6)) nilA))) nilA)) (nameG 3) (seqS (asgS 4 (op2 (opN (consA (cstE (.int 4)) (consA (cstE (.int 30)) (consA (cstE (.int 1000)) nilA))) tupD) (callE Lw.f__law_take (consA (varE 1) (consA (cstE (.int 3)) nilA))) idxG))
  (seqS (asgS 5 (compE [7] (rng1 (consA (callE Lw.f__law_take (consA (varE 1) (consA (cstE (.int 31)) nilA))) nilA)) (nameG 7) yesT (callE Lw.f__law_signed (consA (varE 1) (consA (varE 4) nilA)))))
  (seqS (ifS (andT (valT (op2 (opN (consA (varE 2) nilA) lenG) (cstE (.int 0)) gtG)) (valT (op2 (callE Lw.f__law_take (consA (varE 1) (consA (cstE (.int 2)) nilA))) (cstE (.int 1)) eqG))) (seqS (asgS 5 (op2 (varE 5) (compE [8] (srcE (op2 (varE 2) (cstE (.int 0)) idxG)) (nameG 8) (valT (op2 (callE Lw.f__law_take (consA (varE 1) (consA (cstE (.int 4)) nilA))) (cstE (.int 0)) gtG)) (varE 8)) addG))
  nxS) nxS)
  (seqS (dropS (appE (varE 2) (opN (consA (op1 (varE 5) sortSetG) nilA) tupleG)))
  nxS)))))
  (seqS (asgS 6 (opN nilA lstD))
  (seqS (ifS (valT (op2 (opN (consA (varE 2) nilA) lenG) (cstE (.int 0)) gtG)) (seqS (asgS 6 (compE [8] (srcE (op2 (varE 2) (cstE (.int 0)) idxG)) (nameG 8) (valT (opN (consA (compE [5] (srcE (varE 2)) (nameG 5) yesT (op2 (varE 8) (varE 5) inG)) nilA) allG)) (varE 8)))
  nxS) nxS)
  (seqS (retS (op2 (callE Pg.f_common (consA (opN (consA (varE 2) nilA) tupleG) nilA)) (opN (consA (varE 6) nilA) tupleG) eqG))
  nxS))))))
end K10

end

section
set_option Elab.async false
set_option linter.all false
set_option maxRecDepth 100000
set_option maxHeartbeats 4000000
namespace K10
open PySem PySem.Spec L2 Mi
open PyProof.Rows hiding St
def topS (i : Nat) : Stmt := PySem.Challenge.pw_joinhall_k10_common_integers.main.body.getD i (.Pass ⟨0, 0, 0, 0⟩)
abbrev s_kept_in : Stmt := topS 1
abbrev N_kept_in : List Str := ["numbers", "row", "members", "n"]
theorem sc_kept_in : FnScope N_kept_in ["numbers", "row"] (defScope s_kept_in) := ⟨rfl, rfl, rfl, by decide +kernel, rfl, by decide +kernel, by decide +kernel⟩
abbrev s_common : Stmt := topS 2
abbrev N_common : List Str := ["rows", "found", "row"]
theorem sc_common : FnScope N_common ["rows"] (defScope s_common) := ⟨rfl, rfl, rfl, by decide +kernel, rfl, by decide +kernel, by decide +kernel⟩
abbrev s__law_begin : Stmt := topS 4
abbrev N__law_begin : List Str := ["script", "seed", "cell"]
theorem sc__law_begin : FnScope N__law_begin ["script"] (defScope s__law_begin) := ⟨rfl, rfl, rfl, by decide +kernel, rfl, by decide +kernel, by decide +kernel⟩
abbrev s__law_take : Stmt := topS 5
abbrev N__law_take : List Str := ["d", "many", "small", "digit"]
theorem sc__law_take : FnScope N__law_take ["d", "many"] (defScope s__law_take) := ⟨rfl, rfl, rfl, by decide +kernel, rfl, by decide +kernel, by decide +kernel⟩
abbrev s__law_signed : Stmt := topS 6
abbrev N__law_signed : List Str := ["d", "most"]
theorem sc__law_signed : FnScope N__law_signed ["d", "most"] (defScope s__law_signed) := ⟨rfl, rfl, rfl, by decide +kernel, rfl, by decide +kernel, by decide +kernel⟩
abbrev s_law : Stmt := topS 7
abbrev N_law : List Str := ["script", "d", "rows", "k", "reach", "row", "due", "j", "n"]
theorem sc_law : FnScope N_law ["script"] (defScope s_law) := ⟨rfl, rfl, rfl, by decide +kernel, rfl, by decide +kernel, by decide +kernel⟩
section
variable {P : Program} {w : World} {K : PySem.W.Frag} {mg : Str → Option Value} {base : Heap} {cl : String → Addr}
theorem t_kept_in (D_kept_in : Def K mg "kept_in" s_kept_in ["numbers", "row"]) (Z_set : mg "set" = none) : Has P w K mg base cl "kept_in" 1 ["numbers", "row"] Pg.f_kept_in := has_of D_kept_in sc_kept_in fun f cdv A outer s H E hr => (scons (sset sc_kept_in.nd (dcallTy (c_mkSet rfl) (by rfl) Z_set (by decide +kernel) (dcons (dvar 1) dnil)))
  (scons (sret (dcomp (own := [("n", 3)]) rfl sc_kept_in.nd (blkOk_by (N := N_kept_in) (sc := defScope s_kept_in) (own := [("n", 3)]) (by decide +kernel)) (ival (dvar 0)) (fun _ _ _ _ _ => (gname 3 sc_kept_in.nd)) (fun _ _ _ _ _ => (tone (dtcmp (o_in (room65 hr)) (dvar 3) (dvar 2)))) (fun _ _ _ _ _ => (dvar 3))))
  snil))
theorem t_common (D_common : Def K mg "common" s_common ["rows"]) (Z_len : mg "len" = none) (h_kept_in : Has P w K mg base cl "kept_in" 1 ["numbers", "row"] Pg.f_kept_in) (Z_tuple : mg "tuple" = none) : Has P w K mg base cl "common" 2 ["rows"] Pg.f_common := has_of D_common sc_common fun f cdv A outer s H E hr => (scons (sif (dtcmp (o_eq hr.units) (dcallB c_len (by rfl) Z_len (by decide +kernel) (dcons (dvar 0) dnil)) dint) (scons (sret (dtup dnil))
  snil) snil)
  (scons (sset sc_common.nd (dix (room1 hr) (dvar 0) dint))
  (scons (sfor (passes_of rfl) rfl (ival (dslice (dvar 0) (dpo dint) dponil)) (gname 2 sc_common.nd) (scons (sset sc_common.nd (dcl h_kept_in hr (takes_of rfl rfl rfl rfl) (dcons (dvar 1) (dcons (dvar 2) dnil))))
  snil))
  (scons (sret (dcallTy c_tuple (by rfl) Z_tuple (by decide +kernel) (dcons (dvar 1) dnil)))
  snil))))
theorem t__law_begin (D__law_begin : Def K mg "_law_begin" s__law_begin ["script"]) (Z_int : mg "int" = none) (Z_list : mg "list" = none) : Has P w K mg base cl "_law_begin" 1 ["script"] Lw.f__law_begin := has_of D__law_begin sc__law_begin fun f cdv A outer s H E hr => (scons (sset sc__law_begin.nd dint)
  (scons (sfor (passes_of rfl) rfl (ival (dvar 0)) (gname 2 sc__law_begin.nd) (scons (sset sc__law_begin.nd (dop o_mod (dop o_add (dop o_add (dop o_mul (dvar 1) dint) (dop o_mod (dcallTy c_int (by rfl) Z_int (by decide +kernel) (dcons (dvar 2) dnil)) dint)) dint) dint))
  snil))
  (scons (sret (dlst (dcons (dcallTy c_list (by rfl) Z_list (by decide +kernel) (dcons (dvar 0) dnil)) (dcons dint (dcons dint (dcons (dvar 1) dnil))))))
  snil)))
theorem t__law_take (D__law_take : Def K mg "_law_take" s__law_take ["d", "many"]) (Z_len : mg "len" = none) (Z_int : mg "int" = none) (Z_abs : mg "abs" = none) : Has P w K mg base cl "_law_take" 1 ["d", "many"] Lw.f__law_take := has_of D__law_take sc__law_take fun f cdv A outer s H E hr => (scons (sif (dtw (dwand (dtcmp (o_eq hr.units) (dix (room1 hr) (dvar 0) dint) dint) (dwand1 (dtcmp (o_lt hr.units) (dix (room1 hr) (dvar 0) dint) (dcallB c_len (by rfl) Z_len (by decide +kernel) (dcons (dix (room1 hr) (dvar 0) dint) dnil)))))) (scons (ssub (dcallB c_abs (by rfl) Z_abs (by decide +kernel) (dcons (dcallTy c_int (by rfl) Z_int (by decide +kernel) (dcons (dix (room1 hr) (dix (room1 hr) (dvar 0) dint) (dix (room1 hr) (dvar 0) dint)) dnil)) dnil)) (dvar 0) dint)
  (scons (ssub (dop o_add (dix (room1 hr) (dvar 0) dint) dint) (dvar 0) dint)
  (scons (sif (dtcmp (o_lt hr.units) (dix (room1 hr) (dvar 0) dint) (dop o_pow dint dint)) (scons (sset sc__law_take.nd (dcallTy c_int (by rfl) Z_int (by decide +kernel) (dcons (dix (room1 hr) (dvar 0) dint) dnil)))
  (scons (ssub dint (dvar 0) dint)
  (scons (sret (dop o_mod (dvar 2) (dvar 1)))
  snil))) snil)
  snil))) snil)
  (scons (sif (dtcmp (o_gt hr.units) (dix (room1 hr) (dvar 0) dint) dint) (scons (sset sc__law_take.nd (dop o_mod (dcallTy c_int (by rfl) Z_int (by decide +kernel) (dcons (dix (room1 hr) (dvar 0) dint) dnil)) (dvar 1)))
  (scons (ssub (dop o_fdiv (dcallTy c_int (by rfl) Z_int (by decide +kernel) (dcons (dix (room1 hr) (dvar 0) dint) dnil)) (dvar 1)) (dvar 0) dint)
  (scons (sret (dvar 3))
  snil))) snil)
  (scons (ssub (dop o_mod (dcallTy c_int (by rfl) Z_int (by decide +kernel) (dcons (dop o_add (dop o_mul (dix (room1 hr) (dvar 0) dint) dint) dint) dnil)) dint) (dvar 0) dint)
  (scons (sret (dop o_mod (dcallTy c_int (by rfl) Z_int (by decide +kernel) (dcons (dop o_fdiv (dix (room1 hr) (dvar 0) dint) dint) dnil)) (dvar 1)))
  snil))))
theorem t__law_signed (D__law_signed : Def K mg "_law_signed" s__law_signed ["d", "most"]) (h__law_take : Has P w K mg base cl "_law_take" 1 ["d", "many"] Lw.f__law_take) : Has P w K mg base cl "_law_signed" 2 ["d", "most"] Lw.f__law_signed := has_of D__law_signed sc__law_signed fun f cdv A outer s H E hr => (scons (sret (dop o_sub (dcl h__law_take hr (takes_of rfl rfl rfl rfl) (dcons (dvar 0) (dcons (dop o_add (dop o_mul dint (dvar 1)) dint) dnil))) (dvar 1)))
  snil)
theorem t_law (D_law : Def K mg "law" s_law ["script"]) (h__law_begin : Has P w K mg base cl "_law_begin" 1 ["script"] Lw.f__law_begin) (h__law_take : Has P w K mg base cl "_law_take" 1 ["d", "many"] Lw.f__law_take) (Z_range : mg "range" = none) (h__law_signed : Has P w K mg base cl "_law_signed" 2 ["d", "most"] Lw.f__law_signed) (Z_len : mg "len" = none) (Z_sorted : mg "sorted" = none) (Z_set : mg "set" = none) (Z_tuple : mg "tuple" = none) (Z_all : mg "all" = none) (h_common : Has P w K mg base cl "common" 2 ["rows"] Pg.f_common) : Has P w K mg base cl "law" 3 ["script"] f_law := has_of D_law sc_law fun f cdv A outer s H E hr => (scons (sset sc_law.nd (dcl h__law_begin hr (takes_of rfl rfl rfl rfl) (dcons (dvar 0) dnil)))
  (scons (sset sc_law.nd (dlst dnil))
  (scons (sfor (passes_of rfl) rfl (irng1 (by rfl) Z_range (dcons (dcl h__law_take hr (takes_of rfl rfl rfl rfl) (dcons (dvar 1) (dcons dint dnil))) dnil)) (gname 3 sc_law.nd) (scons (sset sc_law.nd (dix (room1 hr) (dtup (dcons dint (dcons dint (dcons dint dnil)))) (dcl h__law_take hr (takes_of rfl rfl rfl rfl) (dcons (dvar 1) (dcons dint dnil)))))
  (scons (scomp (own := [("j", 7)]) rfl sc_law.nd (blkOk_by (N := N_law) (sc := defScope s_law) (own := [("j", 7)]) (by decide +kernel)) (irng1 (by rfl) Z_range (dcons (dcl h__law_take hr (takes_of rfl rfl rfl rfl) (dcons (dvar 1) (dcons dint dnil))) dnil)) (fun _ _ _ _ _ => (gname 7 sc_law.nd)) (fun _ _ _ _ _ => tnil) (fun _ _ _ _ _ => (dcl h__law_signed hr takes0 (dcons (dvar 1) (dcons (dvar 4) dnil)))))
  (scons (sif (dtw (dwand (dtcmp (o_gt hr.units) (dcallB c_len (by rfl) Z_len (by decide +kernel) (dcons (dvar 2) dnil)) dint) (dwand1 (dtcmp (o_eq hr.units) (dcl h__law_take hr (takes_of rfl rfl rfl rfl) (dcons (dvar 1) (dcons dint dnil))) dint)))) (scons (sset sc_law.nd (dop o_add (dvar 5) (dcomp (own := [("n", 8)]) rfl sc_law.nd (blkOk_by (N := N_law) (sc := defScope s_law) (own := [("n", 8)]) (by decide +kernel)) (ival (dix (room1 hr) (dvar 2) dint)) (fun _ _ _ _ _ => (gname 8 sc_law.nd)) (fun _ _ _ _ _ => (tone (dtcmp (o_gt hr.units) (dcl h__law_take hr takes0 (dcons (dvar 1) (dcons dint dnil))) dint))) (fun _ _ _ _ _ => (dvar 8)))))
  snil) snil)
  (scons (sdrop (dapp (dvar 2) (dcallTy c_tuple (by rfl) Z_tuple (by decide +kernel) (dcons (dsortset rfl hr Z_sorted Z_set (dvar 5)) dnil))))
  snil)))))
  (scons (sset sc_law.nd (dlst dnil))
  (scons (sif (dtcmp (o_gt hr.units) (dcallB c_len (by rfl) Z_len (by decide +kernel) (dcons (dvar 2) dnil)) dint) (scons (scomp (own := [("n", 8)]) rfl sc_law.nd (blkOk_by (N := N_law) (sc := defScope s_law) (own := [("n", 8)]) (by decide +kernel)) (ival (dix (room1 hr) (dvar 2) dint)) (fun _ _ _ _ _ => (gname 8 sc_law.nd)) (fun _ _ _ _ _ => (tone (dtval (dcallB (c_all rfl hr) (by rfl) Z_all (by decide +kernel) (dcons (dcomp (own := [("row", 5)]) rfl sc_law.nd (blkOk_by (N := N_law) (own := [("row", 5)]) (by rfl)) (ival (dvar 2)) (fun _ _ _ _ _ => (gname 5 sc_law.nd)) (fun _ _ _ _ _ => tnil) (fun _ _ _ _ _ => (dcmp (o_in (room65 hr)) (dvar 8) (dvar 5)))) dnil))))) (fun _ _ _ _ _ => (dvar 8)))
  snil) snil)
  (scons (sret (dcmp (o_eq hr.units) (dcl h_common hr (takes_of rfl rfl rfl rfl) (dcons (dcallTy c_tuple (by rfl) Z_tuple (by decide +kernel) (dcons (dvar 2) dnil)) dnil)) (dcallTy c_tuple (by rfl) Z_tuple (by decide +kernel) (dcons (dvar 6) dnil))))
  snil))))))
end
theorem all_mk {l : PySem.W.OpenLaw} {w : World} {K : PySem.W.Frag} {h : Heap} {mg : Str → Option Value} {fa : Addr} (X : K.In h) (G : h.Ns mainGlobals mg) (hfa : mg "law" = some (.ref fa))
  {f1 : Addr} {oc1 kV1 dc1 pm1 cd1 ct1 : Value} {od1 an1 : Option Addr} {sl1 : Array (Option Value)}
  {f2 : Addr} {oc2 kV2 dc2 pm2 cd2 ct2 : Value} {od2 an2 : Option Addr} {sl2 : Array (Option Value)}
  {f4 : Addr} {oc4 kV4 dc4 pm4 cd4 ct4 : Value} {od4 an4 : Option Addr} {sl4 : Array (Option Value)}
  {f5 : Addr} {oc5 kV5 dc5 pm5 cd5 ct5 : Value} {od5 an5 : Option Addr} {sl5 : Array (Option Value)}
  {f6 : Addr} {oc6 kV6 dc6 pm6 cd6 ct6 : Value} {od6 an6 : Option Addr} {sl6 : Array (Option Value)}
  {f7 : Addr} {oc7 kV7 dc7 pm7 cd7 ct7 : Value} {od7 an7 : Option Addr} {sl7 : Array (Option Value)}
  (a1 : PySem.W.nsIn K mainGlobals "kept_in" = some (some (.ref f1)))
  (l1 : K.lookup f1 = some ⟨oc1, od1, .func (PySem.W.fnOf "kept_in" "kept_in" (defArgs s_kept_in) (defBody s_kept_in) (defScope s_kept_in) .none kV1 dc1 pm1 an1 cd1 ct1), sl1⟩)
  (c1 : PySem.W.codeIn K cd1 "kept_in" = true)
  (k1 : PySem.W.keepIn K (.ref f1) = true)
  (a2 : PySem.W.nsIn K mainGlobals "common" = some (some (.ref f2)))
  (l2 : K.lookup f2 = some ⟨oc2, od2, .func (PySem.W.fnOf "common" "common" (defArgs s_common) (defBody s_common) (defScope s_common) .none kV2 dc2 pm2 an2 cd2 ct2), sl2⟩)
  (c2 : PySem.W.codeIn K cd2 "common" = true)
  (k2 : PySem.W.keepIn K (.ref f2) = true)
  (a4 : PySem.W.nsIn K mainGlobals "_law_begin" = some (some (.ref f4)))
  (l4 : K.lookup f4 = some ⟨oc4, od4, .func (PySem.W.fnOf "_law_begin" "_law_begin" (defArgs s__law_begin) (defBody s__law_begin) (defScope s__law_begin) .none kV4 dc4 pm4 an4 cd4 ct4), sl4⟩)
  (c4 : PySem.W.codeIn K cd4 "_law_begin" = true)
  (k4 : PySem.W.keepIn K (.ref f4) = true)
  (a5 : PySem.W.nsIn K mainGlobals "_law_take" = some (some (.ref f5)))
  (l5 : K.lookup f5 = some ⟨oc5, od5, .func (PySem.W.fnOf "_law_take" "_law_take" (defArgs s__law_take) (defBody s__law_take) (defScope s__law_take) .none kV5 dc5 pm5 an5 cd5 ct5), sl5⟩)
  (c5 : PySem.W.codeIn K cd5 "_law_take" = true)
  (k5 : PySem.W.keepIn K (.ref f5) = true)
  (a6 : PySem.W.nsIn K mainGlobals "_law_signed" = some (some (.ref f6)))
  (l6 : K.lookup f6 = some ⟨oc6, od6, .func (PySem.W.fnOf "_law_signed" "_law_signed" (defArgs s__law_signed) (defBody s__law_signed) (defScope s__law_signed) .none kV6 dc6 pm6 an6 cd6 ct6), sl6⟩)
  (c6 : PySem.W.codeIn K cd6 "_law_signed" = true)
  (k6 : PySem.W.keepIn K (.ref f6) = true)
  (a7 : PySem.W.nsIn K mainGlobals "law" = some (some (.ref f7)))
  (l7 : K.lookup f7 = some ⟨oc7, od7, .func (PySem.W.fnOf "law" "law" (defArgs s_law) (defBody s_law) (defScope s_law) .none kV7 dc7 pm7 an7 cd7 ct7), sl7⟩)
  (c7 : PySem.W.codeIn K cd7 "law" = true)
  (k7 : PySem.W.keepIn K (.ref f7) = true)
  (z_set : PySem.W.nsIn K mainGlobals "set" = some none)
  (z_len : PySem.W.nsIn K mainGlobals "len" = some none)
  (z_tuple : PySem.W.nsIn K mainGlobals "tuple" = some none)
  (z_int : PySem.W.nsIn K mainGlobals "int" = some none)
  (z_list : PySem.W.nsIn K mainGlobals "list" = some none)
  (z_abs : PySem.W.nsIn K mainGlobals "abs" = some none)
  (z_range : PySem.W.nsIn K mainGlobals "range" = some none)
  (z_sorted : PySem.W.nsIn K mainGlobals "sorted" = some none)
  (z_all : PySem.W.nsIn K mainGlobals "all" = some none) :
  ∃ fd : FuncData, (∀ (s : Shared) (v : Value), BindsTo s fd ⟨[v], []⟩ [("script", v)]) ∧ ∀ base : Heap, K.In base → base.Ns mainGlobals mg → FnOk l.prog w K mg base (L2.CX l.prog w) 3 fa fd ["script"] (spK f_law K) := by
  have e := hfa.symm.trans (PySem.W.mg_of X G a7)
  cases e
  have D_kept_in : Def K mg "kept_in" s_kept_in ["numbers", "row"] := def_mk X G a1 l1 c1 k1 fun _ _ _ _ _ _ us hl => match us, hl with | [_, _], _ => rfl
  have D_common : Def K mg "common" s_common ["rows"] := def_mk X G a2 l2 c2 k2 fun _ _ _ _ _ _ us hl => match us, hl with | [_], _ => rfl
  have D__law_begin : Def K mg "_law_begin" s__law_begin ["script"] := def_mk X G a4 l4 c4 k4 fun _ _ _ _ _ _ us hl => match us, hl with | [_], _ => rfl
  have D__law_take : Def K mg "_law_take" s__law_take ["d", "many"] := def_mk X G a5 l5 c5 k5 fun _ _ _ _ _ _ us hl => match us, hl with | [_, _], _ => rfl
  have D__law_signed : Def K mg "_law_signed" s__law_signed ["d", "most"] := def_mk X G a6 l6 c6 k6 fun _ _ _ _ _ _ us hl => match us, hl with | [_, _], _ => rfl
  have D_law : Def K mg "law" s_law ["script"] := def_mk X G a7 l7 c7 k7 fun _ _ _ _ _ _ us hl => match us, hl with | [_], _ => rfl
  obtain ⟨f, fd, F, hm, bi⟩ := id D_law
  have e2 := hm.symm.trans (PySem.W.mg_of X G a7)
  cases e2
  refine ⟨fd, fun s v => ?_, fun base _ _ => ?_⟩
  · obtain ⟨oc, od, kV, doc, pm, an, cdv, ct, osl, rfl, _, _⟩ := F.ex
    exact .of_eq rfl
  have h_kept_in := t_kept_in (P := l.prog) (w := w) (base := base) (cl := clK K) D_kept_in (PySem.W.mg_none_of X G z_set)
  have h_common := t_common (P := l.prog) (w := w) (base := base) (cl := clK K) D_common (PySem.W.mg_none_of X G z_len) h_kept_in (PySem.W.mg_none_of X G z_tuple)
  have h__law_begin := t__law_begin (P := l.prog) (w := w) (base := base) (cl := clK K) D__law_begin (PySem.W.mg_none_of X G z_int) (PySem.W.mg_none_of X G z_list)
  have h__law_take := t__law_take (P := l.prog) (w := w) (base := base) (cl := clK K) D__law_take (PySem.W.mg_none_of X G z_len) (PySem.W.mg_none_of X G z_int) (PySem.W.mg_none_of X G z_abs)
  have h__law_signed := t__law_signed (P := l.prog) (w := w) (base := base) (cl := clK K) D__law_signed h__law_take
  have h_law := t_law (P := l.prog) (w := w) (base := base) (cl := clK K) D_law h__law_begin h__law_take (PySem.W.mg_none_of X G z_range) h__law_signed (PySem.W.mg_none_of X G z_len) (PySem.W.mg_none_of X G z_sorted) (PySem.W.mg_none_of X G z_set) (PySem.W.mg_none_of X G z_tuple) (PySem.W.mg_none_of X G z_all) h_common
  exact fn_same F hm h_law
end K10

end

section
set_option Elab.async false
set_option linter.all false
set_option maxRecDepth 100000
set_option maxHeartbeats 4000000
open PySem PySem.Spec L2 Mi
open PyProof.Rows hiding St
namespace Pg
abbrev rowsI (R : List (List Int)) : D := .tup (R.map rowD)
theorem intsM_row {ns : List Int} {m : Mem} : intsM m (rowD ns) = some ns := intsOf_map ns
theorem intsM_ref {ns : List Int} {m : Mem} {n : Nat} (h : itemsOf m n = some (ns.map .int)) : intsM m (.ref n) = some ns := by
  show (itemsOf m n).bind intsOf = _
  rw [h]
  exact intsOf_map ns
theorem mkSet_of {ns : List Int} {m : Mem} {x : D} (h : intsM m x = some ns) (hl : ns.length < 1000) : mkSetG [x] m = some (.ref m.length, m ++ [.sti ns]) := by
  unfold mkSetG
  simp only [h, hl, if_true]
theorem sortSet_of {ns : List Int} {m : Mem} {x : D} (h : intsM m x = some ns) (hl : ns.length < 64) : sortSetG x m = some (.ref m.length, m ++ [.lst ((upSet ns).map .int)]) := by
  unfold sortSetG
  simp only [h, hl, if_true]
theorem inG_sti {ns : List Int} {m : Mem} {n : Nat} {i : Int} (h : m[n]? = some (.sti ns)) : inG (.int i) (.ref n) m = some (.bl (decide (i ∈ ns)), m) := by
  have e : itemsOf m n = none := by unfold itemsOf; rw [h]
  have e2 : inB (.int i) (.ref n) m = some (decide (i ∈ ns)) := by
    unfold inB
    dsimp only
    rw [e]
    dsimp only
    rw [h]
    rfl
  unfold inG
  rw [e2]
  rfl
theorem kept_w {numbers : D} {xs ys : List Int} {m : Mem} {X : XC} {Q : D → Mem → Prop} (hn : ∀ m', m <+: m' → ∃ s, srcOf numbers m' = .ok s m' ∧ s.items = xs.map .int ∧ ∀ m2, m' <+: m2 → s.still m2) (hy : ys.length < 1000) (hx : xs.length < 100000)
    (q : ∀ m', m <+: m' → m'[m.length + 1]? = some (.lst ((xs.filter fun n => decide (n ∈ ys)).map .int)) → Q (.ref (m.length + 1)) m') : wR (f_kept_in [numbers, rowD ys] m) X Q := by
  unfold f_kept_in
  refine w_def rfl rfl ?_; simp only [startE, List.map_cons, List.map_nil, List.length_cons, List.length_nil, Nat.reduceAdd, Nat.reduceSub, Nat.sub_self, List.replicate_succ, List.replicate_zero, List.cons_append, List.nil_append]
  (repeat (first | with_reducible refine w_seq ?_ | with_reducible refine w_asg ?_ | with_reducible refine w_ret ?_ | with_reducible refine w_if ?_ | with_reducible refine w_drop ?_ | with_reducible refine w_op2 ?_ | with_reducible refine w_op1 ?_ | with_reducible refine w_opN ?_ | with_reducible refine w_consA ?_ | with_reducible refine w_nilA ?_ | with_reducible refine w_cst ?_ | with_reducible refine w_valT ?_ | with_reducible refine w_notT ?_ | with_reducible refine w_andT ?_ | with_reducible refine w_orT ?_ | with_reducible refine w_yesT ?_ | with_reducible refine w_ifE ?_ | with_reducible refine w_andV ?_ | with_reducible refine w_orV ?_ | with_reducible refine w_notV ?_ | with_reducible refine w_callE ?_ | with_reducible refine w_chain ?_ | with_reducible refine w_slice ?_ | with_reducible refine w_optN ?_ | with_reducible refine w_optS ?_ | with_reducible refine w_srcE ?_ | with_reducible refine w_srcT ?_ | with_reducible refine w_srcS ?_ | with_reducible refine w_rng1 ?_ | with_reducible refine w_rng2 ?_ | with_reducible refine w_for ?_ | with_reducible refine w_comp ?_ | with_reducible refine w_asgG ?_ | with_reducible refine w_par ?_ | with_reducible refine w_set ?_ | with_reducible refine w_app ?_ | with_reducible refine w_raise ?_ | with_reducible refine w_nx ?_ | with_reducible refine w_bk ?_ | with_reducible refine w_ct ?_ | with_reducible refine w_retN ?_ | with_reducible refine wV_b ?_ | with_reducible refine wB_t ?_ | with_reducible refine wB_f ?_ | ((with_reducible apply w_var); next => rfl) | ((with_reducible apply w_lft); next => first | exact mkSet_of intsM_row hy | exact eqG_int | exact neG_int | exact ltG_int | exact gtG_int | exact leG_int | exact geG_int | exact addG_int | exact subG_int | exact negG_int | exact eqG_bl | exact neG_bl | exact lenG_tup | exact tupD0 | exact tupD1 | exact tupD2 | exact tupD3 | exact tupD4 | exact lstD0 | exact lstD1 | exact isi_tup_tup | rfl) | (with_reducible refine Exists.intro _ (And.intro rfl ?_)) | (refine Exists.intro _ (And.intro (by rfl) ?_))))
  obtain ⟨s, es, ei, st⟩ := hn _ (List.prefix_append m [MO.sti ys])
  refine wR_ok es ?_
  have hm := last_at m (MO.sti ys)
  have hl : (m ++ [MO.sti ys]).length = m.length + 1 := by simp
  refine w_compP xs D.int (fun n => decide (n ∈ ys)) D.int ei (Nat.lt_of_lt_of_le hx (by decide)) (fun m' p => st m' p) (fun n hn m' p => ⟨_, rfl, ?_⟩) fun m' p a => ?_
  · (repeat (first | with_reducible refine w_seq ?_ | with_reducible refine w_asg ?_ | with_reducible refine w_ret ?_ | with_reducible refine w_if ?_ | with_reducible refine w_drop ?_ | with_reducible refine w_op2 ?_ | with_reducible refine w_op1 ?_ | with_reducible refine w_opN ?_ | with_reducible refine w_consA ?_ | with_reducible refine w_nilA ?_ | with_reducible refine w_cst ?_ | with_reducible refine w_valT ?_ | with_reducible refine w_notT ?_ | with_reducible refine w_andT ?_ | with_reducible refine w_orT ?_ | with_reducible refine w_yesT ?_ | with_reducible refine w_ifE ?_ | with_reducible refine w_andV ?_ | with_reducible refine w_orV ?_ | with_reducible refine w_notV ?_ | with_reducible refine w_callE ?_ | with_reducible refine w_chain ?_ | with_reducible refine w_slice ?_ | with_reducible refine w_optN ?_ | with_reducible refine w_optS ?_ | with_reducible refine w_srcE ?_ | with_reducible refine w_srcT ?_ | with_reducible refine w_srcS ?_ | with_reducible refine w_rng1 ?_ | with_reducible refine w_rng2 ?_ | with_reducible refine w_for ?_ | with_reducible refine w_comp ?_ | with_reducible refine w_asgG ?_ | with_reducible refine w_par ?_ | with_reducible refine w_set ?_ | with_reducible refine w_app ?_ | with_reducible refine w_raise ?_ | with_reducible refine w_nx ?_ | with_reducible refine w_bk ?_ | with_reducible refine w_ct ?_ | with_reducible refine w_retN ?_ | with_reducible refine wV_b ?_ | with_reducible refine wB_t ?_ | with_reducible refine wB_f ?_ | ((with_reducible apply w_var); next => rfl) | ((with_reducible apply w_lft); next => first | exact inG_sti (pre_at p hm) | exact eqG_int | exact neG_int | exact ltG_int | exact gtG_int | exact leG_int | exact geG_int | exact addG_int | exact subG_int | exact negG_int | exact eqG_bl | exact neG_bl | exact lenG_tup | exact tupD0 | exact tupD1 | exact tupD2 | exact tupD3 | exact tupD4 | exact lstD0 | exact lstD1 | exact isi_tup_tup | rfl) | (with_reducible refine Exists.intro _ (And.intro rfl ?_)) | (refine Exists.intro _ (And.intro (by rfl) ?_))))
    exact ⟨List.prefix_refl _, rfl, fun _ => w_var rfl ⟨List.prefix_refl _, rfl⟩⟩
  · rw [hl] at a ⊢
    exact q m' ((List.prefix_append _ _).trans p) a
end Pg
namespace Pg
theorem items_of_lst {m : Mem} {n : Nat} {xs : List D} (h : m[n]? = some (.lst xs)) : itemsOf m n = some xs := items_lst h
def Nums (d : D) (xs : List Int) (m : Mem) : Prop := d = rowD xs ∨ ∃ n, d = .ref n ∧ m[n]? = some (.lst (xs.map .int))
theorem Nums.src {d : D} {xs : List Int} {m : Mem} (h : Nums d xs m) : ∀ m', m <+: m' → ∃ s, srcOf d m' = .ok s m' ∧ s.items = xs.map .int ∧ ∀ m2, m' <+: m2 → s.still m2 := by
  intro m' p
  rcases h with rfl | ⟨n, rfl, e⟩
  · exact ⟨.fix (xs.map .int), rfl, rfl, fun _ _ => trivial⟩
  · have e' := items_lst (pre_at p e)
    refine ⟨.lst n (xs.map .int), ?_, rfl, fun m2 p2 => pre_items p2 e'⟩
    show (match itemsOf m' n with
      | some ds => Res.ok (Src.lst n ds) m'
      | none => .bad) = _
    rw [e']
theorem Nums.tup {d : D} {xs : List Int} {m : Mem} (h : Nums d xs m) : tupleG [d] m = some (rowD xs, m) := by
  rcases h with rfl | ⟨n, rfl, e⟩
  · rfl
  · exact tupleG_at e
def comm : List (List Int) → List Int
  | [] => []
  | r0 :: rs => r0.filter fun n => rs.all fun row => decide (n ∈ row)
theorem common_w {R : List (List Int)} {m : Mem} {X : XC} {Q : D → Mem → Prop} (hl : ∀ row ∈ R, row.length < 1000) (q : ∀ m', m <+: m' → Q (rowD (comm R)) m') : wR (f_common [rowsI R] m) X Q := by
  unfold f_common
  refine w_def rfl rfl ?_; simp only [startE, List.map_cons, List.map_nil, List.length_cons, List.length_nil, Nat.reduceAdd, Nat.reduceSub, Nat.sub_self, List.replicate_succ, List.replicate_zero, List.cons_append, List.nil_append]
  cases R with
  | nil =>
    (repeat (first | with_reducible refine w_seq ?_ | with_reducible refine w_asg ?_ | with_reducible refine w_ret ?_ | with_reducible refine w_if ?_ | with_reducible refine w_drop ?_ | with_reducible refine w_op2 ?_ | with_reducible refine w_op1 ?_ | with_reducible refine w_opN ?_ | with_reducible refine w_consA ?_ | with_reducible refine w_nilA ?_ | with_reducible refine w_cst ?_ | with_reducible refine w_valT ?_ | with_reducible refine w_notT ?_ | with_reducible refine w_andT ?_ | with_reducible refine w_orT ?_ | with_reducible refine w_yesT ?_ | with_reducible refine w_ifE ?_ | with_reducible refine w_andV ?_ | with_reducible refine w_orV ?_ | with_reducible refine w_notV ?_ | with_reducible refine w_callE ?_ | with_reducible refine w_chain ?_ | with_reducible refine w_slice ?_ | with_reducible refine w_optN ?_ | with_reducible refine w_optS ?_ | with_reducible refine w_srcE ?_ | with_reducible refine w_srcT ?_ | with_reducible refine w_srcS ?_ | with_reducible refine w_rng1 ?_ | with_reducible refine w_rng2 ?_ | with_reducible refine w_for ?_ | with_reducible refine w_comp ?_ | with_reducible refine w_asgG ?_ | with_reducible refine w_par ?_ | with_reducible refine w_set ?_ | with_reducible refine w_app ?_ | with_reducible refine w_raise ?_ | with_reducible refine w_nx ?_ | with_reducible refine w_bk ?_ | with_reducible refine w_ct ?_ | with_reducible refine w_retN ?_ | with_reducible refine wV_b ?_ | with_reducible refine wB_t ?_ | with_reducible refine wB_f ?_ | ((with_reducible apply w_var); next => rfl) | ((with_reducible apply w_lft); next => first | exact eqG_int | exact neG_int | exact ltG_int | exact gtG_int | exact leG_int | exact geG_int | exact addG_int | exact subG_int | exact negG_int | exact eqG_bl | exact neG_bl | exact lenG_tup | exact tupD0 | exact tupD1 | exact tupD2 | exact tupD3 | exact tupD4 | exact lstD0 | exact lstD1 | exact isi_tup_tup | rfl) | (with_reducible refine Exists.intro _ (And.intro rfl ?_)) | (refine Exists.intro _ (And.intro (by rfl) ?_))))
    refine wB_ty (by rfl) ?_
    (repeat (first | with_reducible refine w_seq ?_ | with_reducible refine w_asg ?_ | with_reducible refine w_ret ?_ | with_reducible refine w_if ?_ | with_reducible refine w_drop ?_ | with_reducible refine w_op2 ?_ | with_reducible refine w_op1 ?_ | with_reducible refine w_opN ?_ | with_reducible refine w_consA ?_ | with_reducible refine w_nilA ?_ | with_reducible refine w_cst ?_ | with_reducible refine w_valT ?_ | with_reducible refine w_notT ?_ | with_reducible refine w_andT ?_ | with_reducible refine w_orT ?_ | with_reducible refine w_yesT ?_ | with_reducible refine w_ifE ?_ | with_reducible refine w_andV ?_ | with_reducible refine w_orV ?_ | with_reducible refine w_notV ?_ | with_reducible refine w_callE ?_ | with_reducible refine w_chain ?_ | with_reducible refine w_slice ?_ | with_reducible refine w_optN ?_ | with_reducible refine w_optS ?_ | with_reducible refine w_srcE ?_ | with_reducible refine w_srcT ?_ | with_reducible refine w_srcS ?_ | with_reducible refine w_rng1 ?_ | with_reducible refine w_rng2 ?_ | with_reducible refine w_for ?_ | with_reducible refine w_comp ?_ | with_reducible refine w_asgG ?_ | with_reducible refine w_par ?_ | with_reducible refine w_set ?_ | with_reducible refine w_app ?_ | with_reducible refine w_raise ?_ | with_reducible refine w_nx ?_ | with_reducible refine w_bk ?_ | with_reducible refine w_ct ?_ | with_reducible refine w_retN ?_ | with_reducible refine wV_b ?_ | with_reducible refine wB_t ?_ | with_reducible refine wB_f ?_ | ((with_reducible apply w_var); next => rfl) | ((with_reducible apply w_lft); next => first | exact eqG_int | exact neG_int | exact ltG_int | exact gtG_int | exact leG_int | exact geG_int | exact addG_int | exact subG_int | exact negG_int | exact eqG_bl | exact neG_bl | exact lenG_tup | exact tupD0 | exact tupD1 | exact tupD2 | exact tupD3 | exact tupD4 | exact lstD0 | exact lstD1 | exact isi_tup_tup | rfl) | (with_reducible refine Exists.intro _ (And.intro rfl ?_)) | (refine Exists.intro _ (And.intro (by rfl) ?_))))
    exact q m (List.prefix_refl _)
  | cons r0 rs =>
    have hx : ∀ m, idxG (rowsI (r0 :: rs)) (.int 0) m = some (rowD r0, m) := fun m => idxG_tup atI_c0
    have hs : ∀ m, sliceD (rowsI (r0 :: rs)) (some 1) none m = some (rowsI rs, m) := fun m => by
      show some (D.tup (cutD ((r0 :: rs).map rowD) (some 1) none), m) = _
      rw [cutD_tail]
      rfl
    (repeat (first | with_reducible refine w_seq ?_ | with_reducible refine w_asg ?_ | with_reducible refine w_ret ?_ | with_reducible refine w_if ?_ | with_reducible refine w_drop ?_ | with_reducible refine w_op2 ?_ | with_reducible refine w_op1 ?_ | with_reducible refine w_opN ?_ | with_reducible refine w_consA ?_ | with_reducible refine w_nilA ?_ | with_reducible refine w_cst ?_ | with_reducible refine w_valT ?_ | with_reducible refine w_notT ?_ | with_reducible refine w_andT ?_ | with_reducible refine w_orT ?_ | with_reducible refine w_yesT ?_ | with_reducible refine w_ifE ?_ | with_reducible refine w_andV ?_ | with_reducible refine w_orV ?_ | with_reducible refine w_notV ?_ | with_reducible refine w_callE ?_ | with_reducible refine w_chain ?_ | with_reducible refine w_slice ?_ | with_reducible refine w_optN ?_ | with_reducible refine w_optS ?_ | with_reducible refine w_srcE ?_ | with_reducible refine w_srcT ?_ | with_reducible refine w_srcS ?_ | with_reducible refine w_rng1 ?_ | with_reducible refine w_rng2 ?_ | with_reducible refine w_for ?_ | with_reducible refine w_comp ?_ | with_reducible refine w_asgG ?_ | with_reducible refine w_par ?_ | with_reducible refine w_set ?_ | with_reducible refine w_app ?_ | with_reducible refine w_raise ?_ | with_reducible refine w_nx ?_ | with_reducible refine w_bk ?_ | with_reducible refine w_ct ?_ | with_reducible refine w_retN ?_ | with_reducible refine wV_b ?_ | with_reducible refine wB_t ?_ | with_reducible refine wB_f ?_ | ((with_reducible apply w_var); next => rfl) | ((with_reducible apply w_lft); next => first | exact hx _ | exact hs _ | exact eqG_int | exact neG_int | exact ltG_int | exact gtG_int | exact leG_int | exact geG_int | exact addG_int | exact subG_int | exact negG_int | exact eqG_bl | exact neG_bl | exact lenG_tup | exact tupD0 | exact tupD1 | exact tupD2 | exact tupD3 | exact tupD4 | exact lstD0 | exact lstD1 | exact isi_tup_tup | rfl) | (with_reducible refine Exists.intro _ (And.intro rfl ?_)) | (refine Exists.intro _ (And.intro (by rfl) ?_))))
    refine wB_tn (beq_eq_false_iff_ne.mpr (by simp; omega)) ?_
    (repeat (first | with_reducible refine w_seq ?_ | with_reducible refine w_asg ?_ | with_reducible refine w_ret ?_ | with_reducible refine w_if ?_ | with_reducible refine w_drop ?_ | with_reducible refine w_op2 ?_ | with_reducible refine w_op1 ?_ | with_reducible refine w_opN ?_ | with_reducible refine w_consA ?_ | with_reducible refine w_nilA ?_ | with_reducible refine w_cst ?_ | with_reducible refine w_valT ?_ | with_reducible refine w_notT ?_ | with_reducible refine w_andT ?_ | with_reducible refine w_orT ?_ | with_reducible refine w_yesT ?_ | with_reducible refine w_ifE ?_ | with_reducible refine w_andV ?_ | with_reducible refine w_orV ?_ | with_reducible refine w_notV ?_ | with_reducible refine w_callE ?_ | with_reducible refine w_chain ?_ | with_reducible refine w_slice ?_ | with_reducible refine w_optN ?_ | with_reducible refine w_optS ?_ | with_reducible refine w_srcE ?_ | with_reducible refine w_srcT ?_ | with_reducible refine w_srcS ?_ | with_reducible refine w_rng1 ?_ | with_reducible refine w_rng2 ?_ | with_reducible refine w_for ?_ | with_reducible refine w_comp ?_ | with_reducible refine w_asgG ?_ | with_reducible refine w_par ?_ | with_reducible refine w_set ?_ | with_reducible refine w_app ?_ | with_reducible refine w_raise ?_ | with_reducible refine w_nx ?_ | with_reducible refine w_bk ?_ | with_reducible refine w_ct ?_ | with_reducible refine w_retN ?_ | with_reducible refine wV_b ?_ | with_reducible refine wB_t ?_ | with_reducible refine wB_f ?_ | ((with_reducible apply w_var); next => rfl) | ((with_reducible apply w_lft); next => first | exact hx _ | exact hs _ | exact eqG_int | exact neG_int | exact ltG_int | exact gtG_int | exact leG_int | exact geG_int | exact addG_int | exact subG_int | exact negG_int | exact eqG_bl | exact neG_bl | exact lenG_tup | exact tupD0 | exact tupD1 | exact tupD2 | exact tupD3 | exact tupD4 | exact lstD0 | exact lstD1 | exact isi_tup_tup | rfl) | (with_reducible refine Exists.intro _ (And.intro rfl ?_)) | (refine Exists.intro _ (And.intro (by rfl) ?_))))
    refine w_loop rs rowD (fun dn _ r m' => ∃ d x2, r = [some (rowsI (r0 :: rs)), some d, x2] ∧ Nums d (r0.filter fun n => dn.all fun row => decide (n ∈ row)) m' ∧ m <+: m') rfl ⟨rowD r0, none, rfl, .inl (by rw [show (r0.filter fun n => ([] : List (List Int)).all fun row => decide (n ∈ row)) = r0 from List.filter_eq_self.mpr fun _ _ => rfl]), List.prefix_refl _⟩ (fun _ _ _ _ _ => trivial) (fun dn x ds r m' e h => ?_) (fun r m' h => ?_)
    · obtain ⟨d, x2, rfl, hn, p⟩ := h
      refine ⟨_, rfl, ?_⟩
      (repeat (first | with_reducible refine w_seq ?_ | with_reducible refine w_asg ?_ | with_reducible refine w_ret ?_ | with_reducible refine w_if ?_ | with_reducible refine w_drop ?_ | with_reducible refine w_op2 ?_ | with_reducible refine w_op1 ?_ | with_reducible refine w_opN ?_ | with_reducible refine w_consA ?_ | with_reducible refine w_nilA ?_ | with_reducible refine w_cst ?_ | with_reducible refine w_valT ?_ | with_reducible refine w_notT ?_ | with_reducible refine w_andT ?_ | with_reducible refine w_orT ?_ | with_reducible refine w_yesT ?_ | with_reducible refine w_ifE ?_ | with_reducible refine w_andV ?_ | with_reducible refine w_orV ?_ | with_reducible refine w_notV ?_ | with_reducible refine w_callE ?_ | with_reducible refine w_chain ?_ | with_reducible refine w_slice ?_ | with_reducible refine w_optN ?_ | with_reducible refine w_optS ?_ | with_reducible refine w_srcE ?_ | with_reducible refine w_srcT ?_ | with_reducible refine w_srcS ?_ | with_reducible refine w_rng1 ?_ | with_reducible refine w_rng2 ?_ | with_reducible refine w_for ?_ | with_reducible refine w_comp ?_ | with_reducible refine w_asgG ?_ | with_reducible refine w_par ?_ | with_reducible refine w_set ?_ | with_reducible refine w_app ?_ | with_reducible refine w_raise ?_ | with_reducible refine w_nx ?_ | with_reducible refine w_bk ?_ | with_reducible refine w_ct ?_ | with_reducible refine w_retN ?_ | with_reducible refine wV_b ?_ | with_reducible refine wB_t ?_ | with_reducible refine wB_f ?_ | ((with_reducible apply w_var); next => rfl) | ((with_reducible apply w_lft); next => first | exact eqG_int | exact neG_int | exact ltG_int | exact gtG_int | exact leG_int | exact geG_int | exact addG_int | exact subG_int | exact negG_int | exact eqG_bl | exact neG_bl | exact lenG_tup | exact tupD0 | exact tupD1 | exact tupD2 | exact tupD3 | exact tupD4 | exact lstD0 | exact lstD1 | exact isi_tup_tup | rfl) | (with_reducible refine Exists.intro _ (And.intro rfl ?_)) | (refine Exists.intro _ (And.intro (by rfl) ?_))))
      have l0 := hl r0 List.mem_cons_self
      have lx := hl x (List.mem_cons_of_mem _ (by rw [e]; simp))
      refine kept_w (ys := x) hn.src lx (Nat.lt_of_le_of_lt (List.length_filter_le _ _) (by omega)) fun m2 p2 a2 => ?_
      (repeat (first | with_reducible refine w_seq ?_ | with_reducible refine w_asg ?_ | with_reducible refine w_ret ?_ | with_reducible refine w_if ?_ | with_reducible refine w_drop ?_ | with_reducible refine w_op2 ?_ | with_reducible refine w_op1 ?_ | with_reducible refine w_opN ?_ | with_reducible refine w_consA ?_ | with_reducible refine w_nilA ?_ | with_reducible refine w_cst ?_ | with_reducible refine w_valT ?_ | with_reducible refine w_notT ?_ | with_reducible refine w_andT ?_ | with_reducible refine w_orT ?_ | with_reducible refine w_yesT ?_ | with_reducible refine w_ifE ?_ | with_reducible refine w_andV ?_ | with_reducible refine w_orV ?_ | with_reducible refine w_notV ?_ | with_reducible refine w_callE ?_ | with_reducible refine w_chain ?_ | with_reducible refine w_slice ?_ | with_reducible refine w_optN ?_ | with_reducible refine w_optS ?_ | with_reducible refine w_srcE ?_ | with_reducible refine w_srcT ?_ | with_reducible refine w_srcS ?_ | with_reducible refine w_rng1 ?_ | with_reducible refine w_rng2 ?_ | with_reducible refine w_for ?_ | with_reducible refine w_comp ?_ | with_reducible refine w_asgG ?_ | with_reducible refine w_par ?_ | with_reducible refine w_set ?_ | with_reducible refine w_app ?_ | with_reducible refine w_raise ?_ | with_reducible refine w_nx ?_ | with_reducible refine w_bk ?_ | with_reducible refine w_ct ?_ | with_reducible refine w_retN ?_ | with_reducible refine wV_b ?_ | with_reducible refine wB_t ?_ | with_reducible refine wB_f ?_ | ((with_reducible apply w_var); next => rfl) | ((with_reducible apply w_lft); next => first | exact eqG_int | exact neG_int | exact ltG_int | exact gtG_int | exact leG_int | exact geG_int | exact addG_int | exact subG_int | exact negG_int | exact eqG_bl | exact neG_bl | exact lenG_tup | exact tupD0 | exact tupD1 | exact tupD2 | exact tupD3 | exact tupD4 | exact lstD0 | exact lstD1 | exact isi_tup_tup | rfl) | (with_reducible refine Exists.intro _ (And.intro rfl ?_)) | (refine Exists.intro _ (And.intro (by rfl) ?_))))
      refine ⟨_, _, rfl, .inr ⟨_, rfl, ?_⟩, p.trans p2⟩
      rw [a2, List.filter_filter]
      congr 3
      refine List.filter_congr fun n _ => ?_
      rw [List.all_append]
      simp [Bool.and_comm]
    · obtain ⟨d, x2, rfl, hn, p⟩ := h
      (repeat (first | with_reducible refine w_seq ?_ | with_reducible refine w_asg ?_ | with_reducible refine w_ret ?_ | with_reducible refine w_if ?_ | with_reducible refine w_drop ?_ | with_reducible refine w_op2 ?_ | with_reducible refine w_op1 ?_ | with_reducible refine w_opN ?_ | with_reducible refine w_consA ?_ | with_reducible refine w_nilA ?_ | with_reducible refine w_cst ?_ | with_reducible refine w_valT ?_ | with_reducible refine w_notT ?_ | with_reducible refine w_andT ?_ | with_reducible refine w_orT ?_ | with_reducible refine w_yesT ?_ | with_reducible refine w_ifE ?_ | with_reducible refine w_andV ?_ | with_reducible refine w_orV ?_ | with_reducible refine w_notV ?_ | with_reducible refine w_callE ?_ | with_reducible refine w_chain ?_ | with_reducible refine w_slice ?_ | with_reducible refine w_optN ?_ | with_reducible refine w_optS ?_ | with_reducible refine w_srcE ?_ | with_reducible refine w_srcT ?_ | with_reducible refine w_srcS ?_ | with_reducible refine w_rng1 ?_ | with_reducible refine w_rng2 ?_ | with_reducible refine w_for ?_ | with_reducible refine w_comp ?_ | with_reducible refine w_asgG ?_ | with_reducible refine w_par ?_ | with_reducible refine w_set ?_ | with_reducible refine w_app ?_ | with_reducible refine w_raise ?_ | with_reducible refine w_nx ?_ | with_reducible refine w_bk ?_ | with_reducible refine w_ct ?_ | with_reducible refine w_retN ?_ | with_reducible refine wV_b ?_ | with_reducible refine wB_t ?_ | with_reducible refine wB_f ?_ | ((with_reducible apply w_var); next => rfl) | ((with_reducible apply w_lft); next => first | exact hn.tup | exact eqG_int | exact neG_int | exact ltG_int | exact gtG_int | exact leG_int | exact geG_int | exact addG_int | exact subG_int | exact negG_int | exact eqG_bl | exact neG_bl | exact lenG_tup | exact tupD0 | exact tupD1 | exact tupD2 | exact tupD3 | exact tupD4 | exact lstD0 | exact lstD1 | exact isi_tup_tup | rfl) | (with_reducible refine Exists.intro _ (And.intro rfl ?_)) | (refine Exists.intro _ (And.intro (by rfl) ?_))))
      exact q m' p
end Pg
namespace Lw
open Pg
/-- values drawn one by one -/
theorem w_drawsP {m : Mem} {k : Nat} {X : XC} {Q : D → Mem → Prop} (P : Int → Prop) {s : Src} {tg : FG} {f : FE} {r0 : Mi.Env} {c0 : Nat} (h : Drw m k) (hs : s = .fix (iotaD 0 c0)) (hc : c0 ≤ 1000000)
    (step : ∀ (j : Int) m', Drw m' k → ∃ r1, tg (.int j) r0 = some r1 ∧ ∀ Q : D → Mem → Prop, (∀ n m2, P n → Drw m2 k → Gk k m' m2 → Q (.int n) m2) → wR (f r1 m') X0 Q)
    (fin : ∀ (row : List Int) m', row.length = c0 → (∀ n ∈ row, P n) → Drw m' k → Gk k m m' → m'[m.length]? = some (.lst (row.map .int)) → Q (.ref m.length) m') : wR (compL s tg yesT f m.length r0 s.items (m ++ [.lst []])) X Q := by
  subst hs
  have ne : m.length ≠ k := by have := h.lt; omega
  refine w_compL (List.range c0) (fun (j : Nat) => D.int (0 + (j : Int))) (fun dn _ ys m' => m'[m.length]? = some (.lst ys) ∧ Drw m' k ∧ Gk k m m' ∧ ∃ row : List Int, ys = row.map .int ∧ row.length = dn.length ∧ ∀ n ∈ row, P n) rfl
    ⟨last_at _ _, h.app _, .of_pre (List.prefix_append _ _), [], rfl, rfl, by simp⟩ (fun _ _ _ _ _ => trivial) (fun dn x ds ys m' e q => ?_) (fun ys m' q => ?_)
  · obtain ⟨h1, h2, h3, row, e1, e2, e3⟩ := q
    obtain ⟨r1, er, st⟩ := step _ m' h2
    refine ⟨r1, er, w_yesT (wB_t (st _ fun n m2 n0 d2 g2 => ?_))⟩
    have em : m2[m.length]? = some (.lst ys) := g2.get ne h1
    have hl := (List.getElem?_eq_some_iff.mp em).1
    have le : dn.length ≤ c0 := by
      have := congrArg List.length e
      simp at this
      omega
    refine ⟨em, ?_, List.getElem?_set_self hl, d2.set h.lt _, (h3.trans g2).set (Nat.le_refl _) _, row ++ [n], by rw [e1]; simp, by simp [e2], fun z hz => ?_⟩
    · rw [e1, List.length_map, e2]
      exact Nat.lt_of_le_of_lt (by omega : dn.length ≤ 1000000) (by decide)
    · rcases List.mem_append.mp hz with hz | hz
      · exact e3 z hz
      · cases List.mem_singleton.mp hz
        exact n0
  · obtain ⟨h1, h2, h3, row, e1, e2, e3⟩ := q
    exact fin row m' (by rw [e2, List.length_range]) e3 h2 h3 (by rw [h1, e1])
end Lw
namespace K10
open Pg Lw
theorem upSet_le (ns : List Int) : (upSet ns).length ≤ ns.length := by
  have go : ∀ l : List Int, (l.foldr (fun x acc => match acc with
      | [] => [x]
      | y :: _ => if x = y then acc else x :: acc) []).length ≤ l.length := by
    intro l
    induction l with
    | nil => exact Nat.le_refl _
    | cons x l ih =>
      rw [List.foldr_cons]
      revert ih
      generalize l.foldr _ [] = r
      intro ih
      cases r with
      | nil => simp
      | cons y r =>
        dsimp only
        split
        · exact Nat.le_succ_of_le ih
        · exact Nat.succ_le_succ ih
  unfold upSet
  exact Nat.le_trans (go _) (Nat.le_of_eq (List.length_mergeSort _))
def I10 (L : Nat) (dn _ : List Nat) (r : Mi.Env) (m : Mem) : Prop := ∃ R : List (List Int), ∃ x3 x4 x5, r = [some (.ref 0), some (.ref 2), some (.ref L), x3, x4, x5, none, none, none] ∧ m[L]? = some (.lst (R.map rowD)) ∧ R.length = dn.length ∧ (∀ row ∈ R, row.length ≤ 60) ∧ (∀ r0, R[0]? = some r0 → r0.length ≤ 30) ∧ Drw m 2
theorem main (ns : List Int) (hl : ns.length ≤ 63) (hb : ∀ z ∈ ns, Builtin.Int.intBits z ≤ 1048576) : ∃ m', f_law [.ref 0] [.con (ns.map .int)] = .ok (.bl true) m' := by
  suffices h : wR (f_law [.ref 0] [.con (ns.map .int)]) X0 (fun d _ => d = .bl true) by
    obtain ⟨d, m', e, rfl⟩ := wR_get h
    exact ⟨m', e⟩
  unfold f_law
  refine w_def rfl rfl ?_; simp only [startE, List.map_cons, List.map_nil, List.length_cons, List.length_nil, Nat.reduceAdd, Nat.reduceSub, Nat.sub_self, List.replicate_succ, List.replicate_zero, List.cons_append, List.nil_append]
  (repeat (first | with_reducible refine w_seq ?_ | with_reducible refine w_asg ?_ | with_reducible refine w_ret ?_ | with_reducible refine w_if ?_ | with_reducible refine w_drop ?_ | with_reducible refine w_op2 ?_ | with_reducible refine w_op1 ?_ | with_reducible refine w_opN ?_ | with_reducible refine w_consA ?_ | with_reducible refine w_nilA ?_ | with_reducible refine w_cst ?_ | with_reducible refine w_valT ?_ | with_reducible refine w_notT ?_ | with_reducible refine w_andT ?_ | with_reducible refine w_orT ?_ | with_reducible refine w_yesT ?_ | with_reducible refine w_ifE ?_ | with_reducible refine w_andV ?_ | with_reducible refine w_orV ?_ | with_reducible refine w_notV ?_ | with_reducible refine w_callE ?_ | with_reducible refine w_chain ?_ | with_reducible refine w_slice ?_ | with_reducible refine w_optN ?_ | with_reducible refine w_optS ?_ | with_reducible refine w_srcE ?_ | with_reducible refine w_srcT ?_ | with_reducible refine w_srcS ?_ | with_reducible refine w_rng1 ?_ | with_reducible refine w_rng2 ?_ | with_reducible refine w_for ?_ | with_reducible refine w_comp ?_ | with_reducible refine w_asgG ?_ | with_reducible refine w_par ?_ | with_reducible refine w_set ?_ | with_reducible refine w_app ?_ | with_reducible refine w_raise ?_ | with_reducible refine w_nx ?_ | with_reducible refine w_bk ?_ | with_reducible refine w_ct ?_ | with_reducible refine w_retN ?_ | with_reducible refine wV_b ?_ | with_reducible refine wB_t ?_ | with_reducible refine wB_f ?_ | ((with_reducible apply w_var); next => rfl) | ((with_reducible apply w_lft); next => first | exact eqG_int | exact neG_int | exact ltG_int | exact gtG_int | exact leG_int | exact geG_int | exact addG_int | exact subG_int | exact negG_int | exact eqG_bl | exact neG_bl | exact lenG_tup | exact tupD0 | exact tupD1 | exact tupD2 | exact tupD3 | exact tupD4 | exact lstD0 | exact lstD1 | exact isi_tup_tup | rfl) | (with_reducible refine Exists.intro _ (And.intro rfl ?_)) | (refine Exists.intro _ (And.intro (by rfl) ?_))))
  refine begin_w ns fun m0 d0 l0 => ?_
  (repeat (first | with_reducible refine w_seq ?_ | with_reducible refine w_asg ?_ | with_reducible refine w_ret ?_ | with_reducible refine w_if ?_ | with_reducible refine w_drop ?_ | with_reducible refine w_op2 ?_ | with_reducible refine w_op1 ?_ | with_reducible refine w_opN ?_ | with_reducible refine w_consA ?_ | with_reducible refine w_nilA ?_ | with_reducible refine w_cst ?_ | with_reducible refine w_valT ?_ | with_reducible refine w_notT ?_ | with_reducible refine w_andT ?_ | with_reducible refine w_orT ?_ | with_reducible refine w_yesT ?_ | with_reducible refine w_ifE ?_ | with_reducible refine w_andV ?_ | with_reducible refine w_orV ?_ | with_reducible refine w_notV ?_ | with_reducible refine w_callE ?_ | with_reducible refine w_chain ?_ | with_reducible refine w_slice ?_ | with_reducible refine w_optN ?_ | with_reducible refine w_optS ?_ | with_reducible refine w_srcE ?_ | with_reducible refine w_srcT ?_ | with_reducible refine w_srcS ?_ | with_reducible refine w_rng1 ?_ | with_reducible refine w_rng2 ?_ | with_reducible refine w_for ?_ | with_reducible refine w_comp ?_ | with_reducible refine w_asgG ?_ | with_reducible refine w_par ?_ | with_reducible refine w_set ?_ | with_reducible refine w_app ?_ | with_reducible refine w_raise ?_ | with_reducible refine w_nx ?_ | with_reducible refine w_bk ?_ | with_reducible refine w_ct ?_ | with_reducible refine w_retN ?_ | with_reducible refine wV_b ?_ | with_reducible refine wB_t ?_ | with_reducible refine wB_f ?_ | ((with_reducible apply w_var); next => rfl) | ((with_reducible apply w_lft); next => first | exact eqG_int | exact neG_int | exact ltG_int | exact gtG_int | exact leG_int | exact geG_int | exact addG_int | exact subG_int | exact negG_int | exact eqG_bl | exact neG_bl | exact lenG_tup | exact tupD0 | exact tupD1 | exact tupD2 | exact tupD3 | exact tupD4 | exact lstD0 | exact lstD1 | exact isi_tup_tup | rfl) | (with_reducible refine Exists.intro _ (And.intro rfl ?_)) | (refine Exists.intro _ (And.intro (by rfl) ?_))))
  refine take_w (d0.app _) (by omega) (by omega) fun t m1 t0 t1 d1 g1 => ?_
  have a1 : m1[m0.length]? = some (.lst []) := g1.get (by omega) (last_at _ _)
  (repeat (first | with_reducible refine w_seq ?_ | with_reducible refine w_asg ?_ | with_reducible refine w_ret ?_ | with_reducible refine w_if ?_ | with_reducible refine w_drop ?_ | with_reducible refine w_op2 ?_ | with_reducible refine w_op1 ?_ | with_reducible refine w_opN ?_ | with_reducible refine w_consA ?_ | with_reducible refine w_nilA ?_ | with_reducible refine w_cst ?_ | with_reducible refine w_valT ?_ | with_reducible refine w_notT ?_ | with_reducible refine w_andT ?_ | with_reducible refine w_orT ?_ | with_reducible refine w_yesT ?_ | with_reducible refine w_ifE ?_ | with_reducible refine w_andV ?_ | with_reducible refine w_orV ?_ | with_reducible refine w_notV ?_ | with_reducible refine w_callE ?_ | with_reducible refine w_chain ?_ | with_reducible refine w_slice ?_ | with_reducible refine w_optN ?_ | with_reducible refine w_optS ?_ | with_reducible refine w_srcE ?_ | with_reducible refine w_srcT ?_ | with_reducible refine w_srcS ?_ | with_reducible refine w_rng1 ?_ | with_reducible refine w_rng2 ?_ | with_reducible refine w_for ?_ | with_reducible refine w_comp ?_ | with_reducible refine w_asgG ?_ | with_reducible refine w_par ?_ | with_reducible refine w_set ?_ | with_reducible refine w_app ?_ | with_reducible refine w_raise ?_ | with_reducible refine w_nx ?_ | with_reducible refine w_bk ?_ | with_reducible refine w_ct ?_ | with_reducible refine w_retN ?_ | with_reducible refine wV_b ?_ | with_reducible refine wB_t ?_ | with_reducible refine wB_f ?_ | ((with_reducible apply w_var); next => rfl) | ((with_reducible apply w_lft); next => first | exact eqG_int | exact neG_int | exact ltG_int | exact gtG_int | exact leG_int | exact geG_int | exact addG_int | exact subG_int | exact negG_int | exact eqG_bl | exact neG_bl | exact lenG_tup | exact tupD0 | exact tupD1 | exact tupD2 | exact tupD3 | exact tupD4 | exact lstD0 | exact lstD1 | exact isi_tup_tup | rfl) | (with_reducible refine Exists.intro _ (And.intro rfl ?_)) | (refine Exists.intro _ (And.intro (by rfl) ?_))))
  refine ⟨okI_small (by omega) (by omega), ?_⟩
  have lL : m0.length = 3 := l0
  refine w_loop (List.range t.toNat) (fun (j : Nat) => D.int (0 + (j : Int))) (I10 m0.length) rfl ⟨[], none, none, none, rfl, a1, rfl, by simp, by simp, d1⟩ (fun _ _ _ _ _ => trivial) (fun dn x ds r m e q => ?_) (fun r m q => ?_)
  · obtain ⟨R, x3, x4, x5, rfl, aL, lR, h60, h30, d⟩ := q
    have hdn : dn.length ≤ 5 := by
      have := congrArg List.length e
      simp at this
      omega
    refine ⟨_, rfl, ?_⟩
    (repeat (first | with_reducible refine w_seq ?_ | with_reducible refine w_asg ?_ | with_reducible refine w_ret ?_ | with_reducible refine w_if ?_ | with_reducible refine w_drop ?_ | with_reducible refine w_op2 ?_ | with_reducible refine w_op1 ?_ | with_reducible refine w_opN ?_ | with_reducible refine w_consA ?_ | with_reducible refine w_nilA ?_ | with_reducible refine w_cst ?_ | with_reducible refine w_valT ?_ | with_reducible refine w_notT ?_ | with_reducible refine w_andT ?_ | with_reducible refine w_orT ?_ | with_reducible refine w_yesT ?_ | with_reducible refine w_ifE ?_ | with_reducible refine w_andV ?_ | with_reducible refine w_orV ?_ | with_reducible refine w_notV ?_ | with_reducible refine w_callE ?_ | with_reducible refine w_chain ?_ | with_reducible refine w_slice ?_ | with_reducible refine w_optN ?_ | with_reducible refine w_optS ?_ | with_reducible refine w_srcE ?_ | with_reducible refine w_srcT ?_ | with_reducible refine w_srcS ?_ | with_reducible refine w_rng1 ?_ | with_reducible refine w_rng2 ?_ | with_reducible refine w_for ?_ | with_reducible refine w_comp ?_ | with_reducible refine w_asgG ?_ | with_reducible refine w_par ?_ | with_reducible refine w_set ?_ | with_reducible refine w_app ?_ | with_reducible refine w_raise ?_ | with_reducible refine w_nx ?_ | with_reducible refine w_bk ?_ | with_reducible refine w_ct ?_ | with_reducible refine w_retN ?_ | with_reducible refine wV_b ?_ | with_reducible refine wB_t ?_ | with_reducible refine wB_f ?_ | ((with_reducible apply w_var); next => rfl) | ((with_reducible apply w_lft); next => first | exact eqG_int | exact neG_int | exact ltG_int | exact gtG_int | exact leG_int | exact geG_int | exact addG_int | exact subG_int | exact negG_int | exact eqG_bl | exact neG_bl | exact lenG_tup | exact tupD0 | exact tupD1 | exact tupD2 | exact tupD3 | exact tupD4 | exact lstD0 | exact lstD1 | exact isi_tup_tup | rfl) | (with_reducible refine Exists.intro _ (And.intro rfl ?_)) | (refine Exists.intro _ (And.intro (by rfl) ?_))))
    refine take_w d (by omega) (by omega) fun i m2 i0 i1 d2 g2 => ?_
    obtain ⟨reach, hr, hx⟩ : ∃ reach : Int, (0 ≤ reach ∧ reach ≤ 1000) ∧ idxG (.tup [.int 4, .int 30, .int 1000]) (.int i) m2 = some (.int reach, m2) := by
      have : i = 0 ∨ i = 1 ∨ i = 2 := by omega
      rcases this with rfl | rfl | rfl
      · exact ⟨4, by omega, rfl⟩
      · exact ⟨30, by omega, rfl⟩
      · exact ⟨1000, by omega, rfl⟩
    (repeat (first | with_reducible refine w_seq ?_ | with_reducible refine w_asg ?_ | with_reducible refine w_ret ?_ | with_reducible refine w_if ?_ | with_reducible refine w_drop ?_ | with_reducible refine w_op2 ?_ | with_reducible refine w_op1 ?_ | with_reducible refine w_opN ?_ | with_reducible refine w_consA ?_ | with_reducible refine w_nilA ?_ | with_reducible refine w_cst ?_ | with_reducible refine w_valT ?_ | with_reducible refine w_notT ?_ | with_reducible refine w_andT ?_ | with_reducible refine w_orT ?_ | with_reducible refine w_yesT ?_ | with_reducible refine w_ifE ?_ | with_reducible refine w_andV ?_ | with_reducible refine w_orV ?_ | with_reducible refine w_notV ?_ | with_reducible refine w_callE ?_ | with_reducible refine w_chain ?_ | with_reducible refine w_slice ?_ | with_reducible refine w_optN ?_ | with_reducible refine w_optS ?_ | with_reducible refine w_srcE ?_ | with_reducible refine w_srcT ?_ | with_reducible refine w_srcS ?_ | with_reducible refine w_rng1 ?_ | with_reducible refine w_rng2 ?_ | with_reducible refine w_for ?_ | with_reducible refine w_comp ?_ | with_reducible refine w_asgG ?_ | with_reducible refine w_par ?_ | with_reducible refine w_set ?_ | with_reducible refine w_app ?_ | with_reducible refine w_raise ?_ | with_reducible refine w_nx ?_ | with_reducible refine w_bk ?_ | with_reducible refine w_ct ?_ | with_reducible refine w_retN ?_ | with_reducible refine wV_b ?_ | with_reducible refine wB_t ?_ | with_reducible refine wB_f ?_ | ((with_reducible apply w_var); next => rfl) | ((with_reducible apply w_lft); next => first | exact hx | exact eqG_int | exact neG_int | exact ltG_int | exact gtG_int | exact leG_int | exact geG_int | exact addG_int | exact subG_int | exact negG_int | exact eqG_bl | exact neG_bl | exact lenG_tup | exact tupD0 | exact tupD1 | exact tupD2 | exact tupD3 | exact tupD4 | exact lstD0 | exact lstD1 | exact isi_tup_tup | rfl) | (with_reducible refine Exists.intro _ (And.intro rfl ?_)) | (refine Exists.intro _ (And.intro (by rfl) ?_))))
    refine take_w d2 (by omega) (by omega) fun c m3 c0 c1 d3 g3 => ?_
    (repeat (first | with_reducible refine w_seq ?_ | with_reducible refine w_asg ?_ | with_reducible refine w_ret ?_ | with_reducible refine w_if ?_ | with_reducible refine w_drop ?_ | with_reducible refine w_op2 ?_ | with_reducible refine w_op1 ?_ | with_reducible refine w_opN ?_ | with_reducible refine w_consA ?_ | with_reducible refine w_nilA ?_ | with_reducible refine w_cst ?_ | with_reducible refine w_valT ?_ | with_reducible refine w_notT ?_ | with_reducible refine w_andT ?_ | with_reducible refine w_orT ?_ | with_reducible refine w_yesT ?_ | with_reducible refine w_ifE ?_ | with_reducible refine w_andV ?_ | with_reducible refine w_orV ?_ | with_reducible refine w_notV ?_ | with_reducible refine w_callE ?_ | with_reducible refine w_chain ?_ | with_reducible refine w_slice ?_ | with_reducible refine w_optN ?_ | with_reducible refine w_optS ?_ | with_reducible refine w_srcE ?_ | with_reducible refine w_srcT ?_ | with_reducible refine w_srcS ?_ | with_reducible refine w_rng1 ?_ | with_reducible refine w_rng2 ?_ | with_reducible refine w_for ?_ | with_reducible refine w_comp ?_ | with_reducible refine w_asgG ?_ | with_reducible refine w_par ?_ | with_reducible refine w_set ?_ | with_reducible refine w_app ?_ | with_reducible refine w_raise ?_ | with_reducible refine w_nx ?_ | with_reducible refine w_bk ?_ | with_reducible refine w_ct ?_ | with_reducible refine w_retN ?_ | with_reducible refine wV_b ?_ | with_reducible refine wB_t ?_ | with_reducible refine wB_f ?_ | ((with_reducible apply w_var); next => rfl) | ((with_reducible apply w_lft); next => first | exact eqG_int | exact neG_int | exact ltG_int | exact gtG_int | exact leG_int | exact geG_int | exact addG_int | exact subG_int | exact negG_int | exact eqG_bl | exact neG_bl | exact lenG_tup | exact tupD0 | exact tupD1 | exact tupD2 | exact tupD3 | exact tupD4 | exact lstD0 | exact lstD1 | exact isi_tup_tup | rfl) | (with_reducible refine Exists.intro _ (And.intro rfl ?_)) | (refine Exists.intro _ (And.intro (by rfl) ?_))))
    refine ⟨okI_small (by omega) (by omega), ?_⟩
    refine w_drawsP (k := 2) (fun _ => True) (c0 := c.toNat) d3 rfl (by omega) (fun j m' d' => ?_) fun row m4 rl _ d4 g4 a4 => ?_
    · refine ⟨_, rfl, fun Q hQ => ?_⟩
      (repeat (first | with_reducible refine w_seq ?_ | with_reducible refine w_asg ?_ | with_reducible refine w_ret ?_ | with_reducible refine w_if ?_ | with_reducible refine w_drop ?_ | with_reducible refine w_op2 ?_ | with_reducible refine w_op1 ?_ | with_reducible refine w_opN ?_ | with_reducible refine w_consA ?_ | with_reducible refine w_nilA ?_ | with_reducible refine w_cst ?_ | with_reducible refine w_valT ?_ | with_reducible refine w_notT ?_ | with_reducible refine w_andT ?_ | with_reducible refine w_orT ?_ | with_reducible refine w_yesT ?_ | with_reducible refine w_ifE ?_ | with_reducible refine w_andV ?_ | with_reducible refine w_orV ?_ | with_reducible refine w_notV ?_ | with_reducible refine w_callE ?_ | with_reducible refine w_chain ?_ | with_reducible refine w_slice ?_ | with_reducible refine w_optN ?_ | with_reducible refine w_optS ?_ | with_reducible refine w_srcE ?_ | with_reducible refine w_srcT ?_ | with_reducible refine w_srcS ?_ | with_reducible refine w_rng1 ?_ | with_reducible refine w_rng2 ?_ | with_reducible refine w_for ?_ | with_reducible refine w_comp ?_ | with_reducible refine w_asgG ?_ | with_reducible refine w_par ?_ | with_reducible refine w_set ?_ | with_reducible refine w_app ?_ | with_reducible refine w_raise ?_ | with_reducible refine w_nx ?_ | with_reducible refine w_bk ?_ | with_reducible refine w_ct ?_ | with_reducible refine w_retN ?_ | with_reducible refine wV_b ?_ | with_reducible refine wB_t ?_ | with_reducible refine wB_f ?_ | ((with_reducible apply w_var); next => rfl) | ((with_reducible apply w_lft); next => first | exact eqG_int | exact neG_int | exact ltG_int | exact gtG_int | exact leG_int | exact geG_int | exact addG_int | exact subG_int | exact negG_int | exact eqG_bl | exact neG_bl | exact lenG_tup | exact tupD0 | exact tupD1 | exact tupD2 | exact tupD3 | exact tupD4 | exact lstD0 | exact lstD1 | exact isi_tup_tup | rfl) | (with_reducible refine Exists.intro _ (And.intro rfl ?_)) | (refine Exists.intro _ (And.intro (by rfl) ?_))))
      exact signed_w d' hr.1 (by omega) fun n m2 _ _ d2 g2 => hQ n m2 trivial d2 g2
    have L4 : m4[m0.length]? = some (.lst (R.map rowD)) := g4.get (by omega) (g3.get (by omega) (g2.get (by omega) aL))
    have ne : m0.length ≠ m3.length := by
      have := (List.getElem?_eq_some_iff.mp (g3.get (by omega) (g2.get (by omega) aL) : m3[m0.length]? = _)).1
      omega
    -- what follows once row stands
    have rest : ∀ (q : Nat) (row : List Int) (m5 : Mem) (y3 y4 : Option D), m5[q]? = some (.lst (row.map .int)) → row.length ≤ 60 → (R = [] → row.length ≤ 30) → m5[m0.length]? = some (.lst (R.map rowD)) → Drw m5 2 →
        ∀ (r : Mi.Env) (X : String → Mi.Env → Mem → Prop) (N B C : Mi.Env → Mem → Prop) (RR : D → Mem → Prop), (r = [some (.ref 0), some (.ref 2), some (.ref m0.length), y3, y4, some (.ref q), none, none, none]) → (∀ r m, I10 m0.length (dn ++ [x]) ds r m → N r m) →
        wS (seqS (dropS (appE (varE 2) (opN (consA (op1 (varE 5) sortSetG) nilA) tupleG))) nxS r m5) X N RR B C := by
      intro q row m5 y3 y4 aq l6 l3 a5 d5 r X N B C RR er hN
      subst er
      have hss := sortSet_of (m := m5) (intsM_ref (items_lst aq)) (by omega : row.length < 64)
      (repeat (first | with_reducible refine w_seq ?_ | with_reducible refine w_asg ?_ | with_reducible refine w_ret ?_ | with_reducible refine w_if ?_ | with_reducible refine w_drop ?_ | with_reducible refine w_op2 ?_ | with_reducible refine w_op1 ?_ | with_reducible refine w_opN ?_ | with_reducible refine w_consA ?_ | with_reducible refine w_nilA ?_ | with_reducible refine w_cst ?_ | with_reducible refine w_valT ?_ | with_reducible refine w_notT ?_ | with_reducible refine w_andT ?_ | with_reducible refine w_orT ?_ | with_reducible refine w_yesT ?_ | with_reducible refine w_ifE ?_ | with_reducible refine w_andV ?_ | with_reducible refine w_orV ?_ | with_reducible refine w_notV ?_ | with_reducible refine w_callE ?_ | with_reducible refine w_chain ?_ | with_reducible refine w_slice ?_ | with_reducible refine w_optN ?_ | with_reducible refine w_optS ?_ | with_reducible refine w_srcE ?_ | with_reducible refine w_srcT ?_ | with_reducible refine w_srcS ?_ | with_reducible refine w_rng1 ?_ | with_reducible refine w_rng2 ?_ | with_reducible refine w_for ?_ | with_reducible refine w_comp ?_ | with_reducible refine w_asgG ?_ | with_reducible refine w_par ?_ | with_reducible refine w_set ?_ | with_reducible refine w_app ?_ | with_reducible refine w_raise ?_ | with_reducible refine w_nx ?_ | with_reducible refine w_bk ?_ | with_reducible refine w_ct ?_ | with_reducible refine w_retN ?_ | with_reducible refine wV_b ?_ | with_reducible refine wB_t ?_ | with_reducible refine wB_f ?_ | ((with_reducible apply w_var); next => rfl) | ((with_reducible apply w_lft); next => first | exact eqG_int | exact neG_int | exact ltG_int | exact gtG_int | exact leG_int | exact geG_int | exact addG_int | exact subG_int | exact negG_int | exact eqG_bl | exact neG_bl | exact lenG_tup | exact tupD0 | exact tupD1 | exact tupD2 | exact tupD3 | exact tupD4 | exact lstD0 | exact lstD1 | exact isi_tup_tup | rfl) | (with_reducible refine Exists.intro _ (And.intro rfl ?_)) | (refine Exists.intro _ (And.intro (by rfl) ?_))))
      refine ⟨⟨_, a5⟩, ?_⟩
      (repeat (first | with_reducible refine w_seq ?_ | with_reducible refine w_asg ?_ | with_reducible refine w_ret ?_ | with_reducible refine w_if ?_ | with_reducible refine w_drop ?_ | with_reducible refine w_op2 ?_ | with_reducible refine w_op1 ?_ | with_reducible refine w_opN ?_ | with_reducible refine w_consA ?_ | with_reducible refine w_nilA ?_ | with_reducible refine w_cst ?_ | with_reducible refine w_valT ?_ | with_reducible refine w_notT ?_ | with_reducible refine w_andT ?_ | with_reducible refine w_orT ?_ | with_reducible refine w_yesT ?_ | with_reducible refine w_ifE ?_ | with_reducible refine w_andV ?_ | with_reducible refine w_orV ?_ | with_reducible refine w_notV ?_ | with_reducible refine w_callE ?_ | with_reducible refine w_chain ?_ | with_reducible refine w_slice ?_ | with_reducible refine w_optN ?_ | with_reducible refine w_optS ?_ | with_reducible refine w_srcE ?_ | with_reducible refine w_srcT ?_ | with_reducible refine w_srcS ?_ | with_reducible refine w_rng1 ?_ | with_reducible refine w_rng2 ?_ | with_reducible refine w_for ?_ | with_reducible refine w_comp ?_ | with_reducible refine w_asgG ?_ | with_reducible refine w_par ?_ | with_reducible refine w_set ?_ | with_reducible refine w_app ?_ | with_reducible refine w_raise ?_ | with_reducible refine w_nx ?_ | with_reducible refine w_bk ?_ | with_reducible refine w_ct ?_ | with_reducible refine w_retN ?_ | with_reducible refine wV_b ?_ | with_reducible refine wB_t ?_ | with_reducible refine wB_f ?_ | ((with_reducible apply w_var); next => rfl) | ((with_reducible apply w_lft); next => first | exact hss | exact tupleG_at (last_at m5 _) | exact eqG_int | exact neG_int | exact ltG_int | exact gtG_int | exact leG_int | exact geG_int | exact addG_int | exact subG_int | exact negG_int | exact eqG_bl | exact neG_bl | exact lenG_tup | exact tupD0 | exact tupD1 | exact tupD2 | exact tupD3 | exact tupD4 | exact lstD0 | exact lstD1 | exact isi_tup_tup | rfl) | (with_reducible refine Exists.intro _ (And.intro rfl ?_)) | (refine Exists.intro _ (And.intro (by rfl) ?_))))
      have aL6 := pre_at (List.prefix_append m5 [MO.lst ((upSet row).map .int)]) a5
      refine ⟨_, aL6, sz_lt (by rw [List.length_map]; omega), ?_⟩
      (repeat (first | with_reducible refine w_seq ?_ | with_reducible refine w_asg ?_ | with_reducible refine w_ret ?_ | with_reducible refine w_if ?_ | with_reducible refine w_drop ?_ | with_reducible refine w_op2 ?_ | with_reducible refine w_op1 ?_ | with_reducible refine w_opN ?_ | with_reducible refine w_consA ?_ | with_reducible refine w_nilA ?_ | with_reducible refine w_cst ?_ | with_reducible refine w_valT ?_ | with_reducible refine w_notT ?_ | with_reducible refine w_andT ?_ | with_reducible refine w_orT ?_ | with_reducible refine w_yesT ?_ | with_reducible refine w_ifE ?_ | with_reducible refine w_andV ?_ | with_reducible refine w_orV ?_ | with_reducible refine w_notV ?_ | with_reducible refine w_callE ?_ | with_reducible refine w_chain ?_ | with_reducible refine w_slice ?_ | with_reducible refine w_optN ?_ | with_reducible refine w_optS ?_ | with_reducible refine w_srcE ?_ | with_reducible refine w_srcT ?_ | with_reducible refine w_srcS ?_ | with_reducible refine w_rng1 ?_ | with_reducible refine w_rng2 ?_ | with_reducible refine w_for ?_ | with_reducible refine w_comp ?_ | with_reducible refine w_asgG ?_ | with_reducible refine w_par ?_ | with_reducible refine w_set ?_ | with_reducible refine w_app ?_ | with_reducible refine w_raise ?_ | with_reducible refine w_nx ?_ | with_reducible refine w_bk ?_ | with_reducible refine w_ct ?_ | with_reducible refine w_retN ?_ | with_reducible refine wV_b ?_ | with_reducible refine wB_t ?_ | with_reducible refine wB_f ?_ | ((with_reducible apply w_var); next => rfl) | ((with_reducible apply w_lft); next => first | exact eqG_int | exact neG_int | exact ltG_int | exact gtG_int | exact leG_int | exact geG_int | exact addG_int | exact subG_int | exact negG_int | exact eqG_bl | exact neG_bl | exact lenG_tup | exact tupD0 | exact tupD1 | exact tupD2 | exact tupD3 | exact tupD4 | exact lstD0 | exact lstD1 | exact isi_tup_tup | rfl) | (with_reducible refine Exists.intro _ (And.intro rfl ?_)) | (refine Exists.intro _ (And.intro (by rfl) ?_))))
      have up := upSet_le row
      refine hN _ _ ⟨R ++ [upSet row], _, _, _, rfl, ?_, by simp [lR], fun z hz => ?_, fun r0 h0 => ?_, (d5.app _).set (by omega) _⟩
      · rw [List.getElem?_set_self (List.getElem?_eq_some_iff.mp aL6).1, List.map_append]
        rfl
      · rcases List.mem_append.mp hz with hz | hz
        · exact h60 z hz
        · cases List.mem_singleton.mp hz
          omega
      · cases R with
        | nil =>
          cases h0
          exact Nat.le_trans up (l3 rfl)
        | cons a R => exact h30 r0 (by simpa using h0)
    have hlen := lenG_ref (items_lst L4)
    (repeat (first | with_reducible refine w_seq ?_ | with_reducible refine w_asg ?_ | with_reducible refine w_ret ?_ | with_reducible refine w_if ?_ | with_reducible refine w_drop ?_ | with_reducible refine w_op2 ?_ | with_reducible refine w_op1 ?_ | with_reducible refine w_opN ?_ | with_reducible refine w_consA ?_ | with_reducible refine w_nilA ?_ | with_reducible refine w_cst ?_ | with_reducible refine w_valT ?_ | with_reducible refine w_notT ?_ | with_reducible refine w_andT ?_ | with_reducible refine w_orT ?_ | with_reducible refine w_yesT ?_ | with_reducible refine w_ifE ?_ | with_reducible refine w_andV ?_ | with_reducible refine w_orV ?_ | with_reducible refine w_notV ?_ | with_reducible refine w_callE ?_ | with_reducible refine w_chain ?_ | with_reducible refine w_slice ?_ | with_reducible refine w_optN ?_ | with_reducible refine w_optS ?_ | with_reducible refine w_srcE ?_ | with_reducible refine w_srcT ?_ | with_reducible refine w_srcS ?_ | with_reducible refine w_rng1 ?_ | with_reducible refine w_rng2 ?_ | with_reducible refine w_for ?_ | with_reducible refine w_comp ?_ | with_reducible refine w_asgG ?_ | with_reducible refine w_par ?_ | with_reducible refine w_set ?_ | with_reducible refine w_app ?_ | with_reducible refine w_raise ?_ | with_reducible refine w_nx ?_ | with_reducible refine w_bk ?_ | with_reducible refine w_ct ?_ | with_reducible refine w_retN ?_ | with_reducible refine wV_b ?_ | with_reducible refine wB_t ?_ | with_reducible refine wB_f ?_ | ((with_reducible apply w_var); next => rfl) | ((with_reducible apply w_lft); next => first | exact hlen | exact eqG_int | exact neG_int | exact ltG_int | exact gtG_int | exact leG_int | exact geG_int | exact addG_int | exact subG_int | exact negG_int | exact eqG_bl | exact neG_bl | exact lenG_tup | exact tupD0 | exact tupD1 | exact tupD2 | exact tupD3 | exact tupD4 | exact lstD0 | exact lstD1 | exact isi_tup_tup | rfl) | (with_reducible refine Exists.intro _ (And.intro rfl ?_)) | (refine Exists.intro _ (And.intro (by rfl) ?_))))
    refine wB_of (fun hp => ?_) (fun hp => ?_)
    · have hp : 0 < (R.map rowD).length := by simpa using hp
      rw [List.length_map] at hp
      obtain ⟨r0, R', rfl⟩ : ∃ r0 R', R = r0 :: R' := by
        cases R with
        | nil => simp at hp
        | cons a b => exact ⟨a, b, rfl⟩
      have l30 := h30 r0 rfl
      (repeat (first | with_reducible refine w_seq ?_ | with_reducible refine w_asg ?_ | with_reducible refine w_ret ?_ | with_reducible refine w_if ?_ | with_reducible refine w_drop ?_ | with_reducible refine w_op2 ?_ | with_reducible refine w_op1 ?_ | with_reducible refine w_opN ?_ | with_reducible refine w_consA ?_ | with_reducible refine w_nilA ?_ | with_reducible refine w_cst ?_ | with_reducible refine w_valT ?_ | with_reducible refine w_notT ?_ | with_reducible refine w_andT ?_ | with_reducible refine w_orT ?_ | with_reducible refine w_yesT ?_ | with_reducible refine w_ifE ?_ | with_reducible refine w_andV ?_ | with_reducible refine w_orV ?_ | with_reducible refine w_notV ?_ | with_reducible refine w_callE ?_ | with_reducible refine w_chain ?_ | with_reducible refine w_slice ?_ | with_reducible refine w_optN ?_ | with_reducible refine w_optS ?_ | with_reducible refine w_srcE ?_ | with_reducible refine w_srcT ?_ | with_reducible refine w_srcS ?_ | with_reducible refine w_rng1 ?_ | with_reducible refine w_rng2 ?_ | with_reducible refine w_for ?_ | with_reducible refine w_comp ?_ | with_reducible refine w_asgG ?_ | with_reducible refine w_par ?_ | with_reducible refine w_set ?_ | with_reducible refine w_app ?_ | with_reducible refine w_raise ?_ | with_reducible refine w_nx ?_ | with_reducible refine w_bk ?_ | with_reducible refine w_ct ?_ | with_reducible refine w_retN ?_ | with_reducible refine wV_b ?_ | with_reducible refine wB_t ?_ | with_reducible refine wB_f ?_ | ((with_reducible apply w_var); next => rfl) | ((with_reducible apply w_lft); next => first | exact eqG_int | exact neG_int | exact ltG_int | exact gtG_int | exact leG_int | exact geG_int | exact addG_int | exact subG_int | exact negG_int | exact eqG_bl | exact neG_bl | exact lenG_tup | exact tupD0 | exact tupD1 | exact tupD2 | exact tupD3 | exact tupD4 | exact lstD0 | exact lstD1 | exact isi_tup_tup | rfl) | (with_reducible refine Exists.intro _ (And.intro rfl ?_)) | (refine Exists.intro _ (And.intro (by rfl) ?_))))
      refine take_w d4 (by omega) (by omega) fun b m5 b0 b1 d5 g5 => ?_
      have L5 := g5.get (by omega) L4
      have a5 := g5.get (by have := (List.getElem?_eq_some_iff.mp aL).1; have := g2.len; have := g3.len; omega) a4
      have nq : m3.length ≠ 2 := by have := d3.lt; omega
      (repeat (first | with_reducible refine w_seq ?_ | with_reducible refine w_asg ?_ | with_reducible refine w_ret ?_ | with_reducible refine w_if ?_ | with_reducible refine w_drop ?_ | with_reducible refine w_op2 ?_ | with_reducible refine w_op1 ?_ | with_reducible refine w_opN ?_ | with_reducible refine w_consA ?_ | with_reducible refine w_nilA ?_ | with_reducible refine w_cst ?_ | with_reducible refine w_valT ?_ | with_reducible refine w_notT ?_ | with_reducible refine w_andT ?_ | with_reducible refine w_orT ?_ | with_reducible refine w_yesT ?_ | with_reducible refine w_ifE ?_ | with_reducible refine w_andV ?_ | with_reducible refine w_orV ?_ | with_reducible refine w_notV ?_ | with_reducible refine w_callE ?_ | with_reducible refine w_chain ?_ | with_reducible refine w_slice ?_ | with_reducible refine w_optN ?_ | with_reducible refine w_optS ?_ | with_reducible refine w_srcE ?_ | with_reducible refine w_srcT ?_ | with_reducible refine w_srcS ?_ | with_reducible refine w_rng1 ?_ | with_reducible refine w_rng2 ?_ | with_reducible refine w_for ?_ | with_reducible refine w_comp ?_ | with_reducible refine w_asgG ?_ | with_reducible refine w_par ?_ | with_reducible refine w_set ?_ | with_reducible refine w_app ?_ | with_reducible refine w_raise ?_ | with_reducible refine w_nx ?_ | with_reducible refine w_bk ?_ | with_reducible refine w_ct ?_ | with_reducible refine w_retN ?_ | with_reducible refine wV_b ?_ | with_reducible refine wB_t ?_ | with_reducible refine wB_f ?_ | ((with_reducible apply w_var); next => rfl) | ((with_reducible apply w_lft); next => first | exact eqG_int | exact neG_int | exact ltG_int | exact gtG_int | exact leG_int | exact geG_int | exact addG_int | exact subG_int | exact negG_int | exact eqG_bl | exact neG_bl | exact lenG_tup | exact tupD0 | exact tupD1 | exact tupD2 | exact tupD3 | exact tupD4 | exact lstD0 | exact lstD1 | exact isi_tup_tup | rfl) | (with_reducible refine Exists.intro _ (And.intro rfl ?_)) | (refine Exists.intro _ (And.intro (by rfl) ?_))))
      refine wB_of (fun hb => ?_) (fun hb => ?_)
      · have hix := idxG_ref (i := 0) (items_lst L5) (show atI (((r0 :: R').map rowD)) 0 = some (rowD r0) from atI_c0)
        (repeat (first | with_reducible refine w_seq ?_ | with_reducible refine w_asg ?_ | with_reducible refine w_ret ?_ | with_reducible refine w_if ?_ | with_reducible refine w_drop ?_ | with_reducible refine w_op2 ?_ | with_reducible refine w_op1 ?_ | with_reducible refine w_opN ?_ | with_reducible refine w_consA ?_ | with_reducible refine w_nilA ?_ | with_reducible refine w_cst ?_ | with_reducible refine w_valT ?_ | with_reducible refine w_notT ?_ | with_reducible refine w_andT ?_ | with_reducible refine w_orT ?_ | with_reducible refine w_yesT ?_ | with_reducible refine w_ifE ?_ | with_reducible refine w_andV ?_ | with_reducible refine w_orV ?_ | with_reducible refine w_notV ?_ | with_reducible refine w_callE ?_ | with_reducible refine w_chain ?_ | with_reducible refine w_slice ?_ | with_reducible refine w_optN ?_ | with_reducible refine w_optS ?_ | with_reducible refine w_srcE ?_ | with_reducible refine w_srcT ?_ | with_reducible refine w_srcS ?_ | with_reducible refine w_rng1 ?_ | with_reducible refine w_rng2 ?_ | with_reducible refine w_for ?_ | with_reducible refine w_comp ?_ | with_reducible refine w_asgG ?_ | with_reducible refine w_par ?_ | with_reducible refine w_set ?_ | with_reducible refine w_app ?_ | with_reducible refine w_raise ?_ | with_reducible refine w_nx ?_ | with_reducible refine w_bk ?_ | with_reducible refine w_ct ?_ | with_reducible refine w_retN ?_ | with_reducible refine wV_b ?_ | with_reducible refine wB_t ?_ | with_reducible refine wB_f ?_ | ((with_reducible apply w_var); next => rfl) | ((with_reducible apply w_lft); next => first | exact hix | exact eqG_int | exact neG_int | exact ltG_int | exact gtG_int | exact leG_int | exact geG_int | exact addG_int | exact subG_int | exact negG_int | exact eqG_bl | exact neG_bl | exact lenG_tup | exact tupD0 | exact tupD1 | exact tupD2 | exact tupD3 | exact tupD4 | exact lstD0 | exact lstD1 | exact isi_tup_tup | rfl) | (with_reducible refine Exists.intro _ (And.intro rfl ?_)) | (refine Exists.intro _ (And.intro (by rfl) ?_))))
        refine w_compL r0 D.int (fun dn _ ys m' => ∃ row2 : List Int, ys = row2.map .int ∧ row2.length ≤ dn.length ∧ m'[m5.length]? = some (.lst ys) ∧ Drw m' 2 ∧ Gk 2 m5 m') rfl ⟨[], rfl, Nat.le_refl _, last_at _ _, d5.app _, .of_pre (List.prefix_append _ _)⟩ (fun _ _ _ _ _ => trivial) (fun dn z ds ys m' e q => ?_) (fun ys m6 q => ?_)
        · obtain ⟨row2, rfl, le, am, dm, gm⟩ := q
          have n2 : m5.length ≠ 2 := by have := d5.lt; omega
          refine ⟨_, rfl, ?_⟩
          (repeat (first | with_reducible refine w_seq ?_ | with_reducible refine w_asg ?_ | with_reducible refine w_ret ?_ | with_reducible refine w_if ?_ | with_reducible refine w_drop ?_ | with_reducible refine w_op2 ?_ | with_reducible refine w_op1 ?_ | with_reducible refine w_opN ?_ | with_reducible refine w_consA ?_ | with_reducible refine w_nilA ?_ | with_reducible refine w_cst ?_ | with_reducible refine w_valT ?_ | with_reducible refine w_notT ?_ | with_reducible refine w_andT ?_ | with_reducible refine w_orT ?_ | with_reducible refine w_yesT ?_ | with_reducible refine w_ifE ?_ | with_reducible refine w_andV ?_ | with_reducible refine w_orV ?_ | with_reducible refine w_notV ?_ | with_reducible refine w_callE ?_ | with_reducible refine w_chain ?_ | with_reducible refine w_slice ?_ | with_reducible refine w_optN ?_ | with_reducible refine w_optS ?_ | with_reducible refine w_srcE ?_ | with_reducible refine w_srcT ?_ | with_reducible refine w_srcS ?_ | with_reducible refine w_rng1 ?_ | with_reducible refine w_rng2 ?_ | with_reducible refine w_for ?_ | with_reducible refine w_comp ?_ | with_reducible refine w_asgG ?_ | with_reducible refine w_par ?_ | with_reducible refine w_set ?_ | with_reducible refine w_app ?_ | with_reducible refine w_raise ?_ | with_reducible refine w_nx ?_ | with_reducible refine w_bk ?_ | with_reducible refine w_ct ?_ | with_reducible refine w_retN ?_ | with_reducible refine wV_b ?_ | with_reducible refine wB_t ?_ | with_reducible refine wB_f ?_ | ((with_reducible apply w_var); next => rfl) | ((with_reducible apply w_lft); next => first | exact eqG_int | exact neG_int | exact ltG_int | exact gtG_int | exact leG_int | exact geG_int | exact addG_int | exact subG_int | exact negG_int | exact eqG_bl | exact neG_bl | exact lenG_tup | exact tupD0 | exact tupD1 | exact tupD2 | exact tupD3 | exact tupD4 | exact lstD0 | exact lstD1 | exact isi_tup_tup | rfl) | (with_reducible refine Exists.intro _ (And.intro rfl ?_)) | (refine Exists.intro _ (And.intro (by rfl) ?_))))
          refine take_w dm (by omega) (by omega) fun b m6 _ _ d6 g6 => ?_
          have am6 := g6.get n2 am
          have le2 : dn.length ≤ r0.length := by rw [e, List.length_append]; omega
          (repeat (first | with_reducible refine w_seq ?_ | with_reducible refine w_asg ?_ | with_reducible refine w_ret ?_ | with_reducible refine w_if ?_ | with_reducible refine w_drop ?_ | with_reducible refine w_op2 ?_ | with_reducible refine w_op1 ?_ | with_reducible refine w_opN ?_ | with_reducible refine w_consA ?_ | with_reducible refine w_nilA ?_ | with_reducible refine w_cst ?_ | with_reducible refine w_valT ?_ | with_reducible refine w_notT ?_ | with_reducible refine w_andT ?_ | with_reducible refine w_orT ?_ | with_reducible refine w_yesT ?_ | with_reducible refine w_ifE ?_ | with_reducible refine w_andV ?_ | with_reducible refine w_orV ?_ | with_reducible refine w_notV ?_ | with_reducible refine w_callE ?_ | with_reducible refine w_chain ?_ | with_reducible refine w_slice ?_ | with_reducible refine w_optN ?_ | with_reducible refine w_optS ?_ | with_reducible refine w_srcE ?_ | with_reducible refine w_srcT ?_ | with_reducible refine w_srcS ?_ | with_reducible refine w_rng1 ?_ | with_reducible refine w_rng2 ?_ | with_reducible refine w_for ?_ | with_reducible refine w_comp ?_ | with_reducible refine w_asgG ?_ | with_reducible refine w_par ?_ | with_reducible refine w_set ?_ | with_reducible refine w_app ?_ | with_reducible refine w_raise ?_ | with_reducible refine w_nx ?_ | with_reducible refine w_bk ?_ | with_reducible refine w_ct ?_ | with_reducible refine w_retN ?_ | with_reducible refine wV_b ?_ | with_reducible refine wB_t ?_ | with_reducible refine wB_f ?_ | ((with_reducible apply w_var); next => rfl) | ((with_reducible apply w_lft); next => first | exact eqG_int | exact neG_int | exact ltG_int | exact gtG_int | exact leG_int | exact geG_int | exact addG_int | exact subG_int | exact negG_int | exact eqG_bl | exact neG_bl | exact lenG_tup | exact tupD0 | exact tupD1 | exact tupD2 | exact tupD3 | exact tupD4 | exact lstD0 | exact lstD1 | exact isi_tup_tup | rfl) | (with_reducible refine Exists.intro _ (And.intro rfl ?_)) | (refine Exists.intro _ (And.intro (by rfl) ?_))))
          refine wB_of (fun _ => ?_) (fun _ => ?_)
          · (repeat (first | with_reducible refine w_seq ?_ | with_reducible refine w_asg ?_ | with_reducible refine w_ret ?_ | with_reducible refine w_if ?_ | with_reducible refine w_drop ?_ | with_reducible refine w_op2 ?_ | with_reducible refine w_op1 ?_ | with_reducible refine w_opN ?_ | with_reducible refine w_consA ?_ | with_reducible refine w_nilA ?_ | with_reducible refine w_cst ?_ | with_reducible refine w_valT ?_ | with_reducible refine w_notT ?_ | with_reducible refine w_andT ?_ | with_reducible refine w_orT ?_ | with_reducible refine w_yesT ?_ | with_reducible refine w_ifE ?_ | with_reducible refine w_andV ?_ | with_reducible refine w_orV ?_ | with_reducible refine w_notV ?_ | with_reducible refine w_callE ?_ | with_reducible refine w_chain ?_ | with_reducible refine w_slice ?_ | with_reducible refine w_optN ?_ | with_reducible refine w_optS ?_ | with_reducible refine w_srcE ?_ | with_reducible refine w_srcT ?_ | with_reducible refine w_srcS ?_ | with_reducible refine w_rng1 ?_ | with_reducible refine w_rng2 ?_ | with_reducible refine w_for ?_ | with_reducible refine w_comp ?_ | with_reducible refine w_asgG ?_ | with_reducible refine w_par ?_ | with_reducible refine w_set ?_ | with_reducible refine w_app ?_ | with_reducible refine w_raise ?_ | with_reducible refine w_nx ?_ | with_reducible refine w_bk ?_ | with_reducible refine w_ct ?_ | with_reducible refine w_retN ?_ | with_reducible refine wV_b ?_ | with_reducible refine wB_t ?_ | with_reducible refine wB_f ?_ | ((with_reducible apply w_var); next => rfl) | ((with_reducible apply w_lft); next => first | exact eqG_int | exact neG_int | exact ltG_int | exact gtG_int | exact leG_int | exact geG_int | exact addG_int | exact subG_int | exact negG_int | exact eqG_bl | exact neG_bl | exact lenG_tup | exact tupD0 | exact tupD1 | exact tupD2 | exact tupD3 | exact tupD4 | exact lstD0 | exact lstD1 | exact isi_tup_tup | rfl) | (with_reducible refine Exists.intro _ (And.intro rfl ?_)) | (refine Exists.intro _ (And.intro (by rfl) ?_))))
            refine ⟨am6, sz_lt (by rw [List.length_map]; omega), row2 ++ [z], by simp, by simp; omega, List.getElem?_set_self (List.getElem?_eq_some_iff.mp am6).1, d6.set (by have := d5.lt; omega) _, (gm.trans g6).set (Nat.le_refl _) _⟩
          · exact ⟨row2, rfl, by simp; omega, am6, d6, gm.trans g6⟩
        · obtain ⟨row2, rfl, le, am, dm, gm⟩ := q
          have a6 := gm.get nq a5
          have L6 := gm.get (by omega) L5
          have ha := addG_refE a6 am (sz_le (by rw [List.length_map, List.length_map]; omega))
          rw [← List.map_append] at ha
          refine w_lft ha (w_nx ?_)
          exact rest _ (row ++ row2) _ _ _ (last_at _ _) (by rw [List.length_append]; omega) (fun h => by cases h) (pre_at (List.prefix_append _ _) L6) (dm.app _) _ _ _ _ _ _ rfl fun _ _ h => h
      · exact w_nx (rest _ row _ _ _ a5 (by omega) (fun h => by cases h) L5 d5 _ _ _ _ _ _ rfl fun _ _ h => h)
    · exact wB_f (w_nx (rest _ row _ _ _ a4 (by omega) (fun _ => by omega) L4 d4 _ _ _ _ _ _ rfl fun _ _ h => h))
  · obtain ⟨R, x3, x4, x5, rfl, aL, lR, h60, h30, d⟩ := q
    rw [List.length_range] at lR
    have fin : ∀ (due : List Int) (q : Nat) (m6 : Mem) (y3 y4 y5 : Option D), m6[q]? = some (.lst (due.map .int)) → due = comm R → m6[m0.length]? = some (.lst (R.map rowD)) →
        ∀ (r : Mi.Env) (X : String → Mi.Env → Mem → Prop) (N B C : Mi.Env → Mem → Prop), (r = [some (.ref 0), some (.ref 2), some (.ref m0.length), y3, y4, y5, some (.ref q), none, none]) →
        wS (seqS (retS (op2 (callE Pg.f_common (consA (opN (consA (varE 2) nilA) tupleG) nilA)) (opN (consA (varE 6) nilA) tupleG) eqG)) nxS r m6) X N (fun d _ => d = .bl true) B C := by
      intro due q m6 y3 y4 y5 aq ed a6 r X N B C er
      subst er ed
      (repeat (first | with_reducible refine w_seq ?_ | with_reducible refine w_asg ?_ | with_reducible refine w_ret ?_ | with_reducible refine w_if ?_ | with_reducible refine w_drop ?_ | with_reducible refine w_op2 ?_ | with_reducible refine w_op1 ?_ | with_reducible refine w_opN ?_ | with_reducible refine w_consA ?_ | with_reducible refine w_nilA ?_ | with_reducible refine w_cst ?_ | with_reducible refine w_valT ?_ | with_reducible refine w_notT ?_ | with_reducible refine w_andT ?_ | with_reducible refine w_orT ?_ | with_reducible refine w_yesT ?_ | with_reducible refine w_ifE ?_ | with_reducible refine w_andV ?_ | with_reducible refine w_orV ?_ | with_reducible refine w_notV ?_ | with_reducible refine w_callE ?_ | with_reducible refine w_chain ?_ | with_reducible refine w_slice ?_ | with_reducible refine w_optN ?_ | with_reducible refine w_optS ?_ | with_reducible refine w_srcE ?_ | with_reducible refine w_srcT ?_ | with_reducible refine w_srcS ?_ | with_reducible refine w_rng1 ?_ | with_reducible refine w_rng2 ?_ | with_reducible refine w_for ?_ | with_reducible refine w_comp ?_ | with_reducible refine w_asgG ?_ | with_reducible refine w_par ?_ | with_reducible refine w_set ?_ | with_reducible refine w_app ?_ | with_reducible refine w_raise ?_ | with_reducible refine w_nx ?_ | with_reducible refine w_bk ?_ | with_reducible refine w_ct ?_ | with_reducible refine w_retN ?_ | with_reducible refine wV_b ?_ | with_reducible refine wB_t ?_ | with_reducible refine wB_f ?_ | ((with_reducible apply w_var); next => rfl) | ((with_reducible apply w_lft); next => first | exact tupleG_at a6 | exact eqG_int | exact neG_int | exact ltG_int | exact gtG_int | exact leG_int | exact geG_int | exact addG_int | exact subG_int | exact negG_int | exact eqG_bl | exact neG_bl | exact lenG_tup | exact tupD0 | exact tupD1 | exact tupD2 | exact tupD3 | exact tupD4 | exact lstD0 | exact lstD1 | exact isi_tup_tup | rfl) | (with_reducible refine Exists.intro _ (And.intro rfl ?_)) | (refine Exists.intro _ (And.intro (by rfl) ?_))))
      refine common_w (fun row hrow => by have := h60 row hrow; omega) fun m7 p7 => ?_
      (repeat (first | with_reducible refine w_seq ?_ | with_reducible refine w_asg ?_ | with_reducible refine w_ret ?_ | with_reducible refine w_if ?_ | with_reducible refine w_drop ?_ | with_reducible refine w_op2 ?_ | with_reducible refine w_op1 ?_ | with_reducible refine w_opN ?_ | with_reducible refine w_consA ?_ | with_reducible refine w_nilA ?_ | with_reducible refine w_cst ?_ | with_reducible refine w_valT ?_ | with_reducible refine w_notT ?_ | with_reducible refine w_andT ?_ | with_reducible refine w_orT ?_ | with_reducible refine w_yesT ?_ | with_reducible refine w_ifE ?_ | with_reducible refine w_andV ?_ | with_reducible refine w_orV ?_ | with_reducible refine w_notV ?_ | with_reducible refine w_callE ?_ | with_reducible refine w_chain ?_ | with_reducible refine w_slice ?_ | with_reducible refine w_optN ?_ | with_reducible refine w_optS ?_ | with_reducible refine w_srcE ?_ | with_reducible refine w_srcT ?_ | with_reducible refine w_srcS ?_ | with_reducible refine w_rng1 ?_ | with_reducible refine w_rng2 ?_ | with_reducible refine w_for ?_ | with_reducible refine w_comp ?_ | with_reducible refine w_asgG ?_ | with_reducible refine w_par ?_ | with_reducible refine w_set ?_ | with_reducible refine w_app ?_ | with_reducible refine w_raise ?_ | with_reducible refine w_nx ?_ | with_reducible refine w_bk ?_ | with_reducible refine w_ct ?_ | with_reducible refine w_retN ?_ | with_reducible refine wV_b ?_ | with_reducible refine wB_t ?_ | with_reducible refine wB_f ?_ | ((with_reducible apply w_var); next => rfl) | ((with_reducible apply w_lft); next => first | exact tupleG_at (pre_at p7 aq) | exact eqG_of (p := True) Pl.row Pl.row ⟨fun _ => trivial, fun _ => rfl⟩ | exact eqG_int | exact neG_int | exact ltG_int | exact gtG_int | exact leG_int | exact geG_int | exact addG_int | exact subG_int | exact negG_int | exact eqG_bl | exact neG_bl | exact lenG_tup | exact tupD0 | exact tupD1 | exact tupD2 | exact tupD3 | exact tupD4 | exact lstD0 | exact lstD1 | exact isi_tup_tup | rfl) | (with_reducible refine Exists.intro _ (And.intro rfl ?_)) | (refine Exists.intro _ (And.intro (by rfl) ?_))))
      rfl
    (repeat (first | with_reducible refine w_seq ?_ | with_reducible refine w_asg ?_ | with_reducible refine w_ret ?_ | with_reducible refine w_if ?_ | with_reducible refine w_drop ?_ | with_reducible refine w_op2 ?_ | with_reducible refine w_op1 ?_ | with_reducible refine w_opN ?_ | with_reducible refine w_consA ?_ | with_reducible refine w_nilA ?_ | with_reducible refine w_cst ?_ | with_reducible refine w_valT ?_ | with_reducible refine w_notT ?_ | with_reducible refine w_andT ?_ | with_reducible refine w_orT ?_ | with_reducible refine w_yesT ?_ | with_reducible refine w_ifE ?_ | with_reducible refine w_andV ?_ | with_reducible refine w_orV ?_ | with_reducible refine w_notV ?_ | with_reducible refine w_callE ?_ | with_reducible refine w_chain ?_ | with_reducible refine w_slice ?_ | with_reducible refine w_optN ?_ | with_reducible refine w_optS ?_ | with_reducible refine w_srcE ?_ | with_reducible refine w_srcT ?_ | with_reducible refine w_srcS ?_ | with_reducible refine w_rng1 ?_ | with_reducible refine w_rng2 ?_ | with_reducible refine w_for ?_ | with_reducible refine w_comp ?_ | with_reducible refine w_asgG ?_ | with_reducible refine w_par ?_ | with_reducible refine w_set ?_ | with_reducible refine w_app ?_ | with_reducible refine w_raise ?_ | with_reducible refine w_nx ?_ | with_reducible refine w_bk ?_ | with_reducible refine w_ct ?_ | with_reducible refine w_retN ?_ | with_reducible refine wV_b ?_ | with_reducible refine wB_t ?_ | with_reducible refine wB_f ?_ | ((with_reducible apply w_var); next => rfl) | ((with_reducible apply w_lft); next => first | exact lenG_ref (items_lst (pre_at (List.prefix_append m [MO.lst []]) aL)) | exact eqG_int | exact neG_int | exact ltG_int | exact gtG_int | exact leG_int | exact geG_int | exact addG_int | exact subG_int | exact negG_int | exact eqG_bl | exact neG_bl | exact lenG_tup | exact tupD0 | exact tupD1 | exact tupD2 | exact tupD3 | exact tupD4 | exact lstD0 | exact lstD1 | exact isi_tup_tup | rfl) | (with_reducible refine Exists.intro _ (And.intro rfl ?_)) | (refine Exists.intro _ (And.intro (by rfl) ?_))))
    have aL2 := pre_at (List.prefix_append m [MO.lst []]) aL
    refine wB_of (fun hp => ?_) (fun hp => ?_)
    · have hp : 0 < (R.map rowD).length := by simpa using hp
      rw [List.length_map] at hp
      obtain ⟨r0, R', rfl⟩ : ∃ r0 R', R = r0 :: R' := by
        cases R with
        | nil => simp at hp
        | cons a b => exact ⟨a, b, rfl⟩
      have hix := idxG_ref (i := 0) (items_lst aL2) (show atI (((r0 :: R').map rowD)) 0 = some (rowD r0) from atI_c0)
      (repeat (first | with_reducible refine w_seq ?_ | with_reducible refine w_asg ?_ | with_reducible refine w_ret ?_ | with_reducible refine w_if ?_ | with_reducible refine w_drop ?_ | with_reducible refine w_op2 ?_ | with_reducible refine w_op1 ?_ | with_reducible refine w_opN ?_ | with_reducible refine w_consA ?_ | with_reducible refine w_nilA ?_ | with_reducible refine w_cst ?_ | with_reducible refine w_valT ?_ | with_reducible refine w_notT ?_ | with_reducible refine w_andT ?_ | with_reducible refine w_orT ?_ | with_reducible refine w_yesT ?_ | with_reducible refine w_ifE ?_ | with_reducible refine w_andV ?_ | with_reducible refine w_orV ?_ | with_reducible refine w_notV ?_ | with_reducible refine w_callE ?_ | with_reducible refine w_chain ?_ | with_reducible refine w_slice ?_ | with_reducible refine w_optN ?_ | with_reducible refine w_optS ?_ | with_reducible refine w_srcE ?_ | with_reducible refine w_srcT ?_ | with_reducible refine w_srcS ?_ | with_reducible refine w_rng1 ?_ | with_reducible refine w_rng2 ?_ | with_reducible refine w_for ?_ | with_reducible refine w_comp ?_ | with_reducible refine w_asgG ?_ | with_reducible refine w_par ?_ | with_reducible refine w_set ?_ | with_reducible refine w_app ?_ | with_reducible refine w_raise ?_ | with_reducible refine w_nx ?_ | with_reducible refine w_bk ?_ | with_reducible refine w_ct ?_ | with_reducible refine w_retN ?_ | with_reducible refine wV_b ?_ | with_reducible refine wB_t ?_ | with_reducible refine wB_f ?_ | ((with_reducible apply w_var); next => rfl) | ((with_reducible apply w_lft); next => first | exact hix | exact eqG_int | exact neG_int | exact ltG_int | exact gtG_int | exact leG_int | exact geG_int | exact addG_int | exact subG_int | exact negG_int | exact eqG_bl | exact neG_bl | exact lenG_tup | exact tupD0 | exact tupD1 | exact tupD2 | exact tupD3 | exact tupD4 | exact lstD0 | exact lstD1 | exact isi_tup_tup | rfl) | (with_reducible refine Exists.intro _ (And.intro rfl ?_)) | (refine Exists.intro _ (And.intro (by rfl) ?_))))
      have lr := h60 r0 List.mem_cons_self
      refine w_compP r0 D.int (fun n => (r0 :: R').all fun row => decide (n ∈ row)) D.int rfl (sz_lt (by omega)) (fun _ _ => trivial) (fun n hn m7 p7 => ⟨_, rfl, ?_⟩) fun m7 p7 a7 => ?_
      · (repeat (first | with_reducible refine w_seq ?_ | with_reducible refine w_asg ?_ | with_reducible refine w_ret ?_ | with_reducible refine w_if ?_ | with_reducible refine w_drop ?_ | with_reducible refine w_op2 ?_ | with_reducible refine w_op1 ?_ | with_reducible refine w_opN ?_ | with_reducible refine w_consA ?_ | with_reducible refine w_nilA ?_ | with_reducible refine w_cst ?_ | with_reducible refine w_valT ?_ | with_reducible refine w_notT ?_ | with_reducible refine w_andT ?_ | with_reducible refine w_orT ?_ | with_reducible refine w_yesT ?_ | with_reducible refine w_ifE ?_ | with_reducible refine w_andV ?_ | with_reducible refine w_orV ?_ | with_reducible refine w_notV ?_ | with_reducible refine w_callE ?_ | with_reducible refine w_chain ?_ | with_reducible refine w_slice ?_ | with_reducible refine w_optN ?_ | with_reducible refine w_optS ?_ | with_reducible refine w_srcE ?_ | with_reducible refine w_srcT ?_ | with_reducible refine w_srcS ?_ | with_reducible refine w_rng1 ?_ | with_reducible refine w_rng2 ?_ | with_reducible refine w_for ?_ | with_reducible refine w_comp ?_ | with_reducible refine w_asgG ?_ | with_reducible refine w_par ?_ | with_reducible refine w_set ?_ | with_reducible refine w_app ?_ | with_reducible refine w_raise ?_ | with_reducible refine w_nx ?_ | with_reducible refine w_bk ?_ | with_reducible refine w_ct ?_ | with_reducible refine w_retN ?_ | with_reducible refine wV_b ?_ | with_reducible refine wB_t ?_ | with_reducible refine wB_f ?_ | ((with_reducible apply w_var); next => rfl) | ((with_reducible apply w_lft); next => first | exact eqG_int | exact neG_int | exact ltG_int | exact gtG_int | exact leG_int | exact geG_int | exact addG_int | exact subG_int | exact negG_int | exact eqG_bl | exact neG_bl | exact lenG_tup | exact tupD0 | exact tupD1 | exact tupD2 | exact tupD3 | exact tupD4 | exact lstD0 | exact lstD1 | exact isi_tup_tup | rfl) | (with_reducible refine Exists.intro _ (And.intro rfl ?_)) | (refine Exists.intro _ (And.intro (by rfl) ?_))))
        have a7 := items_lst (pre_at p7 aL2)
        refine w_srcR a7 ?_
        refine w_compP (r0 :: R') rowD (fun _ => true) (fun row => .bl (decide (n ∈ row))) rfl (sz_lt (by omega)) (fun m8 p8 => pre_items p8 a7) (fun row hrow m8 p8 => ⟨_, rfl, ?_⟩) fun m8 p8 a8 => ?_
        · (repeat (first | with_reducible refine w_seq ?_ | with_reducible refine w_asg ?_ | with_reducible refine w_ret ?_ | with_reducible refine w_if ?_ | with_reducible refine w_drop ?_ | with_reducible refine w_op2 ?_ | with_reducible refine w_op1 ?_ | with_reducible refine w_opN ?_ | with_reducible refine w_consA ?_ | with_reducible refine w_nilA ?_ | with_reducible refine w_cst ?_ | with_reducible refine w_valT ?_ | with_reducible refine w_notT ?_ | with_reducible refine w_andT ?_ | with_reducible refine w_orT ?_ | with_reducible refine w_yesT ?_ | with_reducible refine w_ifE ?_ | with_reducible refine w_andV ?_ | with_reducible refine w_orV ?_ | with_reducible refine w_notV ?_ | with_reducible refine w_callE ?_ | with_reducible refine w_chain ?_ | with_reducible refine w_slice ?_ | with_reducible refine w_optN ?_ | with_reducible refine w_optS ?_ | with_reducible refine w_srcE ?_ | with_reducible refine w_srcT ?_ | with_reducible refine w_srcS ?_ | with_reducible refine w_rng1 ?_ | with_reducible refine w_rng2 ?_ | with_reducible refine w_for ?_ | with_reducible refine w_comp ?_ | with_reducible refine w_asgG ?_ | with_reducible refine w_par ?_ | with_reducible refine w_set ?_ | with_reducible refine w_app ?_ | with_reducible refine w_raise ?_ | with_reducible refine w_nx ?_ | with_reducible refine w_bk ?_ | with_reducible refine w_ct ?_ | with_reducible refine w_retN ?_ | with_reducible refine wV_b ?_ | with_reducible refine wB_t ?_ | with_reducible refine wB_f ?_ | ((with_reducible apply w_var); next => rfl) | ((with_reducible apply w_lft); next => first | exact inG_tup' (p := n ∈ row) Pl.int Pl.row ⟨fun h => by obtain ⟨z, hz, e⟩ := List.mem_map.mp h; cases e; exact hz, fun h => List.mem_map.mpr ⟨n, h, rfl⟩⟩ | exact eqG_int | exact neG_int | exact ltG_int | exact gtG_int | exact leG_int | exact geG_int | exact addG_int | exact subG_int | exact negG_int | exact eqG_bl | exact neG_bl | exact lenG_tup | exact tupD0 | exact tupD1 | exact tupD2 | exact tupD3 | exact tupD4 | exact lstD0 | exact lstD1 | exact isi_tup_tup | rfl) | (with_reducible refine Exists.intro _ (And.intro rfl ?_)) | (refine Exists.intro _ (And.intro (by rfl) ?_))))
          refine ⟨List.prefix_refl _, rfl, fun _ => ?_⟩
          (repeat (first | with_reducible refine w_seq ?_ | with_reducible refine w_asg ?_ | with_reducible refine w_ret ?_ | with_reducible refine w_if ?_ | with_reducible refine w_drop ?_ | with_reducible refine w_op2 ?_ | with_reducible refine w_op1 ?_ | with_reducible refine w_opN ?_ | with_reducible refine w_consA ?_ | with_reducible refine w_nilA ?_ | with_reducible refine w_cst ?_ | with_reducible refine w_valT ?_ | with_reducible refine w_notT ?_ | with_reducible refine w_andT ?_ | with_reducible refine w_orT ?_ | with_reducible refine w_yesT ?_ | with_reducible refine w_ifE ?_ | with_reducible refine w_andV ?_ | with_reducible refine w_orV ?_ | with_reducible refine w_notV ?_ | with_reducible refine w_callE ?_ | with_reducible refine w_chain ?_ | with_reducible refine w_slice ?_ | with_reducible refine w_optN ?_ | with_reducible refine w_optS ?_ | with_reducible refine w_srcE ?_ | with_reducible refine w_srcT ?_ | with_reducible refine w_srcS ?_ | with_reducible refine w_rng1 ?_ | with_reducible refine w_rng2 ?_ | with_reducible refine w_for ?_ | with_reducible refine w_comp ?_ | with_reducible refine w_asgG ?_ | with_reducible refine w_par ?_ | with_reducible refine w_set ?_ | with_reducible refine w_app ?_ | with_reducible refine w_raise ?_ | with_reducible refine w_nx ?_ | with_reducible refine w_bk ?_ | with_reducible refine w_ct ?_ | with_reducible refine w_retN ?_ | with_reducible refine wV_b ?_ | with_reducible refine wB_t ?_ | with_reducible refine wB_f ?_ | ((with_reducible apply w_var); next => rfl) | ((with_reducible apply w_lft); next => first | exact inG_tup' (p := n ∈ row) Pl.int Pl.row ⟨fun h => by obtain ⟨z, hz, e⟩ := List.mem_map.mp h; cases e; exact hz, fun h => List.mem_map.mpr ⟨n, h, rfl⟩⟩ | exact eqG_int | exact neG_int | exact ltG_int | exact gtG_int | exact leG_int | exact geG_int | exact addG_int | exact subG_int | exact negG_int | exact eqG_bl | exact neG_bl | exact lenG_tup | exact tupD0 | exact tupD1 | exact tupD2 | exact tupD3 | exact tupD4 | exact lstD0 | exact lstD1 | exact isi_tup_tup | rfl) | (with_reducible refine Exists.intro _ (And.intro rfl ?_)) | (refine Exists.intro _ (And.intro (by rfl) ?_))))
          exact ⟨List.prefix_refl _, rfl⟩
        · rw [List.filter_eq_self.mpr fun _ _ => rfl] at a8
          (repeat (first | with_reducible refine w_seq ?_ | with_reducible refine w_asg ?_ | with_reducible refine w_ret ?_ | with_reducible refine w_if ?_ | with_reducible refine w_drop ?_ | with_reducible refine w_op2 ?_ | with_reducible refine w_op1 ?_ | with_reducible refine w_opN ?_ | with_reducible refine w_consA ?_ | with_reducible refine w_nilA ?_ | with_reducible refine w_cst ?_ | with_reducible refine w_valT ?_ | with_reducible refine w_notT ?_ | with_reducible refine w_andT ?_ | with_reducible refine w_orT ?_ | with_reducible refine w_yesT ?_ | with_reducible refine w_ifE ?_ | with_reducible refine w_andV ?_ | with_reducible refine w_orV ?_ | with_reducible refine w_notV ?_ | with_reducible refine w_callE ?_ | with_reducible refine w_chain ?_ | with_reducible refine w_slice ?_ | with_reducible refine w_optN ?_ | with_reducible refine w_optS ?_ | with_reducible refine w_srcE ?_ | with_reducible refine w_srcT ?_ | with_reducible refine w_srcS ?_ | with_reducible refine w_rng1 ?_ | with_reducible refine w_rng2 ?_ | with_reducible refine w_for ?_ | with_reducible refine w_comp ?_ | with_reducible refine w_asgG ?_ | with_reducible refine w_par ?_ | with_reducible refine w_set ?_ | with_reducible refine w_app ?_ | with_reducible refine w_raise ?_ | with_reducible refine w_nx ?_ | with_reducible refine w_bk ?_ | with_reducible refine w_ct ?_ | with_reducible refine w_retN ?_ | with_reducible refine wV_b ?_ | with_reducible refine wB_t ?_ | with_reducible refine wB_f ?_ | ((with_reducible apply w_var); next => rfl) | ((with_reducible apply w_lft); next => first | exact allG_at a8 | exact eqG_int | exact neG_int | exact ltG_int | exact gtG_int | exact leG_int | exact geG_int | exact addG_int | exact subG_int | exact negG_int | exact eqG_bl | exact neG_bl | exact lenG_tup | exact tupD0 | exact tupD1 | exact tupD2 | exact tupD3 | exact tupD4 | exact lstD0 | exact lstD1 | exact isi_tup_tup | rfl) | (with_reducible refine Exists.intro _ (And.intro rfl ?_)) | (refine Exists.intro _ (And.intro (by rfl) ?_))))
          refine ⟨p8, rfl, fun _ => w_var rfl ⟨List.prefix_refl _, rfl⟩⟩
      · refine w_nx (fin _ _ _ _ _ _ a7 ?_ (pre_at p7 aL2) _ _ _ _ _ rfl)
        unfold comm
        refine List.filter_congr fun n hn => ?_
        rw [List.all_cons, decide_eq_true hn, Bool.true_and]
    · refine w_nx (fin [] _ _ _ _ _ (last_at _ _) ?_ aL2 _ _ _ _ _ rfl)
      have hp : ¬ 0 < (R.map rowD).length := by simpa using hp
      rw [List.length_map] at hp
      cases R with
      | nil => rfl
      | cons a b => simp at hp
end K10

end

section
set_option Elab.async false
set_option linter.all false
set_option maxRecDepth 100000
set_option maxHeartbeats 4000000
open PySem PySem.W PyProof.Rows
set_option maxHeartbeats 0 in
theorem PySem.Challenge.cw_joinhall_k10_common_integers_holds : PySem.Challenge.rw_joinhall_k10_common_integers.Holds := by
  w_on; o_law; k_head; (case hw => w_witness2)
  k_fill
  refine L2.walk_ofB (l := PySem.Challenge.rw_joinhall_k10_common_integers) (n := 63) (k := 3) (x := "script") (CX := fun w => L2.CX PySem.Challenge.rw_joinhall_k10_common_integers.prog w) (sp := fun w => Mi.spK K10.f_law _) rfl (by decide) rfl ⟨rfl, by decide, by decide⟩ (fun w h Y => PySem.W.kIn_of Y) ?F (fun w H a ns hl hb ho hS => Mi.law_spK (K10.main ns hl hb) ho hS) (fun w H s e s' h => Mi.law_cx h)
  case F =>
    intro w mg fa h KX G hmg
    refine' K10.all_mk KX G hmg ?a1 ?l1 ?c1 ?k1 ?a2 ?l2 ?c2 ?k2 ?a4 ?l4 ?c4 ?k4 ?a5 ?l5 ?c5 ?k5 ?a6 ?l6 ?c6 ?k6 ?a7 ?l7 ?c7 ?k7 ?z_set ?z_len ?z_tuple ?z_int ?z_list ?z_abs ?z_range ?z_sorted ?z_all
    (case a1 => k_is)
    (case l1 => k_is)
    (case c1 => k_is)
    (case k1 => k_is)
    (case a2 => k_is)
    (case l2 => k_is)
    (case c2 => k_is)
    (case k2 => k_is)
    (case a4 => k_is)
    (case l4 => k_is)
    (case c4 => k_is)
    (case k4 => k_is)
    (case a5 => k_is)
    (case l5 => k_is)
    (case c5 => k_is)
    (case k5 => k_is)
    (case a6 => k_is)
    (case l6 => k_is)
    (case c6 => k_is)
    (case k6 => k_is)
    (case a7 => k_is)
    (case l7 => k_is)
    (case c7 => k_is)
    (case k7 => k_is)
    (case z_set => k_is)
    (case z_len => k_is)
    (case z_tuple => k_is)
    (case z_int => k_is)
    (case z_list => k_is)
    (case z_abs => k_is)
    (case z_range => k_is)
    (case z_sorted => k_is)
    (case z_all => k_is)

end
