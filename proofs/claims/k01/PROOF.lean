import PyProof.Rows.All
import Wide.All
import OpenK.AllK
import Wide.FinOn
import HandS.ForMost
import HandS.WideBits
import HandS.Wide
import HandS.Gcd
import HandS.IsInst
import HandS.Conv
import HandS.Defaults
import HandS.TupAny
import HandS.Style
import HandS.Flow
import HandS.NoneIn
import HandS.ExcInit
import KE.KExcSuper
import HandS.Exc
import HandS.ExcOwn
import HandS.ExcIs
import HandS.ExcField
import KE.KExcIs
import HandS.HeadHook1
import HandS.Head0
import HandS.Head1
import HandS.Head2
import HandS.Head3
import HandS.HeadEnd
import HandS.HeadHook2
import Flt.RightSqrt
import HandS.TryOnly
import HandS.ExcValue
import PySem.Challenge.RW_steamlinks_k01_errors_each_of_its_own
set_option Elab.async false
set_option linter.all false
set_option maxRecDepth 100000
set_option maxHeartbeats 4000000
/-! Data layer: what stands behind a value, told as plain data; readings told over data. -/
namespace J
open PySem L2
def tyD (n : String) : PyData := .dict [(.none, .str ⟨(n.toList.map Char.toNat).toArray⟩)]
def clD (a : Addr) : PyData := .dict [(.bool true, .int a)]
def wellD : PyData := .dict [(.bool false, .none)]
/-- {} -/
def empD : PyData := .dict []
/-- an error of the class at C: its one attribute; one that keeps nothing; {'x': 1} -/
def erD (C : Addr) (nm : Str) (d : PyData) : PyData := .dict [(.int C, .str nm), (.none, d)]
def ebD (C : Addr) : PyData := .dict [(.int C, .none)]
def x1D : PyData := .dict [(.str "x", .int 1)]
/-- a tuple of the written part -/
def KTup (K : PySem.W.Frag) (a : Addr) (xs : List V) : Prop := ∃ (o : Obj) (its : Array Value) (n : Nat), K.lookup a = some o ∧ o.cls = .type "tuple" ∧ o.data = .seq its n ∧ its.size ≤ sizeLine ∧ Vals xs its.toList
mutual
/-- data d stands behind v; nothing of it is the one changing list p -/
inductive Im (K : PySem.W.Frag) (p : Option Addr) (H : Hp) : V → PyData → Prop
  | non : Im K p H .non .none
  | bl (b : Bool) : Im K p H (.bl b) (.bool b)
  | int (i : Int) : Im K p H (.int i) (.int i)
  | str (x : Str) : Im K p H (.str x) (.str x)
  | tup {a : Addr} {xs : List V} {ds : List PyData} : (p ≠ some a ∨ KTup K a xs) → SqT K H a xs → ImAll K p H xs ds → Im K p H (.ref a) (.tuple ds)
  | lst {a : Addr} {xs : List V} {ds : List PyData} : p ≠ some a → H a = some (.lst xs) → ImAll K p H xs ds → Im K p H (.ref a) (.list ds)
  | ty (n : String) : Im K p H (.ty n) (tyD n)
  | cl (a : Addr) : Im K p H (.ref a) (clD a)
  | well {a : Addr} : p = some a → Im K p H (.ref a) wellD
  | emp {a : Addr} : p ≠ some a → H a = some (.dK []) → Im K p H (.ref a) empD
  | erk {a dx C : Addr} {nm : Str} {v : V} {d : PyData} : p ≠ some a → p ≠ some dx → H a = some (exo a C (some dx)) → H dx = some (exd dx [(nm, v)]) → Im K p H v d → Im K p H (.ref a) (erD C nm d)
  | erb {a C : Addr} : p ≠ some a → H a = some (exo a C none) → Im K p H (.ref a) (ebD C)
  | x1 {a : Addr} : p ≠ some a → H a = some (.dK [(.inr "x", .int 1)]) → Im K p H (.ref a) x1D
inductive ImAll (K : PySem.W.Frag) (p : Option Addr) (H : Hp) : List V → List PyData → Prop
  | nil : ImAll K p H [] []
  | cons {v : V} {vs : List V} {d : PyData} {ds : List PyData} : Im K p H v d → ImAll K p H vs ds → ImAll K p H (v :: vs) (d :: ds)
end
/-- all that is tracked but p stands as it stood -/
def FrP (p : Option Addr) (H H' : Hp) : Prop := ∀ a o, p ≠ some a → H a = some o → H' a = some o
theorem FrP.refl {p : Option Addr} (H : Hp) : FrP p H H := fun _ _ _ h => h
theorem FrP.trans {p : Option Addr} {H H1 H2 : Hp} (a : FrP p H H1) (b : FrP p H1 H2) : FrP p H H2 := fun c o n h => b c o n (a c o n h)
theorem FrP.of {p : Option Addr} {H H' : Hp} (s : Same H H') : FrP p H H' := fun a o _ h => s a o h
theorem rd_mono {p : Option Addr} {H H' : Hp} {a : Addr} {u : HO} (f : FrP p H H') (n : p ≠ some a) (h : Rd H a u) : Rd H' a u := by
  rcases h with h | ⟨o, h⟩
  · exact .inl (f a _ n h)
  · exact .inr ⟨o, f a _ n h⟩
theorem sqT_mono {K : PySem.W.Frag} {p : Option Addr} {H H' : Hp} {a : Addr} {xs : List V} (f : FrP p H H') (n : p ≠ some a ∨ KTup K a xs) (h : SqT K H a xs) : SqT K H' a xs := by
  rcases n with n | n
  · rcases h with h | h
    · exact .inl (rd_mono f n h)
    · exact .inr h
  · exact .inr n
mutual
theorem Im.mono {K : PySem.W.Frag} {p : Option Addr} {H H' : Hp} (f : FrP p H H') : ∀ {v : V} {d : PyData}, Im K p H v d → Im K p H' v d
  | _, _, .non => .non
  | _, _, .bl b => .bl b
  | _, _, .int i => .int i
  | _, _, .str x => .str x
  | _, _, .tup n h a => .tup n (sqT_mono f n h) (ImAll.mono f a)
  | _, _, .lst n h a => .lst n (f _ _ n h) (ImAll.mono f a)
  | _, _, .ty n => .ty n
  | _, _, .cl a => .cl a
  | _, _, .well e => .well e
  | _, _, .emp n h => .emp n (f _ _ n h)
  | _, _, .erk n m h k i => .erk n m (f _ _ n h) (f _ _ m k) (Im.mono f i)
  | _, _, .erb n h => .erb n (f _ _ n h)
  | _, _, .x1 n h => .x1 n (f _ _ n h)
theorem ImAll.mono {K : PySem.W.Frag} {p : Option Addr} {H H' : Hp} (f : FrP p H H') : ∀ {vs : List V} {ds : List PyData}, ImAll K p H vs ds → ImAll K p H' vs ds
  | _, _, .nil => .nil
  | _, _, .cons h t => .cons (Im.mono f h) (ImAll.mono f t)
end
theorem ImAll.length {K : PySem.W.Frag} {p : Option Addr} {H : Hp} : ∀ {vs : List V} {ds : List PyData}, ImAll K p H vs ds → vs.length = ds.length
  | _, _, .nil => rfl
  | _, _, .cons _ t => by rw [List.length_cons, List.length_cons, ImAll.length t]
theorem ImAll.get {K : PySem.W.Frag} {p : Option Addr} {H : Hp} : ∀ {vs : List V} {ds : List PyData} {i : Nat} {d : PyData}, ImAll K p H vs ds → ds[i]? = some d → ∃ v, vs[i]? = some v ∧ Im K p H v d
  | _, _, _, _, .nil, e => by simp at e
  | _, _, 0, _, .cons h _, e => by simp at e; subst e; exact ⟨_, rfl, h⟩
  | _, _, i + 1, _, .cons _ t, e => by
    obtain ⟨v, h1, h2⟩ := ImAll.get (i := i) t (by simpa using e)
    exact ⟨v, by simpa using h1, h2⟩
theorem ImAll.getV {K : PySem.W.Frag} {p : Option Addr} {H : Hp} : ∀ {vs : List V} {ds : List PyData} {i : Nat} {v : V}, ImAll K p H vs ds → vs[i]? = some v → ∃ d, ds[i]? = some d ∧ Im K p H v d
  | _, _, _, _, .nil, e => by simp at e
  | _, _, 0, _, .cons h _, e => by simp at e; subst e; exact ⟨_, rfl, h⟩
  | _, _, i + 1, _, .cons _ t, e => by
    obtain ⟨v, h1, h2⟩ := ImAll.getV (i := i) t (by simpa using e)
    exact ⟨v, by simpa using h1, h2⟩
theorem ImAll.append {K : PySem.W.Frag} {p : Option Addr} {H : Hp} : ∀ {vs ws : List V} {ds es : List PyData}, ImAll K p H vs ds → ImAll K p H ws es → ImAll K p H (vs ++ ws) (ds ++ es)
  | _, _, _, _, .nil, t => t
  | _, _, _, _, .cons h r, t => .cons h (ImAll.append r t)
theorem ImAll.take {K : PySem.W.Frag} {p : Option Addr} {H : Hp} : ∀ {vs : List V} {ds : List PyData} (n : Nat), ImAll K p H vs ds → ImAll K p H (vs.take n) (ds.take n)
  | _, _, 0, _ => .nil
  | _, _, _ + 1, .nil => .nil
  | _, _, n + 1, .cons h r => .cons h (ImAll.take n r)
theorem ImAll.drop {K : PySem.W.Frag} {p : Option Addr} {H : Hp} : ∀ {vs : List V} {ds : List PyData} (n : Nat), ImAll K p H vs ds → ImAll K p H (vs.drop n) (ds.drop n)
  | _, _, 0, r => r
  | _, _, _ + 1, .nil => .nil
  | _, _, n + 1, .cons _ r => ImAll.drop n r
/-- what holds of the heap at level n (the level counts the draws) -/
structure Gh (p : Option Addr) where
  G : Nat → Hp → Prop
  st : ∀ n H H', G n H → Same H H' → G n H'
  tr : ∀ n H a, G n H → p = some a → H a ≠ none
  nw : ∀ n n' H H1 D o, G n H → H D = none → G n' H1 → G n' (upd H1 D o)
abbrev DEnv := List (Option PyData)
structure EnvOk (K : PySem.W.Frag) {p : Option Addr} (g : Gh p) (n : Nat) (H : Hp) (σ : St) (Γ : DEnv) : Prop where
  gh : g.G n H
  len : σ.length = Γ.length
  var : ∀ (i : Nat) (d : PyData), Γ[i]? = some (some d) → ∃ v, σ[i]? = some (some v) ∧ Im K p H v d
section
variable {K : PySem.W.Frag} {p : Option Addr} {g : Gh p} {n n' : Nat} {H H' : Hp} {σ : St} {Γ : DEnv}
theorem EnvOk.mono (e : EnvOk K g n H σ Γ) (f : FrP p H H') (h : g.G n' H') : EnvOk K g n' H' σ Γ :=
  ⟨h, e.len, fun i d q => let ⟨v, a, b⟩ := e.var i d q; ⟨v, a, b.mono f⟩⟩
theorem EnvOk.same (e : EnvOk K g n H σ Γ) (s : Same H H') : EnvOk K g n H' σ Γ := e.mono (.of s) (g.st _ _ _ e.gh s)
theorem EnvOk.set {i : Nat} {v : V} {d : PyData} (e : EnvOk K g n H σ Γ) (h : Im K p H v d) : EnvOk K g n H (σ.set i (some v)) (Γ.set i (some d)) := by
  refine ⟨e.gh, by rw [List.length_set, List.length_set, e.len], fun j d' q => ?_⟩
  by_cases hj : i = j
  · subst hj
    have hl : i < Γ.length := by
      have := (List.getElem?_eq_some_iff.mp q).1
      rwa [List.length_set] at this
    rw [List.getElem?_set_self hl] at q
    cases q
    exact ⟨v, List.getElem?_set_self (by rw [e.len]; exact hl), h⟩
  · rw [List.getElem?_set_ne hj] at q
    obtain ⟨w, a, b⟩ := e.var j d' q
    exact ⟨w, by rw [List.getElem?_set_ne hj]; exact a, b⟩
theorem EnvOk.wipe1 {i : Nat} (e : EnvOk K g n H σ Γ) : EnvOk K g n H (σ.set i none) (Γ.set i none) := by
  refine ⟨e.gh, by rw [List.length_set, List.length_set, e.len], fun j d' q => ?_⟩
  by_cases hj : i = j
  · subst hj
    have hl : i < Γ.length := by
      have := (List.getElem?_eq_some_iff.mp q).1
      rwa [List.length_set] at this
    rw [List.getElem?_set_self hl] at q
    cases q
  · rw [List.getElem?_set_ne hj] at q
    obtain ⟨w, a, b⟩ := e.var j d' q
    exact ⟨w, by rw [List.getElem?_set_ne hj]; exact a, b⟩
end
/-! ### readings over data -/
section
variable (K : PySem.W.Frag) {p : Option Addr} (g : Gh p)
def Ee (te : TE) (Γ : DEnv) (n : Nat) (R : PyData → Nat → Prop) : Prop := ∀ σ H, EnvOk K g n H σ Γ → ∀ Q : VK, (∀ d n' v H', R d n' → FrP p H H' → g.G n' H' → Im K p H' v d → Q v H') → te σ H Q
def Et (tt : TT) (Γ : DEnv) (n : Nat) (R : Bool → Nat → Prop) : Prop := ∀ σ H, EnvOk K g n H σ Γ → ∀ Q : Bool → Hp → Prop, (∀ b n' H', R b n' → FrP p H H' → g.G n' H' → Q b H') → tt σ H Q
def Ea (ta : TA) (Γ : DEnv) (n : Nat) (R : List PyData → Nat → Prop) : Prop := ∀ σ H, EnvOk K g n H σ Γ → ∀ Q : List V → Hp → Prop, (∀ ds n' vs H', R ds n' → FrP p H H' → g.G n' H' → ImAll K p H' vs ds → Q vs H') → ta σ H Q
structure DEnds where
  nx : DEnv → Nat → Prop
  rt : PyData → Nat → Prop
  bk : DEnv → Nat → Prop := fun _ _ => False
  ct : DEnv → Nat → Prop := fun _ _ => False
structure EndsOk (D : DEnds) (H : Hp) (E : Ends) : Prop where
  nx : ∀ Γ n σ H', D.nx Γ n → FrP p H H' → EnvOk K g n H' σ Γ → E.nx σ H'
  rt : ∀ d n v H', D.rt d n → FrP p H H' → g.G n H' → Im K p H' v d → E.rt v H'
  bk : ∀ Γ n σ H', D.bk Γ n → FrP p H H' → EnvOk K g n H' σ Γ → E.bk σ H'
  ct : ∀ Γ n σ H', D.ct Γ n → FrP p H H' → EnvOk K g n H' σ Γ → E.ct σ H'
def Es (ts : TS) (Γ : DEnv) (n : Nat) (D : DEnds) : Prop := ∀ σ H, EnvOk K g n H σ Γ → ∀ E : Ends, EndsOk K g D H E → ts E σ H
def Eg (tg : TG) (d : PyData) (Γ : DEnv) (n : Nat) (R : DEnv → Nat → Prop) : Prop := ∀ σ H v, EnvOk K g n H σ Γ → Im K p H v d → ∀ Q : St → Hp → Prop, (∀ Γ' n' σ' H', R Γ' n' → FrP p H H' → EnvOk K g n' H' σ' Γ' → Q σ' H') → tg v σ H Q
def Egs (tg : TGs) (ds : List PyData) (Γ : DEnv) (n : Nat) (R : DEnv → Nat → Prop) : Prop := ∀ σ H vs, EnvOk K g n H σ Γ → ImAll K p H vs ds → ∀ Q : St → Hp → Prop, (∀ Γ' n' σ' H', R Γ' n' → FrP p H H' → EnvOk K g n' H' σ' Γ' → Q σ' H') → tg vs σ H Q
/-- an operator, a built-in's call, over data: it makes new things at most -/
def Op (p : Option Addr) (r : R2) (x y : PyData) (R : PyData → Prop) : Prop := ∀ H vx vy, (∀ a, p = some a → H a ≠ none) → Im K p H vx x → Im K p H vy y → ∀ Q : VK, (∀ z v H', R z → Same H H' → Im K p H' v z → Q v H') → r vx vy H Q
def Un1 (p : Option Addr) (r : V → Hp → VK → Prop) (x : PyData) (R : PyData → Prop) : Prop := ∀ H vx, (∀ a, p = some a → H a ≠ none) → Im K p H vx x → ∀ Q : VK, (∀ z v H', R z → Same H H' → Im K p H' v z → Q v H') → r vx H Q
def Cl (p : Option Addr) (r : List V → Hp → VK → Prop) (ds : List PyData) (R : PyData → Prop) : Prop := ∀ H vs, (∀ a, p = some a → H a ≠ none) → ImAll K p H vs ds → ∀ Q : VK, (∀ z v H', R z → Same H H' → Im K p H' v z → Q v H') → r vs H Q
end
theorem EndsOk.frp {K : PySem.W.Frag} {p : Option Addr} {g : Gh p} {D : DEnds} {H H1 : Hp} {E : Ends} (e : EndsOk K g D H E) (f : FrP p H H1) : EndsOk K g D H1 E :=
  ⟨fun Γ n σ H' a b c => e.nx Γ n σ H' a (f.trans b) c, fun d n v H' a b c i => e.rt d n v H' a (f.trans b) c i, fun Γ n σ H' a b c => e.bk Γ n σ H' a (f.trans b) c, fun Γ n σ H' a b c => e.ct Γ n σ H' a (f.trans b) c⟩
/-- a new object stands apart from p -/
theorem new_same {H : Hp} {q : Addr} {o : HO} (h : H q = none) : Same H (upd H q o) := fun b u e => by
  rw [upd_ne (ne_of_none e h)]; exact e
theorem new_ne {p : Option Addr} {H : Hp} {q : Addr} (tr : ∀ a, p = some a → H a ≠ none) (h : H q = none) : p ≠ some q := fun e => tr q e h
section
variable {K : PySem.W.Frag} {p : Option Addr} {g : Gh p} {n : Nat} {Γ : DEnv} {R : PyData → Nat → Prop} {D : DEnds}
theorem ee_var {i : Nat} {d : PyData} (h : Γ[i]? = some (some d)) (r : R d n) : Ee K g (tVar i) Γ n R := fun σ H e Q q =>
  let ⟨v, a, b⟩ := e.var i d h; ⟨v, a, q d n v H r (.refl H) e.gh b⟩
theorem ee_int {i : Int} (r : R (.int i) n) : Ee K g (tC (.int i)) Γ n R := fun _ H e _ q => q _ n _ H r (.refl H) e.gh (.int i)
theorem ee_bl {b : Bool} (r : R (.bool b) n) : Ee K g (tC (.bl b)) Γ n R := fun _ H e _ q => q _ n _ H r (.refl H) e.gh (.bl b)
theorem ee_non (r : R .none n) : Ee K g (tC .non) Γ n R := fun _ H e _ q => q _ n _ H r (.refl H) e.gh .non
theorem ee_str {x : Str} (r : R (.str x) n) : Ee K g (tC (.str x)) Γ n R := fun _ H e _ q => q _ n _ H r (.refl H) e.gh (.str x)
theorem ee_ty {x : String} (r : R (tyD x) n) : Ee K g (tC (.ty x)) Γ n R := fun _ H e _ q => q _ n _ H r (.refl H) e.gh (.ty x)
theorem ee_cl {a : Addr} (r : R (clD a) n) : Ee K g (tC (.ref a)) Γ n R := fun _ H e _ q => q _ n _ H r (.refl H) e.gh (.cl a)
theorem ee_op {r : R2} {ta tb : TE} (h : Ee K g ta Γ n fun x n1 => Ee K g tb Γ n1 fun y n2 => Op K p r x y fun z => R z n2) : Ee K g (tOp r ta tb) Γ n R := fun σ H e Q q =>
  h σ H e _ fun x n1 vx H1 h1 f1 g1 i1 => h1 σ H1 (e.mono f1 g1) _ fun y n2 vy H2 h2 f2 g2 i2 =>
    h2 H2 vx vy (fun a ea => g.tr n2 H2 a g2 ea) (i1.mono f2) i2 Q fun z v H3 rz s3 iz => q z n2 v H3 rz ((f1.trans f2).trans (.of s3)) (g.st _ _ _ g2 s3) iz
theorem ee_un {r : V → Hp → VK → Prop} {ta : TE} (h : Ee K g ta Γ n fun x n1 => Un1 K p r x fun z => R z n1) : Ee K g (tUn r ta) Γ n R := fun σ H e Q q =>
  h σ H e _ fun x n1 vx H1 h1 f1 g1 i1 => h1 H1 vx (fun a ea => g.tr n1 H1 a g1 ea) i1 Q fun z v H3 rz s3 iz => q z n1 v H3 rz (f1.trans (.of s3)) (g.st _ _ _ g1 s3) iz
theorem ee_cb {r : List V → Hp → VK → Prop} {t : TA} (h : Ea K g t Γ n fun ds n1 => Cl K p r ds fun z => R z n1) : Ee K g (tCB r t) Γ n R := fun σ H e Q q =>
  h σ H e _ fun ds n1 vs H1 h1 f1 g1 i1 => h1 H1 vs (fun a ea => g.tr n1 H1 a g1 ea) i1 Q fun z v H3 rz s3 iz => q z n1 v H3 rz (f1.trans (.of s3)) (g.st _ _ _ g1 s3) iz
theorem ea_nil {R : List PyData → Nat → Prop} (r : R [] n) : Ea K g tNil Γ n R := fun _ H e _ q => q [] n [] H r (.refl H) e.gh .nil
theorem ea_cons {ta : TE} {t : TA} {R : List PyData → Nat → Prop} (h : Ee K g ta Γ n fun x n1 => Ea K g t Γ n1 fun xs n2 => R (x :: xs) n2) : Ea K g (tCons ta t) Γ n R := fun σ H e Q q =>
  h σ H e _ fun x n1 vx H1 h1 f1 g1 i1 => h1 σ H1 (e.mono f1 g1) _ fun xs n2 vs H2 h2 f2 g2 i2 => q _ n2 _ H2 h2 (f1.trans f2) g2 (.cons (i1.mono f2) i2)
theorem ee_tup {t : TA} (h : Ea K g t Γ n fun ds n1 => ds.length ≤ 1000 ∧ R (.tuple ds) n1) : Ee K g (tTup t) Γ n R := fun σ H e Q q =>
  h σ H e _ fun ds n1 vs H1 h1 f1 g1 i1 => ⟨by rw [i1.length]; exact Nat.le_trans h1.1 (by decide), fun a ha =>
    q _ n1 _ _ h1.2 (f1.trans (.of (new_same ha))) (g.st _ _ _ g1 (new_same ha)) (.tup (.inl (new_ne (fun a ea => g.tr n1 H1 a g1 ea) ha)) (SqT.of upd_same) (i1.mono (.of (new_same ha))))⟩
theorem ee_lst {t : TA} (h : Ea K g t Γ n fun ds n1 => ds.length ≤ 1000 ∧ R (.list ds) n1) : Ee K g (tLst t) Γ n R := fun σ H e Q q =>
  h σ H e _ fun ds n1 vs H1 h1 f1 g1 i1 => ⟨by rw [i1.length]; exact Nat.le_trans h1.1 (by decide), fun a ha =>
    q _ n1 _ _ h1.2 (f1.trans (.of (new_same ha))) (g.st _ _ _ g1 (new_same ha)) (.lst (new_ne (fun a ea => g.tr n1 H1 a g1 ea) ha) upd_same (i1.mono (.of (new_same ha))))⟩
theorem ee_if {t : TT} {ta tb : TE} (h : Et K g t Γ n fun b n1 => (b = true → Ee K g ta Γ n1 R) ∧ (b = false → Ee K g tb Γ n1 R)) : Ee K g (tIf t ta tb) Γ n R := fun σ H e Q q =>
  h σ H e _ fun b n1 H1 h1 f1 g1 => by
    have k : ∀ te, Ee K g te Γ n1 R → te σ H1 Q := fun te z => z σ H1 (e.mono f1 g1) Q fun d n' v H' a b c i => q d n' v H' a (f1.trans b) c i
    cases b with
    | true => exact (k ta (h1.1 rfl))
    | false => exact (k tb (h1.2 rfl))
theorem ee_imp {te : TE} {R' : PyData → Nat → Prop} (h : Ee K g te Γ n R') (k : ∀ d n, R' d n → R d n) : Ee K g te Γ n R := fun σ H e Q q => h σ H e Q fun d n' v H' a b c i => q d n' v H' (k d n' a) b c i
theorem et_test {te : TE} {R : Bool → Nat → Prop} (h : Ee K g te Γ n fun d n1 => ∃ b, d = .bool b ∧ R b n1) : Et K g (tTest te) Γ n R := fun σ H e Q q =>
  h σ H e _ fun d n1 v H1 ⟨b, hb, h1⟩ f1 g1 i1 => by
    subst hb
    cases i1
    exact ⟨b, rfl, q b n1 H1 h1 f1 g1⟩
theorem et_B {te : TE} {R : Bool → Nat → Prop} (h : Ee K g te Γ n fun d n1 => ∃ b, d = .bool b ∧ R b n1) : Et K g (tB te) Γ n R := fun σ H e Q q =>
  h σ H e _ fun d n1 v H1 ⟨b, hb, h1⟩ f1 g1 i1 => by
    subst hb
    cases i1
    exact ⟨b, rfl, q b n1 H1 h1 f1 g1⟩
theorem et_not {t : TT} {R : Bool → Nat → Prop} (h : Et K g t Γ n fun b n1 => R (!b) n1) : Et K g (tNot t) Γ n R := fun σ H e Q q =>
  h σ H e _ fun b n1 H1 h1 f1 g1 => q _ n1 H1 h1 f1 g1
theorem et_and {t u : TT} {R : Bool → Nat → Prop} (h : Et K g t Γ n fun b n1 => (b = true → Et K g u Γ n1 R) ∧ (b = false → R false n1)) : Et K g (tAnd t u) Γ n R := fun σ H e Q q =>
  h σ H e _ fun b n1 H1 h1 f1 g1 => by
    cases b with
    | true => exact h1.1 rfl σ H1 (e.mono f1 g1) Q fun b n' H' a f c => q b n' H' a (f1.trans f) c
    | false => exact q false n1 H1 (h1.2 rfl) f1 g1
theorem et_or {t u : TT} {R : Bool → Nat → Prop} (h : Et K g t Γ n fun b n1 => (b = true → R true n1) ∧ (b = false → Et K g u Γ n1 R)) : Et K g (tOr t u) Γ n R := fun σ H e Q q =>
  h σ H e _ fun b n1 H1 h1 f1 g1 => by
    cases b with
    | false => exact h1.2 rfl σ H1 (e.mono f1 g1) Q fun b n' H' a f c => q b n' H' a (f1.trans f) c
    | true => exact q true n1 H1 (h1.1 rfl) f1 g1
/-- and, or, not as values -/
theorem ee_andV {ta tb : TE} (h : Ee K g ta Γ n fun d n1 => ∃ b, d = .bool b ∧ (b = true → Ee K g tb Γ n1 R) ∧ (b = false → R (.bool false) n1)) : Ee K g (tAndV ta tb) Γ n R := fun σ H e Q q =>
  h σ H e _ fun d n1 v H1 ⟨b, hb, h1⟩ f1 g1 i1 => by
    subst hb
    cases i1
    refine ⟨b, rfl, ?_⟩
    cases b with
    | true => exact h1.1 rfl σ H1 (e.mono f1 g1) Q fun d n' v H' a f c i => q d n' v H' a (f1.trans f) c i
    | false => exact q _ n1 _ H1 (h1.2 rfl) f1 g1 (.bl false)
theorem ee_orV {ta tb : TE} (h : Ee K g ta Γ n fun d n1 => ∃ b, d = .bool b ∧ (b = true → R (.bool true) n1) ∧ (b = false → Ee K g tb Γ n1 R)) : Ee K g (tOrV ta tb) Γ n R := fun σ H e Q q =>
  h σ H e _ fun d n1 v H1 ⟨b, hb, h1⟩ f1 g1 i1 => by
    subst hb
    cases i1
    refine ⟨b, rfl, ?_⟩
    cases b with
    | false => exact h1.2 rfl σ H1 (e.mono f1 g1) Q fun d n' v H' a f c i => q d n' v H' a (f1.trans f) c i
    | true => exact q _ n1 _ H1 (h1.1 rfl) f1 g1 (.bl true)
theorem ee_notV {ta : TE} (h : Ee K g ta Γ n fun d n1 => ∃ b, d = .bool b ∧ R (.bool (!b)) n1) : Ee K g (tNotV ta) Γ n R := fun σ H e Q q =>
  h σ H e _ fun d n1 v H1 ⟨b, hb, h1⟩ f1 g1 i1 => by
    subst hb
    cases i1
    exact ⟨b, rfl, q _ n1 _ H1 h1 f1 g1 (.bl (!b))⟩
theorem ee_chain {r r' : R2} {ta tb tc : TE} (h : Ee K g ta Γ n fun x n1 => Ee K g tb Γ n1 fun y n2 => Op K p r x y fun z => ∃ b, z = .bool b ∧ (b = true → Ee K g tc Γ n2 fun w n3 => Op K p r' y w fun z => R z n3) ∧ (b = false → R (.bool false) n2)) :
    Ee K g (tChain r r' ta tb tc) Γ n R := fun σ H e Q q => by
  refine h σ H e _ fun x n1 vx H1 h1 f1 g1 i1 => ?_
  refine h1 σ H1 (e.mono f1 g1) _ fun y n2 vy H2 h2 f2 g2 i2 => ?_
  refine h2 H2 vx vy (fun a ea => g.tr n2 H2 a g2 ea) (i1.mono f2) i2 _ ?_
  rintro z v H3 ⟨b, hb, h3⟩ s3 iz
  subst hb
  cases iz
  have f3 : FrP p H H3 := (f1.trans f2).trans (.of s3)
  have g3 := g.st _ _ _ g2 s3
  refine ⟨b, rfl, ?_⟩
  cases b with
  | false => exact q _ n2 _ H3 (h3.2 rfl) f3 g3 (.bl false)
  | true =>
    refine (h3.1 rfl) σ H3 (e.mono f3 g3) _ fun w n4 vw H4 h4 f4 g4 i4 => ?_
    exact h4 H4 vy vw (fun a ea => g.tr n4 H4 a g4 ea) ((i2.mono (.of s3)).mono f4) i4 Q fun z v H5 rz s5 iz => q z n4 v H5 rz ((f3.trans f4).trans (.of s5)) (g.st _ _ _ g4 s5) iz
/-! ### statements -/
theorem es_seq {t u : TS} (h : Es K g t Γ n { D with nx := fun Γ' n' => Es K g u Γ' n' D }) : Es K g (tSeq t u) Γ n D := fun σ H e E k =>
  h σ H e { E with nx := u E } ⟨fun Γ' n' σ' H' a f e' => a σ' H' e' E (k.frp f), k.rt, k.bk, k.ct⟩
theorem es_next (h : D.nx Γ n) : Es K g tNext Γ n D := fun σ H e E k => k.nx Γ n σ H h (.refl H) e
theorem es_asg {te : TE} {tg : TG} (h : Ee K g te Γ n fun d n1 => Eg K g tg d Γ n1 D.nx) : Es K g (tAsg te tg) Γ n D := fun σ H e E k =>
  h σ H e _ fun d n1 v H1 h1 f1 g1 i1 => h1 σ H1 v (e.mono f1 g1) i1 _ fun Γ' n' σ' H' a f e' => k.nx Γ' n' σ' H' a (f1.trans f) e'
theorem es_drop {te : TE} (h : Ee K g te Γ n fun _ n1 => D.nx Γ n1) : Es K g (tDrop te) Γ n D := fun σ H e E k =>
  h σ H e _ fun d n1 v H1 h1 f1 g1 i1 => k.nx Γ n1 σ H1 h1 f1 (e.mono f1 g1)
theorem es_ret {te : TE} (h : Ee K g te Γ n D.rt) : Es K g (tRet te) Γ n D := fun σ H e E k =>
  h σ H e _ fun d n1 v H1 h1 f1 g1 i1 => k.rt d n1 v H1 h1 f1 g1 i1
theorem es_retN (h : D.rt .none n) : Es K g tRetN Γ n D := fun σ H e E k => k.rt _ n _ H h (.refl H) e.gh .non
theorem es_if {c : TT} {t u : TS} (h : Et K g c Γ n fun b n1 => (b = true → Es K g t Γ n1 D) ∧ (b = false → Es K g u Γ n1 D)) : Es K g (tIfS c t u) Γ n D := fun σ H e E k =>
  h σ H e _ fun b n1 H1 h1 f1 g1 => by
    cases b with
    | true => exact h1.1 rfl σ H1 (e.mono f1 g1) E (k.frp f1)
    | false => exact h1.2 rfl σ H1 (e.mono f1 g1) E (k.frp f1)
theorem eg_name {i : Nat} {d : PyData} {R : DEnv → Nat → Prop} (h : R (Γ.set i (some d)) n) : Eg K g (gName i) d Γ n R := fun σ H v e iv Q q =>
  q _ n _ H h (.refl H) (e.set iv)
theorem egs_nil {R : DEnv → Nat → Prop} (h : R Γ n) : Egs K g gNil [] Γ n R := fun σ H vs e iv Q q => by
  cases iv
  exact ⟨rfl, q Γ n σ H h (.refl H) e⟩
theorem egs_cons {tg : TG} {u : TGs} {d : PyData} {ds : List PyData} {R : DEnv → Nat → Prop} (h : Eg K g tg d Γ n fun Γ1 n1 => Egs K g u ds Γ1 n1 R) : Egs K g (gCons tg u) (d :: ds) Γ n R := fun σ H vs e iv Q q => by
  cases iv with
  | cons i1 i2 => exact ⟨_, _, rfl, h σ H _ e i1 _ fun Γ1 n1 σ1 H1 a f e1 => a σ1 H1 _ e1 (i2.mono f) Q fun Γ' n' σ' H' a' f' e' => q Γ' n' σ' H' a' (f.trans f') e'⟩
theorem eg_tup {m : Nat} {t : TGs} {ds : List PyData} {R : DEnv → Nat → Prop} (hl : ds.length = m) (h : Egs K g t ds Γ n R) : Eg K g (gTup K m t) (.tuple ds) Γ n R := fun σ H v e iv Q q => by
  cases iv with
  | tup ne hs ia => exact ⟨_, _, rfl, hs, by rw [ia.length]; exact hl, h σ H _ e ia Q q⟩
end
end J
namespace J
open PySem L2
mutual
theorem Im.dp {K : PySem.W.Frag} {p : Option Addr} {H : Hp} : ∀ {v : V} {d : PyData}, Im K p H v d → d.hasDict = false → Dp K H v d
  | _, _, .non, _ => .non
  | _, _, .bl b, _ => .bl b
  | _, _, .int i, _ => .int i
  | _, _, .str x, _ => .str x
  | _, _, .tup _ h a, z => .tup h (ImAll.dp a (by simpa [PyData.hasDict] using z))
  | _, _, .lst _ h a, z => .lst (SqL.of h) (ImAll.dp a (by simpa [PyData.hasDict] using z))
  | _, _, .ty n, z => by simp [tyD, PyData.hasDict] at z
  | _, _, .cl a, z => by simp [clD, PyData.hasDict] at z
  | _, _, .well e, z => by simp [wellD, PyData.hasDict] at z
  | _, _, .emp _ _, z => by simp [empD, PyData.hasDict] at z
  | _, _, .erk _ _ _ _ _, z => by simp [erD, PyData.hasDict] at z
  | _, _, .erb _ _, z => by simp [ebD, PyData.hasDict] at z
  | _, _, .x1 _ _, z => by simp [x1D, PyData.hasDict] at z
theorem ImAll.dp {K : PySem.W.Frag} {p : Option Addr} {H : Hp} : ∀ {vs : List V} {ds : List PyData}, ImAll K p H vs ds → PyData.hasDictAll ds = false → DpAll K H vs ds
  | _, _, .nil, _ => .nil
  | _, d :: ds, .cons h t, z => by
    have q : (PyData.hasDict d || PyData.hasDictAll ds) = false := by simpa only [PyData.hasDictAll] using z
    rw [Bool.or_eq_false_iff] at q
    exact .cons (Im.dp h q.1) (ImAll.dp t q.2)
end
section
variable {K : PySem.W.Frag} {p : Option Addr} {R : PyData → Prop}
theorem op_i0 {f : Int → Int → Int} {i j : Int} (r : R (.int (f i j))) : Op K p (rI0 fun i j => .int (f i j)) (.int i) (.int j) R := fun H vx vy _ ix iy Q q => by
  cases ix; cases iy
  exact ⟨i, j, rfl, rfl, q _ _ H r (Same.refl H) (.int _)⟩
theorem op_b0 {f : Int → Int → Bool} {i j : Int} (r : R (.bool (f i j))) : Op K p (rI0 fun i j => .bl (f i j)) (.int i) (.int j) R := fun H vx vy _ ix iy Q q => by
  cases ix; cases iy
  exact ⟨i, j, rfl, rfl, q _ _ H r (Same.refl H) (.bl _)⟩
theorem op_iC {C : Int → Int → Prop} {f : Int → Int → Int} {i j : Int} (c : C i j) (r : R (.int (f i j))) : Op K p (rI C fun i j => .int (f i j)) (.int i) (.int j) R := fun H vx vy _ ix iy Q q => by
  cases ix; cases iy
  exact ⟨i, j, rfl, rfl, c, q _ _ H r (Same.refl H) (.int _)⟩
theorem un_i {f : Int → Int} {i : Int} (r : R (.int (f i))) : Un1 K p (rU fun i => .int (f i)) (.int i) R := fun H vx _ ix Q q => by
  cases ix
  exact ⟨i, rfl, q _ _ H r (Same.refl H) (.int _)⟩
theorem op_eqD {x y : PyData} (hx : x.hasDict = false) (hy : y.hasDict = false) (sx : SeqAt.shaped x = true) (sy : SeqAt.shaped y = true) (r : R (.bool (PyData.eqv x y))) : Op K p (rEqD K) x y R := fun H vx vy _ ix iy Q q =>
  ⟨x, y, ix.dp hx, iy.dp hy, sx, sy, q _ _ H r (Same.refl H) (.bl _)⟩
theorem op_neD {x y : PyData} (hx : x.hasDict = false) (hy : y.hasDict = false) (sx : SeqAt.shaped x = true) (sy : SeqAt.shaped y = true) (r : R (.bool (!PyData.eqv x y))) : Op K p (rNeD K) x y R := fun H vx vy _ ix iy Q q =>
  ⟨x, y, ix.dp hx, iy.dp hy, sx, sy, q _ _ H r (Same.refl H) (.bl _)⟩
theorem op_eqS {i j : Str} (r : R (.bool (decide (i = j)))) : Op K p rEq (.str i) (.str j) R := fun H vx vy _ ix iy Q q => by
  cases ix; cases iy
  refine ⟨rfl, ?_⟩
  have e : decide (V.str i = V.str j) = decide (i = j) := decide_eq_decide.mpr ⟨fun z => V.str.inj z, fun z => by rw [z]⟩
  rw [e]
  exact q _ _ H r (Same.refl H) (.bl _)
theorem op_neS {i j : Str} (r : R (.bool (!decide (i = j)))) : Op K p rNe (.str i) (.str j) R := fun H vx vy _ ix iy Q q => by
  cases ix; cases iy
  refine ⟨rfl, ?_⟩
  have e : decide (V.str i = V.str j) = decide (i = j) := decide_eq_decide.mpr ⟨fun z => V.str.inj z, fun z => by rw [z]⟩
  rw [e]
  exact q _ _ H r (Same.refl H) (.bl _)
theorem op_eqN {i j : Int} (r : R (.bool (decide (i = j)))) : Op K p rEq (.int i) (.int j) R := fun H vx vy _ ix iy Q q => by
  cases ix; cases iy
  refine ⟨rfl, ?_⟩
  have e : decide (V.int i = V.int j) = decide (i = j) := decide_eq_decide.mpr ⟨fun z => V.int.inj z, fun z => by rw [z]⟩
  rw [e]
  exact q _ _ H r (Same.refl H) (.bl _)
theorem op_neN {i j : Int} (r : R (.bool (!decide (i = j)))) : Op K p rNe (.int i) (.int j) R := fun H vx vy _ ix iy Q q => by
  cases ix; cases iy
  refine ⟨rfl, ?_⟩
  have e : decide (V.int i = V.int j) = decide (i = j) := decide_eq_decide.mpr ⟨fun z => V.int.inj z, fun z => by rw [z]⟩
  rw [e]
  exact q _ _ H r (Same.refl H) (.bl _)
theorem chars_inj : ∀ {a b : List Char}, a.map Char.toNat = b.map Char.toNat → a = b
  | [], [], _ => rfl
  | [], _ :: _, h => by simp at h
  | _ :: _, [], h => by simp at h
  | x :: a, y :: b, h => by
    rw [List.map_cons, List.map_cons] at h
    injection h with h1 h2
    have e : x = y := Char.ext (UInt32.toNat_inj.mp h1)
    rw [e, chars_inj h2]
theorem tyD_inj {a b : String} (h : tyD a = tyD b) : a = b := by
  have h' : PyData.dict [(PyData.none, PyData.str ⟨(a.toList.map Char.toNat).toArray⟩)] = PyData.dict [(PyData.none, PyData.str ⟨(b.toList.map Char.toNat).toArray⟩)] := h
  injection h' with h1
  injection h1 with h2 _
  injection h2 with _ h3
  injection h3 with h4
  injection h4 with h5
  have h6 : a.toList.map Char.toNat = b.toList.map Char.toNat := by simpa using congrArg Array.toList h5
  exact String.ext (chars_inj h6)
theorem op_isB {a b : Bool} (r : R (.bool (decide (a = b)))) : Op K p rIsB (.bool a) (.bool b) R := fun H vx vy _ ix iy Q q => by
  cases ix; cases iy
  exact ⟨a, b, rfl, rfl, q _ _ H r (Same.refl H) (.bl _)⟩
theorem op_notB {a b : Bool} (r : R (.bool (!decide (a = b)))) : Op K p rNotB (.bool a) (.bool b) R := fun H vx vy _ ix iy Q q => by
  cases ix; cases iy
  exact ⟨a, b, rfl, rfl, q _ _ H r (Same.refl H) (.bl _)⟩
theorem at_im {H : Hp} {xs : List V} {ds : List PyData} {i : Int} {d : PyData} (ia : ImAll K p H xs ds) (h : atI ds i = some d) : ∃ v, atI xs i = some v ∧ Im K p H v d := by
  unfold atI at h ⊢
  rw [ia.length]
  cases e : ixN ds.length i with
  | none => rw [e] at h; cases h
  | some j =>
    rw [e] at h
    exact ia.get h
theorem op_ixT {ds : List PyData} {i : Int} {d : PyData} (h : atI ds i = some d) (r : R d) : Op K p (rIx K) (.tuple ds) (.int i) R := fun H vx vy _ ix iy Q q => by
  cases iy
  cases ix with
  | tup ne hs ia =>
    obtain ⟨v, e, iv⟩ := at_im ia h
    exact .inr (.inl ⟨_, _, i, v, rfl, rfl, hs, e, q d v H r (Same.refl H) iv⟩)
theorem op_ixL {ds : List PyData} {i : Int} {d : PyData} (h : atI ds i = some d) (r : R d) : Op K p (rIx K) (.list ds) (.int i) R := fun H vx vy _ ix iy Q q => by
  cases iy
  cases ix with
  | lst ne hs ia =>
    obtain ⟨v, e, iv⟩ := at_im ia h
    exact .inl ⟨_, _, i, v, rfl, rfl, SqL.of hs, e, q d v H r (Same.refl H) iv⟩
theorem op_catL {ds es : List PyData} (hl : ds.length + es.length ≤ 1000) (r : R (.list (ds ++ es))) : Op K p rCat (.list ds) (.list es) R := fun H vx vy tr ix iy Q q => by
  cases ix with
  | lst n1 s1 i1 =>
    cases iy with
    | lst n2 s2 i2 =>
      refine ⟨_, _, _, _, rfl, rfl, s1, s2, ?_, fun a ha => ?_⟩
      · rw [i1.length, i2.length]; exact Nat.le_trans hl (by decide)
      · exact q _ _ _ r (new_same ha) (.lst (new_ne tr ha) upd_same ((i1.append i2).mono (.of (new_same ha))))
/-! ### built-ins -/
def rLen2 (K : PySem.W.Frag) : List V → Hp → VK → Prop := fun xs H Q => ∃ p ys, xs = [.ref p] ∧ (SqL K H p ys ∨ SqT K H p ys) ∧ Q (.int ys.length) H
theorem cl_lenT {ds : List PyData} (r : R (.int (ds.length : Int))) : Cl K p (rLen2 K) [.tuple ds] R := fun H vs tr ia Q q => by
  cases ia with
  | cons ix it =>
    cases it
    cases ix with
    | tup n h a => exact ⟨_, _, rfl, .inr h, by rw [a.length]; exact q _ _ H r (Same.refl H) (.int _)⟩
theorem cl_lenL {ds : List PyData} (r : R (.int (ds.length : Int))) : Cl K p (rLen2 K) [.list ds] R := fun H vs tr ia Q q => by
  cases ia with
  | cons ix it =>
    cases it
    cases ix with
    | lst n h a => exact ⟨_, _, rfl, .inl (SqL.of h), by rw [a.length]; exact q _ _ H r (Same.refl H) (.int _)⟩
def rTup2 (K : PySem.W.Frag) : List V → Hp → VK → Prop := fun xs H Q => ∃ p ys, xs = [.ref p] ∧ ((SqL K H p ys ∧ ∀ l, H l = none → Q (.ref l) (upd H l (.tup ys))) ∨ (SqT K H p ys ∧ Q (.ref p) H))
theorem cl_tupL {ds : List PyData} (r : R (.tuple ds)) : Cl K p (rTup2 K) [.list ds] R := fun H vs tr ia Q q => by
  cases ia with
  | cons ix it =>
    cases it
    cases ix with
    | lst n h a => exact ⟨_, _, rfl, .inl ⟨SqL.of h, fun l hl => q _ _ _ r (new_same hl) (.tup (.inl (new_ne tr hl)) (SqT.of upd_same) (a.mono (.of (new_same hl))))⟩⟩
def rLst2 (K : PySem.W.Frag) : List V → Hp → VK → Prop := fun xs H Q => ∃ p ys, xs = [.ref p] ∧ (SqL K H p ys ∨ SqT K H p ys) ∧ ∀ l, H l = none → Q (.ref l) (upd H l (.lst ys))
theorem cl_lstT {ds : List PyData} (r : R (.list ds)) : Cl K p (rLst2 K) [.tuple ds] R := fun H vs tr ia Q q => by
  cases ia with
  | cons ix it =>
    cases it
    cases ix with
    | tup n h a => exact ⟨_, _, rfl, .inr h, fun l hl => q _ _ _ r (new_same hl) (.lst (new_ne tr hl) upd_same (a.mono (.of (new_same hl))))⟩
theorem cl_lstL {ds : List PyData} (r : R (.list ds)) : Cl K p (rLst2 K) [.list ds] R := fun H vs tr ia Q q => by
  cases ia with
  | cons ix it =>
    cases it
    cases ix with
    | lst n h a => exact ⟨_, _, rfl, .inl (SqL.of h), fun l hl => q _ _ _ r (new_same hl) (.lst (new_ne tr hl) upd_same (a.mono (.of (new_same hl))))⟩
theorem cl_gcd {a b : Int} (r : R (.int ((Nat.gcd a.natAbs b.natAbs : Nat) : Int))) : Cl K p rGcd [.int a, .int b] R := fun H vs tr ia Q q => by
  cases ia with
  | cons ix it =>
    cases it with
    | cons iy iz =>
      cases iz; cases ix; cases iy
      exact ⟨a, b, rfl, q _ _ H r (Same.refl H) (.int _)⟩
def rAbs2 : List V → Hp → VK → Prop := fun xs H Q => ∃ i, xs = [.int i] ∧ Q (.int (if i < 0 then -i else i)) H
theorem cl_abs {a : Int} (r : R (.int (if a < 0 then -a else a))) : Cl K p rAbs2 [.int a] R := fun H vs tr ia Q q => by
  cases ia with
  | cons ix it =>
    cases it; cases ix
    exact ⟨a, rfl, q _ _ H r (Same.refl H) (.int _)⟩
def rInt2 : List V → Hp → VK → Prop := fun xs H Q => (∃ i, xs = [.int i] ∧ Q (.int i) H) ∨ ∃ k, xs = [.bl k] ∧ Q (.int (if k then 1 else 0)) H
theorem cl_int {a : Int} (r : R (.int a)) : Cl K p rInt2 [.int a] R := fun H vs tr ia Q q => by
  cases ia with
  | cons ix it =>
    cases it; cases ix
    exact .inl ⟨a, rfl, q _ _ H r (Same.refl H) (.int _)⟩
def rMaxI : List V → Hp → VK → Prop := fun xs H Q => ∃ i j, xs = [.int i, .int j] ∧ Q (.int (if j > i then j else i)) H
def rMinI : List V → Hp → VK → Prop := fun xs H Q => ∃ i j, xs = [.int i, .int j] ∧ Q (.int (if j < i then j else i)) H
theorem cl_max {a b : Int} (r : R (.int (if b > a then b else a))) : Cl K p rMaxI [.int a, .int b] R := fun H vs tr ia Q q => by
  cases ia with
  | cons ix it =>
    cases it with
    | cons iy iz =>
      cases iz; cases ix; cases iy
      exact ⟨a, b, rfl, q _ _ H r (Same.refl H) (.int _)⟩
theorem cl_min {a b : Int} (r : R (.int (if b < a then b else a))) : Cl K p rMinI [.int a, .int b] R := fun H vs tr ia Q q => by
  cases ia with
  | cons ix it =>
    cases it with
    | cons iy iz =>
      cases iz; cases ix; cases iy
      exact ⟨a, b, rfl, q _ _ H r (Same.refl H) (.int _)⟩
/-- repr of written-out data -/
def rRepr (K : PySem.W.Frag) : List V → Hp → VK → Prop := fun xs H Q => ∃ x d, xs = [x] ∧ Dp K H x d ∧ PyProof.Rows.isDisplay d = true ∧ d.showable = true ∧ d.hasDict = false ∧ d.depth ≤ 60 ∧ d.shown.length ≤ sizeLine ∧ Q (.str d.shown) H
theorem cl_repr {d : PyData} (h1 : PyProof.Rows.isDisplay d = true) (h2 : d.showable = true) (h3 : d.hasDict = false) (h4 : d.depth ≤ 60) (h5 : d.shown.length ≤ sizeLine) (r : R (.str d.shown)) : Cl K p (rRepr K) [d] R := fun H vs tr ia Q q => by
  cases ia with
  | cons ix it =>
    cases it
    exact ⟨_, d, rfl, ix.dp h3, h1, h2, h3, h4, h5, q _ _ H r (Same.refl H) (.str _)⟩
end
theorem call_repr {X : Cx} (hg : X.A.guards = some []) (hu : X.A.units + 64 < cLine) : CallR X (.builtin "repr") (rRepr X.K) := by
  intro pins s σ H xs us Q I r h
  obtain ⟨x, d, rfl, hd, h1, h2, h3, h4, h5, q⟩ := h
  cases r with
  | cons rx rt =>
    cases rt
    obtain ⟨as, hr⟩ := Dp.reads I d x _ hd rx
    obtain ⟨a, rfl⟩ := PyProof.Rows.isRef_of_reads hr h1
    exact repr_of_reads' hr h2 (PyData.noDict_hsm h3) hg (by omega) (fun _ _ e => e) (fun h' u tk hk => ⟨.str _, H, I.kept hk, ⟨_, rfl⟩, q⟩) h5
end J
namespace J
open PySem L2
section
variable {K : PySem.W.Frag} {p : Option Addr} {g : Gh p} {n : Nat} {Γ : DEnv} {R : PyData → Nat → Prop} {D : DEnds}
/-! ### slices -/
def cutD (ds : List PyData) (lo hi : Option Int) : List PyData := (ds.drop (HT.sIx ds.length 0 lo)).take (HT.sIx ds.length ds.length hi - HT.sIx ds.length 0 lo)
def Eo (K : PySem.W.Frag) {p : Option Addr} (g : Gh p) (to : TO) (Γ : DEnv) (n : Nat) (R : Option Int → Nat → Prop) : Prop := ∀ σ H, EnvOk K g n H σ Γ → ∀ Q : Option Int → Hp → Prop, (∀ o n' H', R o n' → FrP p H H' → g.G n' H' → Q o H') → to σ H Q
theorem eo_none {R : Option Int → Nat → Prop} (r : R none n) : Eo K g tNoPart Γ n R := fun _ H e _ q => q none n H r (.refl H) e.gh
theorem eo_some {te : TE} {R : Option Int → Nat → Prop} (h : Ee K g te Γ n fun d n1 => ∃ i, d = .int i ∧ R (some i) n1) : Eo K g (tPart te) Γ n R := fun σ H e Q q =>
  h σ H e _ fun d n1 v H1 ⟨i, hi, h1⟩ f1 g1 i1 => by
    subst hi
    cases i1
    exact ⟨i, rfl, q _ n1 H1 h1 f1 g1⟩
theorem ee_slT {te : TE} {tl th : TO} (h : Ee K g te Γ n fun d n1 => ∃ ds, d = .tuple ds ∧ Eo K g tl Γ n1 fun lo n2 => Eo K g th Γ n2 fun hi n3 => R (.tuple (cutD ds lo hi)) n3) : Ee K g (tSl (rSlA K) te tl th) Γ n R := fun σ H e Q q => by
  refine h σ H e _ ?_
  rintro d n1 v H1 ⟨ds, rfl, h1⟩ f1 g1 i1
  refine h1 σ H1 (e.mono f1 g1) _ fun lo n2 H2 h2 f2 g2 => ?_
  refine h2 σ H2 (e.mono (f1.trans f2) g2) _ fun hi n3 H3 h3 f3 g3 => ?_
  have f : FrP p H H3 := (f1.trans f2).trans f3
  have i3 := (i1.mono f2).mono f3
  cases i3 with
  | tup ne hs ia =>
    rename_i a xs
    refine ⟨a, xs, rfl, hs, fun w => ?_, fun w b hb => ?_⟩
    · refine q _ n3 _ H3 h3 f g3 (.tup ne hs ?_)
      have e1 : cutD ds lo hi = ds := by
        unfold cutD
        rw [← ia.length, w.1, w.2]
        rw [List.drop_zero, Nat.sub_zero, ia.length, List.take_length]
      rw [e1]; exact ia
    · refine q _ n3 _ _ h3 (f.trans (.of (new_same hb))) (g.st _ _ _ g3 (new_same hb)) (.tup (.inl (new_ne (fun a ea => g.tr n3 H3 a g3 ea) hb)) (SqT.of upd_same) ?_)
      refine ImAll.mono (.of (new_same hb)) ?_
      unfold cutV cutD
      rw [ia.length]
      exact (ia.drop _).take _
/-! ### loops -/
theorem es_forR {ta : TA} {tg : TG} {tb : TS} (h : Ea K g ta Γ n fun ds n1 => ∃ j : Int, ds = [.int j] ∧ -(2 ^ 62) ≤ j ∧ j < 2 ^ 62 ∧ ∃ I : Nat → DEnv → Nat → Prop, I 0 Γ n1 ∧
    (∀ (i : Nat) Γ' n', i < j.toNat → I i Γ' n' → Eg K g tg (.int (i : Int)) Γ' n' fun Γ2 n2 => Es K g tb Γ2 n2 { D with nx := I (i + 1), ct := I (i + 1), bk := D.nx }) ∧ ∀ Γ' n', I j.toNat Γ' n' → D.nx Γ' n') : Es K g (tFor (iRng1 ta) tg tb) Γ n D := fun σ H e E k => by
  refine h σ H e _ ?_
  rintro d n1 v H1 ⟨j, rfl, hj0, hj1, I, h0, hs, hd⟩ f1 g1 i1
  have ev : v = [.int j] := by
    cases i1 with
    | cons a b => cases b; cases a; rfl
  subst ev
  refine ⟨j, rfl, hj0, hj1, fun i m σ2 H2 => m = j.toNat - i ∧ i ≤ j.toNat ∧ ∃ Γ' n', I i Γ' n' ∧ FrP p H1 H2 ∧ EnvOk K g n' H2 σ2 Γ', ⟨j.toNat, by simp, Nat.zero_le _, Γ, n1, h0, .refl H1, e.mono f1 g1⟩, ?_⟩
  rintro i m σ2 H2 ⟨rfl, hi, Γ', n', hI, f2, e2⟩
  by_cases hlt : i < j.toNat
  · refine .inr ⟨hlt, fun σ3 H3 => ∃ Γ' n', I (i + 1) Γ' n' ∧ FrP p H1 H3 ∧ EnvOk K g n' H3 σ3 Γ', fun σ3 H3 w => ⟨j.toNat - (i + 1), by omega, rfl, hlt, w⟩, ?_⟩
    rintro x H3 ⟨rfl, rfl⟩
    have e0 : V.int (0 + (i : Int)) = V.int (i : Int) := by rw [Int.zero_add]
    rw [e0]
    refine hs i Γ' n' hlt hI σ2 _ _ e2 (.int _) _ fun Γ3 n3 σ3 H4 h3 f3 e3 => ?_
    refine h3 σ3 H4 e3 _ ⟨fun Γ4 n4 σ4 H5 a f e => ⟨Γ4, n4, a, (f2.trans f3).trans f, e⟩, fun d n v H' a f c i => k.rt d n v H' a (((f1.trans f2).trans f3).trans f) c i, fun Γ4 n4 σ4 H5 a f e => k.nx Γ4 n4 σ4 H5 a (((f1.trans f2).trans f3).trans f) e, fun Γ4 n4 σ4 H5 a f e => ⟨Γ4, n4, a, (f2.trans f3).trans f, e⟩⟩
  · have ei : i = j.toNat := by omega
    subst ei
    exact .inl ⟨Nat.le_refl _, k.nx Γ' n' σ2 H2 (hd Γ' n' hI) (f1.trans f2) e2⟩
/-! ### comprehensions whose elements hold no list -/
mutual
def noLst : PyData → Bool
  | .list _ | .dict _ => false
  | .tuple xs => noLstAll xs
  | _ => true
def noLstAll : List PyData → Bool
  | [] => true
  | x :: xs => noLst x && noLstAll xs
end
mutual
theorem Im.upd {K : PySem.W.Frag} {p : Option Addr} {H : Hp} {L : Addr} {l l' : List V} (hL : H L = some (.lst l)) : ∀ {v : V} {d : PyData}, Im K p H v d → noLst d = true → Im K p (upd H L (.lst l')) v d
  | _, _, .non, _ => .non
  | _, _, .bl b, _ => .bl b
  | _, _, .int i, _ => .int i
  | _, _, .str x, _ => .str x
  | _, _, .tup (a := a) n h ia, z => .tup n (by
      rcases h with (h | ⟨o, h⟩) | h
      · exact .inl (.inl (by rw [upd_ne (ne_of h hL (by intro z; cases z))]; exact h))
      · exact .inl (.inr ⟨o, by rw [upd_ne (ne_of h hL (by intro z; cases z))]; exact h⟩)
      · exact .inr h) (ImAll.upd hL ia (by simpa [noLst] using z))
  | _, _, .lst _ _ _, z => by simp [noLst] at z
  | _, _, .ty n, z => by simp [noLst, tyD] at z
  | _, _, .cl n, z => by simp [noLst, clD] at z
  | _, _, .well n, z => by simp [noLst, wellD] at z
  | _, _, .emp _ _, z => by simp [noLst, empD] at z
  | _, _, .erk _ _ _ _ _, z => by simp [noLst, erD] at z
  | _, _, .erb _ _, z => by simp [noLst, ebD] at z
  | _, _, .x1 _ _, z => by simp [noLst, x1D] at z
theorem ImAll.upd {K : PySem.W.Frag} {p : Option Addr} {H : Hp} {L : Addr} {l l' : List V} (hL : H L = some (.lst l)) : ∀ {vs : List V} {ds : List PyData}, ImAll K p H vs ds → noLstAll ds = true → ImAll K p (upd H L (.lst l')) vs ds
  | _, _, .nil, _ => .nil
  | _, d :: ds, .cons h t, z => by
    have q : (noLst d && noLstAll ds) = true := by simpa only [noLstAll] using z
    rw [Bool.and_eq_true] at q
    exact .cons (Im.upd hL h q.1) (ImAll.upd hL t q.2)
end
theorem noLstAll_app : ∀ {a b : List PyData}, noLstAll a = true → noLstAll b = true → noLstAll (a ++ b) = true
  | [], _, _, h => h
  | x :: a, b, h, k => by
    have q : (noLst x && noLstAll a) = true := by simpa only [noLstAll] using h
    rw [Bool.and_eq_true] at q
    show noLstAll (x :: (a ++ b)) = true
    simp only [noLstAll, q.1, noLstAll_app q.2 k, Bool.and_true]
/-- the turns of a comprehension over a row of data -/
structure LcI (K : PySem.W.Frag) {p : Option Addr} (g : Gh p) (i : Nat) (tt : TT) (te : TE) (Γ : DEnv) (n : Nat) (ds : List PyData) (R : PyData → Nat → Prop) (I : Nat → List PyData → Nat → Prop) : Prop where
  len : ds.length ≤ 1000
  start : I 0 [] n
  turn : ∀ j x acc n', ds[j]? = some x → I j acc n' → Et K g tt (Γ.set i (some x)) n' fun b n2 => (b = true → Ee K g te (Γ.set i (some x)) n2 fun y n3 => noLst y = true ∧ I (j + 1) (acc ++ [y]) n3) ∧ (b = false → I (j + 1) acc n2)
  fin : ∀ acc n', I ds.length acc n' → R (.list acc) n'
theorem lc_main {i : Nat} {tt : TT} {te : TE} {ds : List PyData} {xs : List V} {I : Nat → List PyData → Nat → Prop} {σ : St} {H1 : Hp} {Q : VK} {J : It} {L : Addr} (C : LcI K g i tt te Γ n ds R I) (e : EnvOk K g n H1 σ Γ) (ia : ImAll K p H1 xs ds) (hL : H1 L = none)
    (jg : ∀ j H2, FrP p H1 H2 → j < xs.length → J.go j H2) (jy : ∀ j H2 x H3, FrP p H1 H2 → J.yld j H2 x H3 → H3 = H2 ∧ xs[j]? = some x) (js : ∀ H2, FrP p H1 H2 → J.stop xs.length H2)
    (q : ∀ d n' v H', R d n' → FrP p H1 H' → g.G n' H' → Im K p H' v d → Q v H') :
    ∃ W : Nat → Nat → Hp → Prop, (∃ m, W 0 m (upd H1 L (.lst []))) ∧ ∀ j m H, W j m H →
      (J.stop j H ∧ Q (.ref L) H) ∨ (J.go j H ∧ ∃ Nx : Hp → Prop, (∀ H', Nx H' → ∃ m', m' < m ∧ W (j + 1) m' H') ∧ ∀ x H', J.yld j H x H' → gName i x (wipe σ [i]) H' fun σ2 H2 => wipe σ2 [i] = wipe σ [i] ∧ tt σ2 H2 fun b H3 =>
        if b = true then te σ2 H3 fun y H4 => ∃ acc, H4 L = some (.lst acc) ∧ acc.length < sizeLine ∧ Nx (upd H4 L (.lst (acc ++ [y]))) else Nx H3) := by
  have hl := ia.length
  have pL : p ≠ some L := new_ne (fun a ea => g.tr n H1 a e.gh ea) hL
  let W : Nat → Nat → Hp → Prop := fun j m H2 => m = xs.length - j ∧ j ≤ xs.length ∧ ∃ accV acc n', H2 L = some (.lst accV) ∧ acc.length ≤ j ∧ noLstAll acc = true ∧ ImAll K p H2 accV acc ∧ I j acc n' ∧ FrP p H1 H2 ∧ g.G n' H2
  refine ⟨W, ⟨xs.length, by simp, Nat.zero_le _, [], [], n, upd_same, Nat.le_refl _, rfl, .nil, C.start, .of (new_same hL), g.st _ _ _ e.gh (new_same hL)⟩, ?_⟩
  rintro j m H2 ⟨rfl, hj, accV, acc, n', hH2, ha, hn, iacc, hI, f2, g2⟩
  by_cases hlt : j < xs.length
  · refine .inr ⟨jg j H2 f2 hlt, fun H' => W (j + 1) (xs.length - (j + 1)) H', fun H' w => ⟨xs.length - (j + 1), by omega, w⟩, ?_⟩
    intro x H3 hy
    obtain ⟨rfl, hx⟩ := jy j H2 x H3 f2 hy
    obtain ⟨dx, hdx, idx⟩ := (ia.mono f2).getV hx
    have e3 : EnvOk K g n' H3 ((wipe σ [i]).set i (some x)) (Γ.set i (some dx)) := by
      have e4 : EnvOk K g n' H3 ((σ.set i none).set i (some x)) ((Γ.set i none).set i (some dx)) := ((e.mono f2 g2).wipe1 (i := i)).set idx
      rw [List.set_set, List.set_set] at e4
      show EnvOk K g n' H3 ((σ.set i none).set i (some x)) (Γ.set i (some dx))
      rw [List.set_set]
      exact e4
    refine ⟨?_, ?_⟩
    · show (((σ.set i none).set i (some x)).set i none) = σ.set i none
      rw [List.set_set, List.set_set]
    · refine C.turn j dx acc n' hdx hI _ H3 e3 _ fun b n2 H4 h4 f4 g4 => ?_
      have hH4 : H4 L = some (.lst accV) := f4 _ _ pL hH2
      cases b with
      | false => exact ⟨rfl, hlt, accV, acc, n2, hH4, by omega, hn, iacc.mono f4, h4.2 rfl, f2.trans f4, g4⟩
      | true =>
        refine (h4.1 rfl) _ H4 (e3.mono f4 g4) _ fun y n3 vy H5 h5 f5 g5 i5 => ?_
        have hH5 : H5 L = some (.lst accV) := f5 _ _ pL hH4
        have hlen : accV.length = acc.length := iacc.length
        refine ⟨accV, hH5, ?_, ?_⟩
        · have h1 := C.len
          have : accV.length < 1001 := by omega
          exact Nat.lt_of_lt_of_le this (by decide)
        · refine ⟨rfl, hlt, accV ++ [vy], acc ++ [y], n3, upd_same, by rw [List.length_append]; show acc.length + 1 ≤ j + 1; omega, noLstAll_app hn (by simp only [noLstAll, h5.1, Bool.and_true]), ?_, h5.2, ?_, g.nw n n3 H1 H5 L _ e.gh hL g5⟩
          · exact ImAll.append (ImAll.upd hH5 ((iacc.mono f4).mono f5) hn) (.cons (Im.upd hH5 i5 h5.1) .nil)
          · intro b o nb hb
            rw [upd_ne (ne_of_none hb hL)]
            exact ((f2.trans f4).trans f5) b o nb hb
  · have ej : j = xs.length := by omega
    subst ej
    exact .inl ⟨js H2 f2, q _ n' _ H2 (C.fin acc n' (by rw [← hl]; exact hI)) f2 g2 (.lst pL hH2 iacc)⟩
theorem ee_lcL {i : Nat} {tx te : TE} {tt : TT} (h : Ee K g tx Γ n fun d n1 => ∃ ds, d = .list ds ∧ ∃ I, LcI K g i tt te Γ n1 ds R I) : Ee K g (tLc (iList K tx) (gName i) tt te [i]) Γ n R := fun σ H e Q q => by
  refine h σ H e _ ?_
  rintro d n1 v H1 ⟨ds, rfl, I, C⟩ f1 g1 i1
  cases i1 with
  | lst ne hT ia =>
    rename_i a xs
    refine ⟨a, rfl, ⟨xs, SqL.of hT⟩, fun L hL => lc_main C (e.mono f1 g1) ia hL (fun j H2 f hj => ⟨xs, xs[j], SqL.of (f _ _ ne hT), by simp [hj]⟩) (fun j H2 x H3 f y => ⟨y.1, y.2 xs (SqL.of (f _ _ ne hT))⟩) (fun H2 f => ⟨xs, SqL.of (f _ _ ne hT), Nat.le_refl _⟩) fun d n' v H' a f c i => q d n' v H' a (f1.trans f) c i⟩
theorem et_yes {R : Bool → Nat → Prop} (r : R true n) : Et K g tYes Γ n R := fun σ H e Q q => q true n H r (.refl H) e.gh
end
end J
namespace J
open PySem PySem.Spec PyProof.Rows L2
/-! ### ghosts -/
def gP (p : Option Addr) (H0 : Hp) (tr : ∀ a, p = some a → H0 a ≠ none) : Gh p where
  G := fun _ H => Same H0 H
  st := fun _ _ _ a b => a.trans b
  tr := fun _ H a s e => by
    cases q : H0 a with
    | none => exact absurd q (tr a e)
    | some o => rw [s a o q]; exact fun z => by cases z
  nw := fun _ _ H H1 D o s hD s1 b u hb => by
    have ne : b ≠ D := fun z => by subst z; rw [s b u hb] at hD; cases hD
    rw [upd_ne ne]
    exact s1 b u hb
def WellAt (H : Hp) (a : Addr) (n : Nat) : Prop := ∃ x y z : Int, H a = some (.lst [.int x, .int y, .int z]) ∧ 0 ≤ x ∧ 0 ≤ y ∧ y < 2147483587 ∧ 0 ≤ z ∧ z ≤ n
theorem WellAt.le {H : Hp} {a : Addr} {n m : Nat} (h : n ≤ m) : WellAt H a n → WellAt H a m := fun ⟨x, y, z, e, h1, h2, h3, h4, h5⟩ => ⟨x, y, z, e, h1, h2, h3, h4, by omega⟩
theorem WellAt.same {H H' : Hp} {a : Addr} {n : Nat} (s : Same H H') : WellAt H a n → WellAt H' a n := fun ⟨x, y, z, e, h⟩ => ⟨x, y, z, s _ _ e, h⟩
def gW (a : Addr) (H0 : Hp) : Gh (some a) where
  G := fun n H => FrP (some a) H0 H ∧ WellAt H a n
  st := fun _ _ _ ⟨h, k⟩ s => ⟨h.trans (.of s), k.same s⟩
  tr := fun _ H b ⟨_, x, y, z, e, _⟩ q => by cases q; rw [e]; exact fun z => by cases z
  nw := fun _ _ H H1 D o ⟨s, x, y, z, e, _⟩ hD ⟨s1, x1, y1, z1, e1, r1⟩ => by
    have na : a ≠ D := fun q => by subst q; rw [e] at hD; cases hD
    refine ⟨fun b u nb hb => ?_, x1, y1, z1, by rw [upd_ne na]; exact e1, r1⟩
    have ne : b ≠ D := fun q => by subst q; rw [s b u nb hb] at hD; cases hD
    rw [upd_ne ne]
    exact s1 b u nb hb
/-! ### promises -/
/-- a def that changes nothing: F arguments result -/
def spP (K : PySem.W.Frag) (m : Nat) (F : List PyData → PyData → Prop) : Sp := fun vs H Q _ => ∃ (p : Option Addr) (ds : List PyData) (d : PyData), (∀ a, p = some a → H a ≠ none) ∧ ds.length = m ∧ ImAll K p H vs ds ∧ F ds d ∧ ∀ v H', Same H H' → Im K p H' v d → Q v H'
/-- a def that draws: its first argument is the well; at most c draws -/
def spW (K : PySem.W.Frag) (m c : Nat) (Pre : List PyData → Prop) (P : List PyData → PyData → Prop) : Sp := fun vs H Q _ => ∃ (a : Addr) (n : Nat) (ds : List PyData), n + c ≤ 1000000 ∧ WellAt H a n ∧ ds.length + 1 = m ∧ ImAll K (some a) H vs (wellD :: ds) ∧ Pre ds ∧
  ∀ d v H', P ds d → FrP (some a) H H' → WellAt H' a (n + c) → Im K (some a) H' v d → Q v H'
theorem spP_len {K : PySem.W.Frag} {m : Nat} {F : List PyData → PyData → Prop} {ps : List Str} (h : ps.length = m) : ∀ vs H Q E, spP K m F vs H Q E → vs.length = ps.length := fun vs H Q E ⟨p, ds, d, _, hl, ia, _⟩ => by rw [ia.length, hl, h]
theorem spW_len {K : PySem.W.Frag} {m c : Nat} {Pre : List PyData → Prop} {P : List PyData → PyData → Prop} {ps : List Str} (h : ps.length = m) : ∀ vs H Q E, spW K m c Pre P vs H Q E → vs.length = ps.length := fun vs H Q E ⟨a, n, ds, _, _, hl, ia, _⟩ => by
  rw [ia.length, h, List.length_cons, hl]
section
variable {K : PySem.W.Frag} {p : Option Addr} {g : Gh p} {n : Nat} {Γ : DEnv} {R : PyData → Nat → Prop}
theorem ee_call {m : Nat} {F : List PyData → PyData → Prop} {E : XK} {t : TA} (h : Ea K g t Γ n fun ds n1 => ds.length = m ∧ ∃ d, F ds d ∧ R d n1) : Ee K g (tCall (spP K m F) [] E t) Γ n R := fun σ H e Q q => by
  refine h σ H e _ fun ds n1 vs H1 ⟨hl, d, hF, hR⟩ f1 g1 i1 => ?_
  show spP K m F (vs ++ []) H1 Q E
  rw [List.append_nil]
  exact ⟨p, ds, d, fun a ea => g.tr n1 H1 a g1 ea, hl, i1, hF, fun v H' s i => q d n1 v H' hR (f1.trans (.of s)) (g.st _ _ _ g1 s) i⟩
theorem ee_callW {a : Addr} {H0 : Hp} {m c : Nat} {Pre : List PyData → Prop} {P : List PyData → PyData → Prop} {E : XK} {t : TA}
    (h : Ea K (gW a H0) t Γ n fun ds n1 => ∃ rest, ds = wellD :: rest ∧ rest.length + 1 = m ∧ n1 + c ≤ 1000000 ∧ Pre rest ∧ ∀ d, P rest d → R d (n1 + c)) : Ee K (gW a H0) (tCall (spW K m c Pre P) [] E t) Γ n R := fun σ H e Q q => by
  refine h σ H e _ fun ds n1 vs H1 ⟨rest, hd, hl, hc, hp, hR⟩ f1 g1 i1 => ?_
  subst hd
  show spW K m c Pre P (vs ++ []) H1 Q E
  rw [List.append_nil]
  exact ⟨a, n1, rest, hc, g1.2, hl, i1, hp, fun d v H' hd f w i => q d _ v H' (hR d hd) (f1.trans f) ⟨g1.1.trans f, w⟩ i⟩
/-- keywords: the values by their places among what is written -/
def pickL {α : Type} (idx : List Nat) (xs : List α) : List α := idx.filterMap fun i => xs[i]?
theorem pick_vals {vs : List V} {us : List Value} (h : Vals vs us) : ∀ idx : List Nat, Vals (pickL idx vs) (pickL idx us)
  | [] => .nil
  | i :: idx => by
    unfold pickL
    cases e : vs[i]? with
    | some d =>
      obtain ⟨v, e1, iv⟩ := h.get e
      rw [List.filterMap_cons_some e1, List.filterMap_cons_some e]
      exact .cons iv (pick_vals h idx)
    | none =>
      have e1 := h.none_of e
      rw [List.filterMap_cons_none e1, List.filterMap_cons_none e]
      exact pick_vals h idx
def kwV (idx : List Nat) {α : Type} (xs ys : List α) : List α := pickL idx (xs ++ ys)
end
theorem kbn_of {K : PySem.W.Frag} {fd : FuncData} {ps ks : List Str} {k : Nat} {idx : List Nat} (h : ∀ us ws : List Value, us.length = k → ws.length = ks.length → bindArgs fd ⟨us, ks.zip ws⟩ = pure (ps.zip (kwV idx us ws))) : KBn K fd ps k ks (kwV idx) (kwV idx) :=
  ⟨fun s us ws _ h1 h2 => .of_eq (h us ws h1 h2), fun r1 r2 => pick_vals (r1.append r2) idx⟩
/-! ### a def's body over data -/
def startD (N : List Str) (ds : List PyData) : DEnv := ds.map some ++ List.replicate (N.length - ds.length) none
theorem start_ok {K : PySem.W.Frag} {p : Option Addr} {g : Gh p} {n : Nat} {N : List Str} {H : Hp} {vs : List V} {ds : List PyData} (ia : ImAll K p H vs ds) (h : g.G n H) : EnvOk K g n H (L2.start N vs) (startD N ds) := by
  refine ⟨h, ?_, fun i d q => ?_⟩
  · unfold L2.start startD
    rw [List.length_append, List.length_append, List.length_map, List.length_map, List.length_replicate, List.length_replicate, ia.length]
  · unfold startD at q
    unfold L2.start
    by_cases hi : i < ds.length
    · rw [List.getElem?_append_left (by rw [List.length_map]; exact hi), List.getElem?_map] at q
      cases e : ds[i]? with
      | none => rw [e] at q; cases q
      | some d' =>
        rw [e] at q
        cases q
        obtain ⟨v, e1, iv⟩ := ia.get e
        exact ⟨v, by rw [List.getElem?_append_left (by rw [List.length_map, ia.length]; exact hi), List.getElem?_map, e1]; rfl, iv⟩
    · rw [List.getElem?_append_right (by rw [List.length_map]; omega)] at q
      have := List.mem_of_getElem? q
      rw [List.mem_replicate] at this
      cases this.2
theorem run_P {K : PySem.W.Frag} {m : Nat} {F : List PyData → PyData → Prop} {N : List Str} {vs : List V} {H : Hp} {Q : VK} {E : XK} {t : TS} (h : spP K m F vs H Q E)
    (hb : ∀ (p : Option Addr) (g : Gh p) (ds : List PyData) (d : PyData), ds.length = m → F ds d → Es K g t (startD N ds) 0 { nx := fun _ _ => d = .none, rt := fun d' _ => d' = d }) : t { nx := fun _ H' => Q .non H', rt := Q } (L2.start N vs) H := by
  obtain ⟨p, ds, d, tr, hl, ia, hF, k⟩ := h
  refine hb p (gP p H tr) ds d hl hF (L2.start N vs) H (start_ok ia (Same.refl H)) _ ⟨fun Γ n σ H' e _ e2 => ?_, fun d' n v H' e f s i => ?_, fun _ _ _ _ z => z.elim, fun _ _ _ _ z => z.elim⟩
  · subst e
    exact k _ H' e2.gh .non
  · subst e
    exact k v H' s i
theorem run_W {K : PySem.W.Frag} {m c : Nat} {Pre : List PyData → Prop} {P : List PyData → PyData → Prop} {N : List Str} {vs : List V} {H : Hp} {Q : VK} {E : XK} {t : TS} (h : spW K m c Pre P vs H Q E)
    (hb : ∀ (a : Addr) (H0 : Hp) (n : Nat) (ds : List PyData), n + c ≤ 1000000 → ds.length + 1 = m → Pre ds → Es K (gW a H0) t (startD N (wellD :: ds)) n { nx := fun _ _ => False, rt := fun d' n' => P ds d' ∧ n' ≤ n + c }) : t { nx := fun _ H' => Q .non H', rt := Q } (L2.start N vs) H := by
  obtain ⟨a, n, ds, hc, hw, hl, ia, hp, k⟩ := h
  refine hb a H n ds hc hl hp (L2.start N vs) H (start_ok ia ⟨.refl H, hw⟩) _ ⟨fun Γ n σ H' e _ e2 => e.elim, fun d' n v H' e f s i => ?_, fun _ _ _ _ z => z.elim, fun _ _ _ _ z => z.elim⟩
  exact k d' v H' e.1 s.1 (s.2.le e.2) i
/-! ### defs that know that nothing is being written out around them -/
structure FnG (P : Program) (w : World) (K : PySem.W.Frag) (mg : Str → Option Value) (base : Heap) (k : Nat) (f : Addr) (fd : FuncData) (ps : List Str) (sp : Sp) : Prop where
  len : ∀ vs H Q E, sp vs H Q E → vs.length = ps.length
  run : ∀ (A : Around) (outer : List Env) (s : Shared) (H : Hp) (args : Args) (us : List Value) (vs : List V) (Q : VK) (E : XK), A.guards = some [] → Room k A → Env0 P w K mg base A outer s H → BindsTo s fd args (ps.zip us) → Vals vs us → sp vs H Q E →
    codeAny (model P w) A (.call (.ref f) args) (CR CX0 outer P w H s Q E) s
theorem FnG.mono {P : Program} {w : World} {K : PySem.W.Frag} {mg : Str → Option Value} {base : Heap} {j k : Nat} {f : Addr} {fd : FuncData} {ps : List Str} {sp : Sp} (F : FnG P w K mg base j f fd ps sp) (h : j ≤ k) : FnG P w K mg base k f fd ps sp :=
  ⟨F.len, fun A outer s H args us vs Q E hg hr => F.run A outer s H args us vs Q E hg (hr.mono h)⟩
theorem okG {P : Program} {w : World} {K : PySem.W.Frag} {mg : Str → Option Value} {base : Heap} {x qual : Str} {st : Stmt} {f : Addr} {fd : FuncData} {N ps : List Str} {k : Nat} {sp : Sp} (F : Fun K x qual st f fd) (S : FnScope N ps (defScope st)) (len : ∀ vs H Q E, sp vs H Q E → vs.length = ps.length)
    (hbody : ∀ (cdv : Value) (A : Around) (outer : List Env) (s : Shared) (H : Hp) (vs : List V) (Q : VK) (E : XK), (A.deeper (envOfC qual (defScope st) s.heap.objs.size f cdv)).guards = some [] → Room k (A.deeper (envOfC qual (defScope st) s.heap.objs.size f cdv)) → sp vs H Q E →
      ∃ t, PSs (cxOf CX0 P w K mg base N qual (defScope st) f cdv A outer s H E).nox (defBody st) t ∧ t { nx := fun _ H' => Q .non H', rt := Q } (L2.start N vs) H) : FnG P w K mg base (k + 1) f fd ps sp := by
  obtain ⟨oc, od, kV, doc, pm, an, cdv, ct, osl, rfl, lk, hcd⟩ := F.ex
  refine ⟨len, fun A outer s H args us vs Q E hA hr e0 hb r hsp => ?_⟩
  have hlen := len _ _ _ _ hsp
  have kin : K.In s.heap := e0.mod.kin.keeps fun b o e => (e0.bs b o e).1
  have nol : s.heap.NoLimit := e0.mod.nolimit.keeps fun b o e => (e0.bs b o e).1
  have kinds : ∀ y ∈ ps.zip us, (defScope st).names.lookup y.1 = some .local ∨ ((defScope st).names.lookup y.1 = some .cell ∧ ((cellsFrom (s.heap.objs.size + 1) (defScope st).names []).lookup y.1).isSome = true) := by
    rintro ⟨y, v⟩ hy
    rcases S.par y (List.of_mem_zip hy).1 with q | q
    · exact .inl q
    · exact .inr ⟨q, PySem.W.cellsFrom_some _ _ _ (.inl q)⟩
  refine codeAny_call_function hr.depth (kin _ _ lk) rfl S.co S.gen rfl (PySem.W.codeRec_of kin hcd) (hb _ _ _ _ ?_)
  refine wpAny_newFunctionEnv_cells S.kind kinds fun env he s1 xx => ?_
  subst he
  refine ⟨nol.keeps xx.toInCall.keep, codeAny_func ?_⟩
  obtain ⟨t, ht, hq⟩ := hbody cdv A outer s H vs Q E hA (hr.deeper _) hsp
  have I : Inv (cxOf CX0 P w K mg base N qual (defScope st) f cdv A outer s H E) [] (L2.start N vs) H s1 := inv_start S hr.hd e0 hlen r xx
  refine wpAny_mono (ht.nox.run [] s1 (L2.start N vs) H _ I hq) (fun fl s' hs => ?_) fun e s' hs => hs
  cases fl with
  | ret u =>
    obtain ⟨v, σ', H', J, rv, q⟩ := hs
    exact ⟨v, H', J.os, J.bare, J.base, J.hok, rv, q⟩
  | next =>
    obtain ⟨σ', H', J, q⟩ := hs
    exact ⟨V.non, H', J.os, J.bare, J.base, J.hok, rfl, q⟩
  | brk =>
    obtain ⟨_, _, _, q⟩ := hs
    exact q.elim
  | cont =>
    obtain ⟨_, _, _, q⟩ := hs
    exact q.elim
theorem pe_callG {X : Cx} {k : Nat} {f : Addr} {fd : FuncData} {ps : List Str} {sp : Sp} {E : XK} {x : Str} {p pos : Pos} {e : Expr} {es : List Expr} {t : TA} (F : FnG X.prog X.w X.K X.mg X.base k f fd ps sp) (hA : X.A.guards = some []) (hr : Room k X.A) (hg : Gl X x) (hm : X.mg x = some (.ref f)) (hk : PySem.W.keepIn X.K (.ref f) = true) (hb : Binds X.K fd ps [])
    (ha : PA X (e :: es) t) (hdb : (x == ("__debug__" : Str)) = false := by decide) (he : starEach (e :: es) X.env = (false, eval e X.env) :: starEach es X.env := by rfl) (hpl : (backTo pos (starEach es X.env)).any (·.1) = false := by rfl) :
    PE X (.Call (.Name x p) (e :: es) [] pos) (tCall sp [] E t) := by
  refine ⟨fun pins s σ H Q I h => ?_⟩
  refine wpAny_Call_Name_kw (ld_glob I hg hm ?_ hdb)
  refine PySem.W.callWith_K (h₀ := X.base) I.ok.mod.kin hk (thn (ha.run pos pins s σ H _ I h) fun us s1 ⟨vs, H1, I1, r, q⟩ => ⟨I1.kIn, ?_⟩) he hpl
  have q' : sp vs H1 Q E := by
    have q0 : sp (vs ++ []) H1 Q E := q
    rw [List.append_nil] at q0
    exact q0
  have hl : us.length = ps.length := by rw [← r.length]; exact F.len _ _ _ _ q'
  have hb' := hb s1 us I1.kIn (by rw [List.append_nil]; exact hl)
  rw [List.append_nil] at hb'
  refine wpAny_call (codeAny_mono (F.run X.A X.stack s1 H1 ⟨us, []⟩ us vs Q E hA hr I1.env0 hb' r q') fun res s' hq => ?_)
  cases res with
  | error er => exact hq.elim
  | ok fl =>
    cases fl with
    | ret u => exact I1.after hq
    | next => exact hq.elim
    | brk => exact hq.elim
    | cont => exact hq.elim
/-- the script, as the law's def gets it -/
def spLaw (K : PySem.W.Frag) : Sp := fun vs H Q _ => ∃ (a : Addr) (ns : List Int), vs = [.ref a] ∧ SqL K H a (ns.map V.int) ∧ ns.length ≤ 63 ∧ ∀ H', Q (.bl true) H'
theorem law_callG {P : Program} {w : World} {K : PySem.W.Frag} {mg mb : Str → Option Value} {k : Nat} {fa a : Addr} {fd : FuncData} {x : Str} {s1 : Shared} {vs : List Value} {ns : List Int}
    (kin : K.In s1.heap) (hns : s1.heap.Ns mainGlobals mg) (hbn : s1.heap.Ns builtinsNs mb) (hbb : ∀ x : Str, x ≠ "__name__" → mb x = bootBuiltins x) (nol : s1.heap.NoLimit) (hgen : s1.gens = #[])
    (hob : s1.heap.get? a = some { cls := .type "list", data := .seq vs.toArray }) (hints : IntsAre vs ns) (hlen : ns.length ≤ 63) (hroom : Room k callerA)
    (F : ∀ base : Heap, K.In base → base.Ns mainGlobals mg → FnG P w K mg base k fa fd [x] (spLaw K)) (hbind : ∀ (s : Shared) (u : Value), BindsTo s fd ⟨[u], []⟩ [(x, u)]) :
    codeAny (model P w) callerA (.call (.ref fa) ⟨[.ref a], []⟩) (fun r s' => r = .ok (.ret (.bool true)) ∧ OldK s1.heap s'.heap ∧ s'.os = s1.os ∧ AllBare s'.gens) s1 := by
  have lenV := hints.length
  have hsz : ns.length ≤ sizeLine := Nat.le_trans hlen (by decide)
  have main : ∀ T : Hp, Only T → SqL K T a (ns.map V.int) → HOk P w T s1.heap → (∀ b, T b ≠ none → b = a) → (T a ≠ none → K.lookup a = none) →
      codeAny (model P w) callerA (.call (.ref fa) ⟨[.ref a], []⟩) (fun r s' => r = .ok (.ret (.bool true)) ∧ OldK s1.heap s'.heap ∧ s'.os = s1.os ∧ AllBare s'.gens) s1 := by
    intro T only sq tok tA tK
    have dictFree : ∀ {b : Addr} {o : Obj} {es : Array DictEntry} {ep : Nat}, s1.heap.get? b = some o → o.data = .dict es ep → T b = none := by
      intro b o es ep he hd
      cases ht : T b with
      | none => rfl
      | some u =>
        obtain rfl : b = a := tA b (by rw [ht]; exact fun z => by cases z)
        rw [hob] at he
        cases he
        cases hd
    have nsT : ∀ {b : Addr} {m : Str → Option Value}, s1.heap.Ns b m → (hidT s1.heap T).Ns b m := by
      rintro b m ⟨o, es, ep, he, hd, hr⟩
      exact ⟨o, es, ep, hidT_get he (dictFree he hd), hd, hr⟩
    have kinT : K.In (hidT s1.heap T) := by
      intro b o hk
      refine hidT_get (kin b o hk) ?_
      cases ht : T b with
      | none => rfl
      | some u =>
        obtain rfl : b = a := tA b (by rw [ht]; exact fun z => by cases z)
        rw [tK (by rw [ht]; exact fun z => by cases z)] at hk
        cases hk
    have modT : Mod K mg (hidT s1.heap T) := ⟨kinT, nsT hns, ⟨mb, nsT hbn, hbb⟩, by obtain ⟨mc, l1, l2⟩ := nol; exact ⟨mc, nsT l1, l2⟩⟩
    have env : Env0 P w K mg (hidT s1.heap T) callerA [] s1 T :=
      ⟨rfl, modT, fun b o he => of_hidT he, Nat.le_of_eq (hidT_size _ _), trivial, fun b hb => absurd (show b ∈ ([] : List Addr) from hb) (by simp), tok, .of_eq hgen⟩
    refine codeAny_mono ((F _ kinT (nsT hns)).run callerA [] s1 T ⟨[.ref a], []⟩ [.ref a] [.ref a] (fun v _ => v = .bl true) (fun _ _ _ => False) rfl hroom env (hbind s1 (.ref a)) (.cons rfl .nil) ⟨a, ns, rfl, sq, hlen, fun _ => rfl⟩) ?_
    intro r s' h
    cases r with
    | error e => exact h.elim
    | ok fl =>
      cases fl with
      | next => exact h.elim
      | brk => exact h.elim
      | cont => exact h.elim
      | ret u =>
        obtain ⟨v, T', os, bare, un, tok', rv, hv⟩ := h
        obtain rfl : v = V.bl true := hv
        obtain rfl : u = Value.bool true := rv
        refine ⟨rfl, OldK.of_keep fun b o he => ?_, os, bare⟩
        rcases only b with ht | ⟨ob, xs, ht⟩
        · exact un.keep b o he ht (fun z => by cases z) (fun z => by cases z)
        · have e1 := (tok b _ ht).1
          have e2 := (tok' b _ (un.frzs b ob _ ht)).1
          rw [he] at e1
          cases e1
          exact e2
  by_cases hk : K.lookup a = none
  · let T : Hp := fun b => if b = a then some (.frz { cls := .type "list", data := .seq vs.toArray } (.lst (ns.map V.int))) else none
    have Ta : T a = some (.frz { cls := .type "list", data := .seq vs.toArray } (.lst (ns.map V.int))) := if_pos rfl
    have Tn : ∀ b, b ≠ a → T b = none := fun b hb => if_neg hb
    refine main T (fun b => ?_) (.inl (.inr ⟨_, Ta⟩)) (fun b u hb => ?_) (fun b hb => ?_) fun _ => hk
    · by_cases e : b = a
      · subst e; exact .inr ⟨_, _, Ta⟩
      · exact .inl (Tn b e)
    · by_cases e : b = a
      · subst e
        rw [Ta] at hb
        cases hb
        exact ⟨hob, by rw [List.length_map]; exact hsz, vs, _, vals_ints hints, hob⟩
      · rw [Tn b e] at hb; cases hb
    · by_cases e : b = a
      · exact e
      · exact absurd (Tn b e) hb
  · cases hl : K.lookup a with
    | none => exact absurd hl hk
    | some o =>
      have e := kin a o hl
      rw [hob] at e
      cases e
      exact main (fun _ => none) (fun _ => .inl rfl) (.inr ⟨_, vs.toArray, _, hl, rfl, rfl, rfl, by rw [List.size_toArray, lenV]; exact hsz, by simpa using vals_ints hints⟩) (fun b u z => by cases z) (fun b z => absurd rfl z) fun z => absurd rfl z
end J
namespace J
open PySem PySem.Spec PyProof.Rows L2
/-! ### short names of the rules, the written part told -/
section
variable {X : Cx} {K : PySem.W.Frag}
theorem cr_len (h : X.K = K) : CallR X (.builtin "len") (rLen2 K) := by subst h; exact call_len_seq
theorem cr_abs : CallR X (.builtin "abs") rAbs2 := call_abs
theorem cr_int : CallR X (.type "int") rInt2 := call_int1
theorem ixK (h : X.K = K) : IxR X (rIx K) := by subst h; exact ix_seq
theorem slLK (h : X.K = K) : SlR X (rSlL K) := by subst h; exact sl_list
theorem neDK (h : X.K = K) (hu : X.A.units + 64 < cLine) : OpR X (compareOp .NotEq) (rNeD K) := by subst h; exact L2.op_neD hu
theorem piL (h : X.K = K) {tg l : Expr} {tl : TE} (hl : PE X l tl) : PI X tg l (iList K tl) := by subst h; exact pi_list hl
theorem pgTK (h : X.K = K) {tg : Expr} {n : Nat} {t : TGs} (hb : PG X tg (gTup X.K n t)) : PG X tg (gTup K n t) := by subst h; exact hb
end
/-- a def of the text, its promise kept -/
structure Cal (P : Program) (w : World) (K : PySem.W.Frag) (mg : Str → Option Value) (base : Heap) (x : Str) (st : Stmt) (k : Nat) (f : Addr) (fd : FuncData) (ps : List Str) (sp : Sp) : Prop where
  F : FnOk P w K mg base CX0 k f fd ps sp
  mg : mg x = some (.ref f)
  kp : PySem.W.keepIn K (.ref f) = true
  b : Binds K fd ps []
  fn : Fun K x x st f fd
structure CalG (P : Program) (w : World) (K : PySem.W.Frag) (mg : Str → Option Value) (base : Heap) (x : Str) (st : Stmt) (k : Nat) (f : Addr) (fd : FuncData) (ps : List Str) (sp : Sp) : Prop where
  F : FnG P w K mg base k f fd ps sp
  mg : mg x = some (.ref f)
  kp : PySem.W.keepIn K (.ref f) = true
  b : Binds K fd ps []
/-- a def as the top has left it -/
structure Raw (K : PySem.W.Frag) (mg : Str → Option Value) (x : Str) (st : Stmt) (f : Addr) (fd : FuncData) : Prop where
  mg : mg x = some (.ref f)
  fn : Fun K x x st f fd
/-- the built-in names that the text leaves alone -/
structure Blt (mg : Str → Option Value) : Prop where
  bStr : mg "str" = none
  bInt : mg "int" = none
  bBool : mg "bool" = none
  bTuple : mg "tuple" = none
  bList : mg "list" = none
  bLen : mg "len" = none
  bAbs : mg "abs" = none
  bMin : mg "min" = none
  bMax : mg "max" = none
  bAll : mg "all" = none
  bRange : mg "range" = none
  bIsi : mg "isinstance" = none
  bRepr : mg "repr" = none
  bDivmod : mg "divmod" = none
section
variable {K : PySem.W.Frag} {p : Option Addr} {g : Gh p} {n : Nat} {Γ : DEnv} {R : PyData → Nat → Prop} {D : DEnds} {Ro : PyData → Prop}
theorem es_par {i j : Nat} {ta : TA} (h : Ea K g ta Γ n fun ds n1 => ∃ d e, ds = [d, e] ∧ D.nx ((Γ.set i (some d)).set j (some e)) n1) : Es K g (tPar i j ta) Γ n D := fun σ H e E k => by
  refine h σ H e _ ?_
  rintro ds n1 vs H1 ⟨d, d2, rfl, h1⟩ f1 g1 i1
  cases i1 with
  | cons a b =>
    cases b with
    | cons b c =>
      cases c
      exact ⟨_, _, rfl, k.nx _ n1 _ H1 h1 f1 (((e.mono f1 g1).set a).set b)⟩
theorem es_par3 {i j l : Nat} {ta : TA} (h : Ea K g ta Γ n fun ds n1 => ∃ d e f, ds = [d, e, f] ∧ D.nx (((Γ.set i (some d)).set j (some e)).set l (some f)) n1) : Es K g (tPar3 i j l ta) Γ n D := fun σ H e E k => by
  refine h σ H e _ ?_
  rintro ds n1 vs H1 ⟨d, d2, d3, rfl, h1⟩ f1 g1 i1
  cases i1 with
  | cons a b =>
    cases b with
    | cons b c =>
      cases c with
      | cons c c2 =>
        cases c2
        exact ⟨_, _, _, rfl, k.nx _ n1 _ H1 h1 f1 ((((e.mono f1 g1).set a).set b).set c)⟩
theorem op_ix0 {d : PyData} {ds : List PyData} (r : Ro d) : Op K p (rIx K) (.tuple (d :: ds)) (.int 0) Ro := op_ixT (atI_nat (j := 0) rfl) r
theorem op_ix1 {a d : PyData} {ds : List PyData} (r : Ro d) : Op K p (rIx K) (.tuple (a :: d :: ds)) (.int 1) Ro := op_ixT (atI_nat (j := 1) rfl) r
theorem op_ix2 {a b d : PyData} {ds : List PyData} (r : Ro d) : Op K p (rIx K) (.tuple (a :: b :: d :: ds)) (.int 2) Ro := op_ixT (atI_nat (j := 2) rfl) r
theorem op_ix3 {a b c d : PyData} {ds : List PyData} (r : Ro d) : Op K p (rIx K) (.tuple (a :: b :: c :: d :: ds)) (.int 3) Ro := op_ixT (atI_nat (j := 3) rfl) r
end
/-! ### bounds -/
def Bd (k : Nat) (x : Int) : Prop := x.natAbs < 2 ^ k
theorem Bd.mono {j k : Nat} {x : Int} (b : Bd j x) (h : j ≤ k) : Bd k x := Nat.lt_of_lt_of_le b (Nat.pow_le_pow_right (by decide) h)
theorem Bd.mul {j k : Nat} {x y : Int} (a : Bd j x) (b : Bd k y) : Bd (j + k) (x * y) := wide_lt a b
theorem Bd.neg {j : Nat} {x : Int} (a : Bd j x) : Bd j (-x) := by unfold Bd; rw [Int.natAbs_neg]; exact a
theorem Bd.add {j k : Nat} {x y : Int} (a : Bd j x) (b : Bd k y) : Bd (max j k + 1) (x + y) := by
  have a' := a.mono (Nat.le_max_left j k)
  have b' := b.mono (Nat.le_max_right j k)
  unfold Bd at *
  have h := Int.natAbs_add_le x y
  rw [Nat.pow_succ]
  omega
theorem Bd.sub {j k : Nat} {x y : Int} (a : Bd j x) (b : Bd k y) : Bd (max j k + 1) (x - y) := by
  rw [Int.sub_eq_add_neg]
  exact a.add b.neg
theorem Bd.pos {j : Nat} {x : Int} (a : Bd j x) : Bd (j + 1) x := a.mono (Nat.le_succ j)
theorem bd_mul {j k : Nat} {x y : Int} (a : Bd j x) (b : Bd k y) (h : j + k + 2 ≤ 1000000 := by decide) : CMulW x y :=
  wide_mul a.pos b.pos (Nat.succ_pos _) (Nat.succ_pos _) (by omega)
theorem bd_fdiv {k : Nat} {x y : Int} (h : 0 < y) (b : Bd k y) (hk : k + 1 ≤ 9000 := by decide) : CDivW x y := wide_div h b.pos (Nat.succ_pos _) hk
theorem bd_of_lt {x : Int} (k : Nat) (h0 : 0 ≤ x) (h : x < 2 ^ k) : Bd k x := by
  unfold Bd
  have : ((x.natAbs : Nat) : Int) < ((2 ^ k : Nat) : Int) := by
    rw [Int.natAbs_of_nonneg h0]
    simpa using h
  exact Int.ofNat_lt.mp this
theorem bd_lit {x : Int} (k : Nat) (h : x.natAbs < 2 ^ k := by decide) : Bd k x := h
end J
namespace J
open PySem PySem.Spec PyProof.Rows L2
section
variable {K : PySem.W.Frag} {p : Option Addr} {R : PyData → Prop}
theorem op_mulB {j k : Nat} {x y : Int} (a : Bd j x) (b : Bd k y) (h : j + k + 2 ≤ 1000000) (r : R (.int (x * y))) : Op K p (rI CMulW fun i j => .int (i * j)) (.int x) (.int y) R := op_iC (bd_mul a b h) r
theorem shaped2 (a b : Int) : SeqAt.shaped (.tuple [.int a, .int b]) = true := by
  show (PyData.canLay0 (.tuple [.int a, .int b]) && decide (PyData.depth (.tuple [.int a, .int b]) ≤ 64)) = true
  simp [PyData.canLay0, PyData.canLayAll0, PyData.depth, PyData.depthAll]
theorem eqv2 (a b c d : Int) : PyData.eqv (.tuple [.int a, .int b]) (.tuple [.int c, .int d]) = (decide (a = c) && decide (b = d)) := by
  have e : PyData.eqv (.tuple [.int a, .int b]) (.tuple [.int c, .int d]) = ((a == c) && ((b == d) && true)) := by simp only [PyData.eqv, PyData.eqvAll]
  rw [e, Bool.and_true]; rfl
theorem op_eq2 {a b c d : Int} (r : R (.bool (decide (a = c) && decide (b = d)))) : Op K p (rEqD K) (.tuple [.int a, .int b]) (.tuple [.int c, .int d]) R :=
  op_eqD rfl rfl (shaped2 a b) (shaped2 c d) (by rw [eqv2]; exact r)
theorem op_ne2 {a b c d : Int} (r : R (.bool (!(decide (a = c) && decide (b = d))))) : Op K p (rNeD K) (.tuple [.int a, .int b]) (.tuple [.int c, .int d]) R :=
  op_neD rfl rfl (shaped2 a b) (shaped2 c d) (by rw [eqv2]; exact r)
theorem Im.well_inv {H : Hp} {v : V} {d : PyData} (h : Im K p H v d) (e : d = wellD) : ∃ a, p = some a ∧ v = .ref a := by
  cases h with
  | well q => exact ⟨_, q, rfl⟩
  | non => cases e
  | bl => cases e
  | int => cases e
  | str => cases e
  | tup => cases e
  | lst => cases e
  | ty n => simp [tyD, wellD] at e
  | cl n => simp [clD, wellD] at e
  | emp _ _ => cases e
  | erk _ _ _ _ _ => cases e
  | erb _ _ => cases e
  | x1 _ _ => cases e
theorem Im.int_inv {H : Hp} {v : V} {d : PyData} {i : Int} (h : Im K p H v d) (e : d = .int i) : v = .int i := by
  cases h with
  | int => cases e; rfl
  | well q => cases e
  | non => cases e
  | bl => cases e
  | str => cases e
  | tup => cases e
  | lst => cases e
  | ty n => simp [tyD] at e
  | cl n => simp [clD] at e
  | emp _ _ => cases e
  | erk _ _ _ _ _ => cases e
  | erb _ _ => cases e
  | x1 _ _ => cases e
end
end J
/-! Errors of the program's own classes: made (their __init__ says super().__init__(text), then self.given = given), raised, caught, asked. -/
namespace J
open PySem PySem.Spec PyProof.Rows L2
open PySem.W (ksEnv ksFn)
def sGiven : Str := "given"
/-- what the written part says of an error class at C whose __init__ is the def at fI -/
structure ErrK (P : Program) (K : PySem.W.Frag) (C fI : Addr) (qual : Str) (body : List Stmt) (scope : Scope) (params : Arguments) (fd : FuncData) (cda cc : Addr) : Prop where
  o : OexC K C
  fn : ∃ oc od dV kV doc pm an ct osl, fd = ksFn "__init__" qual params body scope dV kV doc pm an (.ref cda) ct cc ∧ K.lookup fI = some ⟨oc, od, .func fd, osl⟩
  co : PySem.W.codeIn K (.ref cda) qual = true
  cd : ∃ ccl cdd vs ccs file tf, K.lookup cda = some ⟨ccl, cdd, .fields vs, ccs⟩ ∧ vs[2]? = some (.str file tf) ∧ ((P.main.file : Str) == file) = true
  ce : ∃ cl cld csl, K.lookup cc = some ⟨cl, cld, .cell (some (.ref C)), csl⟩
  me : PySem.W.mroIn K C (.ref C) = some true
  su : PySem.W.ks_superIn K C C "__init__" = some (some (.builtin "ValueError.__init__"))
  ve : PySem.W.subIn K (.ref C) (.type "ValueError") = some true
  st : PySem.W.nsIn K cStatics "thirdparty.any" = some none
  iC : PySem.W.findIn K (.ref C) "__init__" = some (some (.ref fI))
  tI : PySem.W.typeIn K (.ref fI) = some (.type "function")
  no : PySem.W.findIn K (.ref C) sGiven = some none
/-- what the text says of it -/
structure ErrS (P : Program) (scope : Scope) : Prop where
  top : (P.main.scope.names.lookup ("super" : Str)).isSome = false
  ks : scope.names.lookup ("super" : Str) = some .globalImplicit
  kc : scope.names.lookup ("__class__" : Str) = some .free
  se : scope.names.lookup ("self" : Str) = some .local
  kd : scope.kind = .function
  co : scope.isCoroutine = false
  ge : scope.isGenerator = false
  nc : ∀ x ∈ scope.names, x.2 ≠ .cell
  fr : ∀ x ∈ scope.names, x.2 = .free → x.1 = "__class__"
def cxI (P : Program) (w : World) (K : PySem.W.Frag) (mg : Str → Option Value) (base : Heap) (N : List Str) (qual : Str) (scope : Scope) (fI cda cc : Addr) (A : Around) (outer : List Env) (s : Shared) (H : Hp) : Cx where
  prog := P
  w := w
  K := K
  mg := mg
  base := base
  A := A.deeper (ksEnv qual scope s.heap.objs.size fI (.ref cda) cc)
  N := N
  s_0 := s
  H_0 := H
  env := ksEnv qual scope s.heap.objs.size fI (.ref cda) cc
  outer := outer
  stack := ksEnv qual scope s.heap.objs.size fI (.ref cda) cc :: outer
  ex := []
  calm := true
  fn := fun _ => false
  pn := []
  xe := fun _ _ => False
theorem lookup_mem' {x : Str} {k : NameKind} : ∀ {l : List (Str × NameKind)}, l.lookup x = some k → (x, k) ∈ l
  | [], h => by cases h
  | (y, j) :: l, h => by
    rw [List.lookup] at h
    by_cases e : x = y
    · subst e
      rw [beq_self_eq_true] at h
      cases h
      exact List.mem_cons_self ..
    · rw [show (x == y) = false from by simpa using e] at h
      exact List.mem_cons_of_mem _ (lookup_mem' h)
theorem inv_startI {P : Program} {w : World} {K : PySem.W.Frag} {mg : Str → Option Value} {base h₁ : Heap} {N : List Str} {qual : Str} {scope : Scope} {fI cda cc C : Addr} {A : Around} {outer : List Env} {s : Shared} {H : Hp} {vs : List V} {us : List Value} {t : Nat}
    (S : ErrS P scope) (hd : A.handled = none) (e0 : Env0 P w K mg base A outer s H) (ce : ∃ cl cld csl, K.lookup cc = some ⟨cl, cld, .cell (some (.ref C)), csl⟩) (r : Vals vs us) (hl : vs.length = N.length) (ndN : N.Nodup)
    (loc : ∀ x ∈ N, scope.names.lookup x = some .local)
    (hns : h₁.Ns s.heap.objs.size (fun x => (N.zip us).reverse.lookup x)) (hk : ∀ b o, s.heap.get? b = some o → h₁.get? b = some o) :
    Inv (cxI P w K mg base N qual scope fI cda cc A outer s H) [] (vs.map some) H { s with heap := h₁, toks := t } := by
  obtain ⟨cl, cld, csl, hcc⟩ := ce
  have hb := e0.mod.kin _ _ hcc
  have cells : ∀ x c, (cxI P w K mg base N qual scope fI cda cc A outer s H).env.cells.lookup x = some c → x = "__class__" ∧ c = cc := fun x c e => by
    have e : List.lookup x [(("__class__" : Str), cc)] = some c := e
    rw [List.lookup] at e
    by_cases q : x = ("__class__" : Str)
    · subst q
      rw [beq_self_eq_true] at e
      cases e
      exact ⟨rfl, rfl⟩
    · rw [show (x == ("__class__" : Str)) = false from by simpa using q] at e
      cases e
  have noA : ∀ b : Addr, b ∉ (cxI P w K mg base N qual scope fI cda cc A outer s H).ex := fun b z => absurd (show b ∈ ([] : List Addr) from z) (by simp)
  refine ⟨⟨e0.mod, S.kd, rfl, rfl, Nat.le_refl _, fun y z c h1 h2 => by rw [(cells _ _ h1).1, (cells _ _ h2).1], fun y hy => ?_, fun y c z h => (by cases z), fun _ => hd, Around.frames_deeper e0.frames, .inr ⟨rfl, rfl⟩, fun b z => absurd z (noA b), e0.bs, e0.bsz, fun b _ _ => noA b, fun b z => absurd z (noA b), e0.funs, e0.frf⟩,
    rfl, e0.bare, Un.kept hk, ⟨_, hns, fun i y v h1 h2 h3 => ?_⟩, fun y c h => ?_, e0.hok.fresh (Nat.le_refl _), fun y c h => ?_, fun p hp => absurd (show p ∈ ([] : List (Addr × Obj)) from hp) (by simp), e0.hok.kept hk, ?_⟩
  · have hy : scope.names.lookup y = some .cell ∨ scope.names.lookup y = some .free := hy
    rcases hy with hy | hy
    · exact absurd rfl (S.nc _ (lookup_mem' hy))
    · have e := S.fr _ (lookup_mem' hy) rfl
      exact ⟨cc, by rw [show y = "__class__" from e]; rfl⟩
  · have hi : i < vs.length := by
      have := (List.getElem?_eq_some_iff.mp h2).1
      rwa [List.length_map] at this
    have ha : vs[i]? = some v := by
      rw [List.getElem?_map] at h2
      cases e : vs[i]? with
      | none => rw [e] at h2; cases h2
      | some a => rw [e] at h2; cases h2; rfl
    obtain ⟨u, hu, rv⟩ := r.get ha
    have h1 : N[i]? = some y := h1
    refine ⟨u, rv, .inl ⟨loc y (List.mem_of_getElem? h1), ?_⟩⟩
    have hz : (y, u) ∈ N.zip us := by
      refine List.mem_of_getElem? (i := i) ?_
      rw [List.getElem?_zip_eq_some]
      exact ⟨h1, hu⟩
    have hmap : (N.zip us).map Prod.fst = N := List.map_fst_zip (by rw [← r.length, hl]; exact Nat.le_refl _)
    have nd2 : ((N.zip us).reverse.map Prod.fst).Nodup := by rw [List.map_reverse, hmap]; exact (List.reverse_perm N).nodup_iff.mpr ndN
    clear h1 h2 h3 hns hmap
    have hz2 : (y, u) ∈ (N.zip us).reverse := List.mem_reverse.mpr hz
    clear hz
    generalize (N.zip us).reverse = l at *
    induction l with
    | nil => cases hz2
    | cons q l ih =>
      obtain ⟨x, z⟩ := q
      rw [List.map_cons, List.nodup_cons] at nd2
      show (match y == x with | true => some z | false => List.lookup y l) = some u
      rcases List.mem_cons.mp hz2 with e | hm
      · cases e
        rw [beq_self_eq_true]
      · have ne : ¬ y = x := fun e => nd2.1 (List.mem_map.mpr ⟨(y, u), hm, e⟩)
        rw [show (y == x) = false from by simpa using ne]
        exact ih nd2.2 hm
  · obtain ⟨rfl, rfl⟩ := cells _ _ h
    exact ⟨_, _, hk _ _ (e0.bs _ _ hb).1, rfl⟩
  · obtain ⟨rfl, rfl⟩ := cells _ _ h
    exact (e0.bs _ _ hb).2
  · show (vs.map some).length = N.length
    rw [List.length_map, hl]
section
variable {X : Cx} {pins : List (Addr × Obj)} {σ : L2.St} {H : Hp} {s : Shared} {e C u : Addr} {us : List Value} {A : Around} {E : Value → Shared → Prop}
/-- the built-in __init__ bound to the error, called: the args are laid anew, nothing of it is told -/
theorem call_mw {Q : Value → Shared → Prop} (T : OexC X.K C) (I : Inv X pins σ H s) (he : H e = some (exo e C none)) (hu : s.heap.get? u = some (PySem.W.kxs_mw "ValueError.__init__" e)) (hz : us.length ≤ sizeLine) (h : ∀ s', Inv X pins σ H s' → Q .none s') :
    wpAny (model X.prog X.w) A (call (.ref u) us) Q E s := by
  obtain ⟨nm, q, N, bs, bm, sn, sub, ab, col, dd, k0, k1, k2, k3, k5, hC, hbm⟩ := T.cls
  obtain ⟨t1, ho⟩ := exo_at I.hok he
  have hCx := I.kIn _ _ hC
  obtain ⟨hh, g, d, tk, os⟩ := s
  refine wpAny_call (codeAny_of_tree ?_)
  show wpAny _ A.in1 (callAny (.ref u) ⟨us, []⟩) _ _ _
  simp only [callAny]
  refine wpAny_bind (wpAny_load hu ?_)
  simp only [PySem.W.kxs_mw, show (Value.type "method-wrapper" == Value.type "method" || Value.type "method-wrapper" == Value.type "builtin_function_or_method" || Value.type "method-wrapper" == Value.type "method-wrapper") = true by decide, if_true]
  refine PySem.W.KFB.if_so (by decide) ?_
  refine wpAny_bind (PySem.W.check_bound_init PySem.F.excBase_ValueError.toExcCallFacts hCx ho rfl ?_)
  refine wpAny_bind (wpAny_pure (wpAny_pure ?_))
  refine ⟨plainId_quiet PySem.F.excBase_ValueError.init.plain _, codeAny_builtin PySem.F.excBase_ValueError.initEntry ?_⟩
  refine PySem.W.exc_init_tree (cls := .ref C) (t0 := t1) (dv := none) (c2 := .none) (c3 := .none) (b4 := .bool false) ho hz (fun h' k hx _ => ?_)
  have J := I.write (t' := tk) (x := e) (e := e) (o := exo e C none) (by rw [he]; exact True.intro) (.inl rfl) k ⟨_, hx⟩ (exo_ok hx)
  have eu : upd H e (exo e C none) = H := by
    funext b
    by_cases hb : b = e
    · rw [hb, upd_same, he]
    · rw [upd_ne hb]
  rw [eu] at J
  exact h _ J
end
section
variable {P : Program} {w : World} {K : PySem.W.Frag} {mg : Str → Option Value} {X : Cx} {pins : List (Addr × Obj)} {σ : L2.St} {H : Hp} {s : Shared} {a C fI cda cc : Addr} {qual : Str} {body0 body : List Stmt} {scope : Scope} {params : Arguments} {fd : FuncData} {E : Value → Shared → Prop}
/-- super().__init__(text) in an __init__ of an error class -/
theorem super_init {txt : Str} {j : Nat} {p0 p1 p2 p3 p4 : Pos} {e : Addr} {x : Str} {ar : Arg} (EK : ErrK X.prog X.K C fI qual body0 scope params fd cda cc) (ES : ErrS X.prog scope) (hg : X.mg "super" = none) (henv : X.env = ksEnv qual scope X.env.locals fI (.ref cda) cc)
    (I : Inv X pins σ H s) (hp : (params.posonlyargs ++ params.args).head? = some ar) (har : ar.arg = "self") (h0 : X.N[0]? = some ("self" : Str)) (hs : σ[0]? = some (some (.ref e))) (he : H e = some (exo e C none)) {pl : Sem Bool}
    (hev : eval (.Call (.Attribute (.Call (.Name "super" p0) [] [] p1) "__init__" p2) [.Constant (.str txt) j p3] [] p4) X.env = (do
      let ov ← attributeBase (.Call (.Name "super" p0) [] [] p1) "__init__" X.env (eval (.Call (.Name "super" p0) [] [] p1) X.env)
      standAt p2.atName
      let (f, first) ← holding [ov] (getMethod ov "__init__" pl)
      callWith p4 f first (backTo p4 (starEach [.Constant (.str txt) j p3] X.env)) [])) :
    _root_.PySem.wpAt (model X.prog X.w) X.A (.func body X.env) (eval (.Call (.Attribute (.Call (.Name "super" p0) [] [] p1) "__init__" p2) [.Constant (.str txt) j p3] [] p4) X.env) (fun _ s' => Inv X pins σ H s') E s := by
  obtain ⟨oc, od, dV, kV, doc, pm, an, ct, osl, hfd, lk⟩ := EK.fn
  obtain ⟨ccl, cdd, vs, ccs, file, tf, hcd, hvs, hfile⟩ := EK.cd
  obtain ⟨cl, cld, csl, hce⟩ := EK.ce
  obtain ⟨nm, q, N, bs, bm, sn, sub, ab, col, dd, k0, k1, k2, k3, k5, hC, hbm⟩ := EK.o.cls
  subst hfd
  obtain ⟨m, hn, hl⟩ := id I.loc
  have kz : X.env.kindOf "self" = some .local := by rw [henv]; exact ES.se
  obtain ⟨u, ru, lz⟩ := hl 0 _ _ h0 hs (.inl kz)
  have eu : u = Value.ref e := ru
  subst eu
  have mself : m "self" = some (.ref e) := by
    rcases lz with ⟨_, z⟩ | ⟨z, _⟩
    · exact z
    · rw [kz] at z
      rcases z with z | z <;> cases z
  have kin := I.kIn
  have kof : ∀ y : Str, X.env.kindOf y = scope.names.lookup y := fun y => by rw [henv]; rfl
  have hkk : X.env.scope.kind = .function := I.ok.kind
  obtain ⟨t1, ho⟩ := exo_at I.hok he
  have hCx := kin _ _ hC
  obtain ⟨mb, h1, h2⟩ := I.mod.blt
  refine ks_wpAt_MethodCall ?_ hev
  refine ks_wpAt_super_base (env := X.env) (body := body) (f := fI) (cc := cda) (ar := ar) (by rw [kof]; exact ES.ks) (by rw [kof]; exact ES.kc) (by decide) (by rw [henv]) (kin _ _ lk) rfl hp (by rw [henv]) (kin _ _ hcd) rfl hvs hfile ES.top ?_
  refine PySem.W.ks_loadName_global hkk (by rw [kof]; exact ES.ks) (Calls.loadGlobal_builtin (by rw [I.ok.glob]; exact I.mod.glob.keeps I.bk) hg (by rw [I.ok.blt]; exact h1.keeps I.bk) ((h2 "super" (by decide)).trans (by decide +kernel)) ⟨rfl, ?_⟩)
  refine wpAny_loadName_free hkk (by rw [kof]; exact ES.kc) (c := cc) (v := .ref C) (by rw [henv]; rfl) ⟨_, kin _ _ hce, rfl⟩ ?_
  rw [har]
  refine wpAny_loadName_local hkk kz hn mself ?_
  refine ks_wpAny_isType_cls hCx rfl ⟨rfl, ?_⟩
  obtain ⟨hp', g, d, t, os⟩ := s
  refine ks_wpAny_call_super (C := C) hCx rfl ho rfl (fun c e => by cases e) (PySem.W.looks_mroIn kin EK.me) (fun h' e1 k => ?_)
  have I1 : Inv X pins σ H ⟨h', g, d, t, os⟩ := I.kept (s := ⟨hp', g, d, t, os⟩) (t' := t) k
  have hkC : PySem.W.Looks (model X.prog X.w) h' (mroOf (.ref C)) (.ref C :: bm) := (PySem.W.looks_clsIn (cd := { name := nm, bases := bs, mro := .ref C :: bm, ns := N, qualname := q, hasDict := true, slotNames := sn, subclasses := sub, abstract := ab, collection := col, hasDel := false }) I1.kIn (by unfold PySem.W.clsIn; rw [hC] <;> rfl)).andThen .now
  have hal : PySem.W.alongIn X.K "__init__" (((Value.ref C :: bm).dropWhile (· != .ref C)).drop 1) = some (some (.builtin "ValueError.__init__")) := by
    have z := EK.su
    unfold PySem.W.ks_superIn PySem.W.clsIn at z
    rw [hC] at z
    exact z
  have hob := k _ _ ho
  have hI : PySem.W.Looks (model X.prog X.w) h' (isInstance (.ref e) (.type "ValueError")) true := by
    have LT : PySem.W.Looks (model X.prog X.w) h' (typeOf (.ref e)) (.ref C) := fun A Q E s k q => wpAny_typeOf_ref (k _ _ hob) q
    exact LT.andThen (PySem.W.looks_subIn I1.kIn EK.ve)
  have ne : e ≠ C := fun z => by
    have z1 := ho
    rw [z, hCx] at z1
    cases z1
  refine PySem.W.kxs_getMethod PySem.W.kxs_ValueError e1 (PySem.W.looks_opaque I1.kIn EK.st) hkC rfl I1.kIn hal hI ne (by decide) ?_
  have kk : ∀ b o, h'.get? b = some o → (h'.push (PySem.W.kxs_mw "ValueError.__init__" e)).get? b = some o := fun b o z => Heap.get?_push_of_some _ z
  have I2 : Inv X pins σ H ⟨h'.push (PySem.W.kxs_mw "ValueError.__init__" e), g, d, t + 1, os⟩ := I1.kept (s := ⟨h', g, d, t, os⟩) (t' := t + 1) kk
  have hu : (h'.push (PySem.W.kxs_mw "ValueError.__init__" e)).get? h'.objs.size = some (PySem.W.kxs_mw "ValueError.__init__" e) := Heap.get?_push_at rfl rfl
  have hfr : H h'.objs.size = none := I1.hok.fresh (Nat.le_refl _)
  have nL : h'.objs.size ≠ X.env.locals := fun z => by
    have z2 := I1.lt
    rw [← z] at z2
    exact Nat.lt_irrefl _ z2
  have nF : h'.objs.size ∉ X.fs := I1.nofs (Nat.le_refl _)
  have I3 : Inv X ((h'.objs.size, PySem.W.kxs_mw "ValueError.__init__" e) :: pins) σ H ⟨h'.push (PySem.W.kxs_mw "ValueError.__init__" e), g, d, t + 1, os⟩ := I2.pins_of fun p hp => by
    rcases List.mem_cons.mp hp with z | z
    · rw [z]
      exact ⟨hu, hfr, nL, nF, fun v z => by cases z⟩
    · exact I2.pin p (List.mem_append_right _ z)
  have hA := (pa_cons pe_str pa_nil : PA X [.Constant (.str txt) j p3] (tCons (tC (.str txt)) tNil)).run p4 _ _ σ H (fun vs H1 => vs = [V.str txt] ∧ H = H1) I3 ⟨rfl, rfl⟩
  refine PySem.W.kxs_callWith (i := "ValueError.__init__") (x := e) rfl ?_
  refine Calls.evalArgs_plain ?_
  refine thn hA fun us s1 hh => ?_
  obtain ⟨vs, H1, I4, r1, ev, eH⟩ := hh
  subst ev
  subst eH
  cases r1 with
  | cons ru rn =>
    rename_i u1 us1
    cases rn
    obtain ⟨hu4, _⟩ := I4.pin (h'.objs.size, PySem.W.kxs_mw "ValueError.__init__" e) (List.mem_append_right _ List.mem_cons_self)
    refine ⟨hu4, ?_⟩
    refine call_mw EK.o I4 he hu4 (by show 1 ≤ sizeLine; rw [sizeLine_eq]; omega) fun s' J => ?_
    exact J.pins_of fun p hp => J.pin p (List.mem_append_right _ (List.mem_cons_of_mem _ hp))
end
/-- what __init__ of such an error does -/
def spInit (C : Addr) : Sp := fun vs H Q _ => ∃ (a : Addr) (v : V), vs = [.ref a, v] ∧ H a = some (exo a C none) ∧ ∀ dx, H dx = none → dx ≠ a → Q .non (upd (upd H dx (exd dx [(sGiven, v)])) a (exo a C (some dx)))
/-- the text of such an __init__ -/
def IniB (body : List Stmt) : Prop := ∃ (txt : Str) (j : Nat) (p0 p1 p2 p3 p4 p5 q0 q1 q2 q3 : Pos) (pl : Sem Bool), body = [.Expr (.Call (.Attribute (.Call (.Name "super" p0) [] [] p1) "__init__" p2) [.Constant (.str txt) j p3] [] p4) p5, .Assign [.Attribute (.Name "self" q0) "given" q1] (.Name "given" q2) q3] ∧
  (∀ env, eval (.Call (.Attribute (.Call (.Name "super" p0) [] [] p1) "__init__" p2) [.Constant (.str txt) j p3] [] p4) env = (do
      let ov ← attributeBase (.Call (.Name "super" p0) [] [] p1) "__init__" env (eval (.Call (.Name "super" p0) [] [] p1) env)
      standAt p2.atName
      let (f, first) ← holding [ov] (getMethod ov "__init__" pl)
      callWith p4 f first (backTo p4 (starEach [.Constant (.str txt) j p3] env)) [])) ∧
  (∀ env, swapsWith (.Call (.Attribute (.Call (.Name "super" p0) [] [] p1) "__init__" p2) [.Constant (.str txt) j p3] [] p4) none p5.line env = pure false) ∧
  (∀ env, swapsWith (.Name "given" q2) (some (.Attribute (.Name "self" q0) "given" q1)) q3.line env = pure false)
theorem init_ok {P : Program} {w : World} {K : PySem.W.Frag} {mg : Str → Option Value} {base : Heap} {CX : CXT} {C fI cda cc : Addr} {qual : Str} {body : List Stmt} {scope : Scope} {params : Arguments} {fd : FuncData} {ar : Arg} (EK : ErrK P K C fI qual body scope params fd cda cc) (ES : ErrS P scope) (hB : IniB body)
    (hp : (params.posonlyargs ++ params.args).head? = some ar) (har : ar.arg = "self") (gv : scope.names.lookup ("given" : Str) = some .local) (hg : mg "super" = none) : FnOk P w K mg base CX 1 fI fd ["self", "given"] (spInit C) := by
  refine ⟨fun vs H Q E ⟨a, v, h, _⟩ => by rw [h]; rfl, fun A outer s H args us vs Q E hr e0 hb r hsp => ?_⟩
  obtain ⟨a, v, rfl, ha, hq⟩ := hsp
  obtain ⟨oc, od, dV, kV, doc, pm, an, ct, osl, hfd, lk⟩ := EK.fn
  have kin : K.In s.heap := e0.mod.kin.keeps fun b o e => (e0.bs b o e).1
  have nol : s.heap.NoLimit := e0.mod.nolimit.keeps fun b o e => (e0.bs b o e).1
  have EK0 := EK
  subst hfd
  have hloc : ∀ x ∈ (["self", "given"] : List Str).zip us, scope.names.lookup x.1 = some .local := fun x hx => by
    have z := (List.of_mem_zip hx).1
    rcases List.mem_cons.mp z with e | z
    · rw [e]; exact ES.se
    · rcases List.mem_cons.mp z with e | z
      · rw [e]; exact gv
      · cases z
  refine ks_codeAny_call_defAt (fd := ksFn "__init__" qual params body scope dV kV doc pm an (.ref cda) ct cc) (body := body) (binds := (["self", "given"] : List Str).zip us) hr.depth (kin _ _ lk) rfl nol (PySem.W.codeRec_of kin EK.co) rfl hb ES.nc hloc (fun h₁ hns hk => ?_) ES.co ES.ge ES.kd
  have I := inv_startI (P := P) (w := w) (K := K) (mg := mg) (N := ["self", "given"]) (qual := qual) (fI := fI) (cda := cda) (t := s.toks + ((["self", "given"] : List Str).zip us).length) ES hr.hd e0 EK.ce r rfl (by decide) (fun x hx => by
    rcases List.mem_cons.mp hx with e | z
    · rw [e]; exact ES.se
    · rcases List.mem_cons.mp z with e | z
      · rw [e]; exact gv
      · cases z) hns hk
  obtain ⟨txt, j, p0, p1, p2, p3, p4, p5, q0, q1, q2, q3, pl, rfl, hev, hs1, hs2⟩ := hB
  generalize hX : cxI P w K mg base ["self", "given"] qual scope fI cda cc A outer s H = X at I
  have eP : X.prog = P := by rw [← hX]; rfl
  have eW : X.w = w := by rw [← hX]; rfl
  have eK : X.K = K := by rw [← hX]; rfl
  have eA : X.A = A.deeper (ksEnv qual scope s.heap.objs.size fI (.ref cda) cc) := by rw [← hX]; rfl
  have eE : X.env = ksEnv qual scope s.heap.objs.size fI (.ref cda) cc := by rw [← hX]; rfl
  have eL : X.env.locals = s.heap.objs.size := by rw [eE]
  have eM : X.mg = mg := by rw [← hX]; rfl
  have eN : X.N = (["self", "given"] : List Str) := by rw [← hX]; rfl
  have eO : X.outer = outer := by rw [← hX]; rfl
  have eS : X.s_0 = s := by rw [← hX]; rfl
  have eH : X.H_0 = H := by rw [← hX]; rfl
  have eX : X.ex = [] := by rw [← hX]; rfl
  have eXE : X.xe = fun _ _ => False := by rw [← hX]; rfl
  clear hX
  have hkof : ∀ y : Str, X.env.kindOf y = scope.names.lookup y := fun y => by rw [eE]; rfl
  have hint : interactive X.env = false := by rw [eE]; unfold interactive; show (scope.kind == .module && _) = false; rw [ES.kd]; rfl
  have goal : _root_.PySem.wpAt (model X.prog X.w) X.A (.func [.Expr (.Call (.Attribute (.Call (.Name "super" p0) [] [] p1) "__init__" p2) [.Constant (.str txt) j p3] [] p4) p5, .Assign [.Attribute (.Name "self" q0) "given" q1] (.Name "given" q2) q3] X.env) (execs [.Expr (.Call (.Attribute (.Call (.Name "super" p0) [] [] p1) "__init__" p2) [.Constant (.str txt) j p3] [] p4) p5, .Assign [.Attribute (.Name "self" q0) "given" q1] (.Name "given" q2) q3] X.env)
      (fun f s' => CR CX outer P w H s Q E (.ok (.ret (match f with | .ret v => v | _ => .none))) s') (fun _ _ => False) { s with heap := h₁, toks := s.toks + ((["self", "given"] : List Str).zip us).length } := by
    refine ks_wpAt_execs_cons (ks_wpAt_Expr_any (ks_wpAt_mono (super_init (C := C) (fI := fI) (cda := cda) (cc := cc) (qual := qual) (scope := scope) (e := a) (x := "self") (E := fun _ _ => False) (by rw [eP, eK]; exact EK0) (by rw [eP]; exact ES) (by rw [eM]; exact hg) (by rw [eL]; exact eE) I hp har (by rw [eN]; rfl) rfl ha (hev _)) (fun _ s' J => ?_) (fun _ _ z => z)) hint (hs1 _))
    show _root_.PySem.wpAt _ _ _ (execs [.Assign [.Attribute (.Name "self" q0) "given" q1] (.Name "given" q2) q3] X.env) _ _ s'
    have vz : PE X (.Name "self" q0) (tVar 0) := pe_var (by rw [eN]; rfl) (.inl (by show X.env.kindOf _ = _; rw [hkof]; exact ES.se))
    have vy : PE X (.Name "given" q2) (tVar 1) := pe_var (by rw [eN]; rfl) (.inl (by show X.env.kindOf _ = _; rw [hkof]; exact gv))
    have hp2 := (pss_one (ps_ost (f := sGiven) (p' := q1) (pos := q3) vz vy (hs2 _))).run [] s' _ H { nx := fun _ H' => Q .non H', rt := Q } J (by
      refine ⟨v, rfl, .ref a, rfl, a, C, rfl, by rw [eK]; exact EK0.o, by rw [eK]; exact EK0.no, .inl ⟨ha, fun dx hdx ne => ?_⟩⟩
      exact hq dx hdx ne)
    refine wpAt_of_wpAny (wpAny_mono hp2 (fun fl s2 hs => ?_) fun e s2 z => by rw [eXE] at z; exact z)
    have fin : ∀ {σ' : L2.St} {H' : Hp} {v : V} {u : Value}, L2.Inv X [] σ' H' s2 → RelV v u → Q v H' → CE outer P w H s Q u s2 := fun {σ' H' v u} J rv q => by
      refine ⟨v, H', by have := J.os; rw [eS] at this; exact this, J.bare, ?_, ?_, rv, q⟩
      · have := J.base
        rw [eX, eS, eH] at this
        rw [← eO]; exact this
      · have := J.hok
        rw [eP, eW] at this
        exact this
    cases fl with
    | ret u =>
      obtain ⟨v, σ', H', J, rv, q⟩ := hs
      exact fin J rv q
    | next =>
      obtain ⟨σ', H', J, q⟩ := hs
      exact fin (v := V.non) (u := Value.none) J rfl q
    | brk =>
      obtain ⟨_, _, _, q⟩ := hs
      exact q.elim
    | cont =>
      obtain ⟨_, _, _, q⟩ := hs
      exact q.elim
  rw [eP, eW, eA, eE] at goal
  exact ks_wpAt_mono goal (fun _ _ z => z) fun _ _ z => z.elim
/-! ### promises of defs that may raise -/
/-- an error class as the top has left it -/
structure Err (P : Program) (w : World) (K : PySem.W.Frag) (mg : Str → Option Value) (base : Heap) (x : Str) (C fI : Addr) (fd : FuncData) : Prop where
  F : FnOk P w K mg base (L2.CX P w) 1 fI fd ["self", "given"] (spInit C)
  mg : mg x = some (.ref C)
  o : OexC K C
  iC : PySem.W.findIn K (.ref C) "__init__" = some (some (.ref fI))
  tI : PySem.W.typeIn K (.ref fI) = some (.type "function")
  b : Binds K fd ["self", "given"] []
/-! ### what the suite of an except clause asks -/
/-! ### list.count, flat items -/
/-! ### try: body, except C as e: suite that ends by return -/
def sysB (K : PySem.W.Frag) : Bool := (K.lookup sysModules).isSome
/-! ### all error classes at once -/
def errsB (K : PySem.W.Frag) (xs : List Str) : Bool := xs.all fun x => xfB K (He.ga K x) && (decide (PySem.W.findIn K (.ref (He.ga K x)) sGiven = some none) && (decide (PySem.W.exmOne K (.ref (He.ga K x)) (.ref (He.ga K "SteamError")) = some true) &&
  (decide (PySem.W.kitOne K (.ref (He.ga K x)) (.type "ValueError") = some true) && ((xs.all fun y => decide (PySem.W.kitOne K (.ref (He.ga K x)) (.ref (He.ga K y)) = some (decide (x = y)))) &&
  (decide (PySem.W.findIn K (.ref (He.ga K x)) "__class__" = some (some (.builtin "object.__class__"))) && (decide (PySem.W.specialIn K (.builtin "object.__class__") "__get__" = some (some (.builtin "getset_descriptor.__get__"))) &&
  (decide (PySem.W.takesIn K (.builtin "object.__class__") = some true) && decide (PySem.W.mroIn K (He.ga K x) (.type "object") = some true))))))))
structure Errs (P : Program) (w : World) (K : PySem.W.Frag) (mg : Str → Option Value) (base : Heap) (xs : List Str) : Prop where
  err : ∀ x ∈ xs, ∃ fI fd, Err P w K mg base x (He.ga K x) fI fd
  top : mg "SteamError" = some (.ref (He.ga K "SteamError"))
  chk : errsB K xs = true
theorem Errs.at {P : Program} {w : World} {K : PySem.W.Frag} {mg : Str → Option Value} {base : Heap} {xs : List Str} (E : Errs P w K mg base xs) {x : Str} (hx : x ∈ xs) {C : Addr} (h : mg x = some (.ref C)) : C = He.ga K x := by
  obtain ⟨fI, fd, e⟩ := E.err x hx
  have := e.mg
  rw [h] at this
  cases this
  rfl
end J
/-! Errors of the program's own classes that keep nothing: __init__ says super().__init__() alone. -/
namespace J
open PySem PySem.Spec PyProof.Rows L2
open PySem.W (ksEnv ksFn)
section
variable {P : Program} {w : World} {K : PySem.W.Frag} {mg : Str → Option Value} {X : Cx} {pins : List (Addr × Obj)} {σ : L2.St} {H : Hp} {s : Shared} {a C fI cda cc : Addr} {qual : Str} {body0 body : List Stmt} {scope : Scope} {params : Arguments} {fd : FuncData} {E : Value → Shared → Prop}
/-- super().__init__() in an __init__ of an error class -/
theorem super_init0 {p0 p1 p2 p4 : Pos} {e : Addr} {ar : Arg} (EK : ErrK X.prog X.K C fI qual body0 scope params fd cda cc) (ES : ErrS X.prog scope) (hg : X.mg "super" = none) (henv : X.env = ksEnv qual scope X.env.locals fI (.ref cda) cc)
    (I : Inv X pins σ H s) (hp : (params.posonlyargs ++ params.args).head? = some ar) (har : ar.arg = "self") (h0 : X.N[0]? = some ("self" : Str)) (hs : σ[0]? = some (some (.ref e))) (he : H e = some (exo e C none)) {pl : Sem Bool}
    (hev : eval (.Call (.Attribute (.Call (.Name "super" p0) [] [] p1) "__init__" p2) [] [] p4) X.env = (do
      let ov ← attributeBase (.Call (.Name "super" p0) [] [] p1) "__init__" X.env (eval (.Call (.Name "super" p0) [] [] p1) X.env)
      standAt p2.atName
      let (f, first) ← holding [ov] (getMethod ov "__init__" pl)
      callWith p4 f first (backTo p4 (starEach [] X.env)) [])) :
    _root_.PySem.wpAt (model X.prog X.w) X.A (.func body X.env) (eval (.Call (.Attribute (.Call (.Name "super" p0) [] [] p1) "__init__" p2) [] [] p4) X.env) (fun _ s' => Inv X pins σ H s') E s := by
  obtain ⟨oc, od, dV, kV, doc, pm, an, ct, osl, hfd, lk⟩ := EK.fn
  obtain ⟨ccl, cdd, vs, ccs, file, tf, hcd, hvs, hfile⟩ := EK.cd
  obtain ⟨cl, cld, csl, hce⟩ := EK.ce
  obtain ⟨nm, q, N, bs, bm, sn, sub, ab, col, dd, k0, k1, k2, k3, k5, hC, hbm⟩ := EK.o.cls
  subst hfd
  obtain ⟨m, hn, hl⟩ := id I.loc
  have kz : X.env.kindOf "self" = some .local := by rw [henv]; exact ES.se
  obtain ⟨u, ru, lz⟩ := hl 0 _ _ h0 hs (.inl kz)
  have eu : u = Value.ref e := ru
  subst eu
  have mself : m "self" = some (.ref e) := by
    rcases lz with ⟨_, z⟩ | ⟨z, _⟩
    · exact z
    · rw [kz] at z
      rcases z with z | z <;> cases z
  have kin := I.kIn
  have kof : ∀ y : Str, X.env.kindOf y = scope.names.lookup y := fun y => by rw [henv]; rfl
  have hkk : X.env.scope.kind = .function := I.ok.kind
  obtain ⟨t1, ho⟩ := exo_at I.hok he
  have hCx := kin _ _ hC
  obtain ⟨mb, h1, h2⟩ := I.mod.blt
  refine ks_wpAt_MethodCall ?_ hev
  refine ks_wpAt_super_base (env := X.env) (body := body) (f := fI) (cc := cda) (ar := ar) (by rw [kof]; exact ES.ks) (by rw [kof]; exact ES.kc) (by decide) (by rw [henv]) (kin _ _ lk) rfl hp (by rw [henv]) (kin _ _ hcd) rfl hvs hfile ES.top ?_
  refine PySem.W.ks_loadName_global hkk (by rw [kof]; exact ES.ks) (Calls.loadGlobal_builtin (by rw [I.ok.glob]; exact I.mod.glob.keeps I.bk) hg (by rw [I.ok.blt]; exact h1.keeps I.bk) ((h2 "super" (by decide)).trans (by decide +kernel)) ⟨rfl, ?_⟩)
  refine wpAny_loadName_free hkk (by rw [kof]; exact ES.kc) (c := cc) (v := .ref C) (by rw [henv]; rfl) ⟨_, kin _ _ hce, rfl⟩ ?_
  rw [har]
  refine wpAny_loadName_local hkk kz hn mself ?_
  refine ks_wpAny_isType_cls hCx rfl ⟨rfl, ?_⟩
  obtain ⟨hp', g, d, t, os⟩ := s
  refine ks_wpAny_call_super (C := C) hCx rfl ho rfl (fun c e => by cases e) (PySem.W.looks_mroIn kin EK.me) (fun h' e1 k => ?_)
  have I1 : Inv X pins σ H ⟨h', g, d, t, os⟩ := I.kept (s := ⟨hp', g, d, t, os⟩) (t' := t) k
  have hkC : PySem.W.Looks (model X.prog X.w) h' (mroOf (.ref C)) (.ref C :: bm) := (PySem.W.looks_clsIn (cd := { name := nm, bases := bs, mro := .ref C :: bm, ns := N, qualname := q, hasDict := true, slotNames := sn, subclasses := sub, abstract := ab, collection := col, hasDel := false }) I1.kIn (by unfold PySem.W.clsIn; rw [hC] <;> rfl)).andThen .now
  have hal : PySem.W.alongIn X.K "__init__" (((Value.ref C :: bm).dropWhile (· != .ref C)).drop 1) = some (some (.builtin "ValueError.__init__")) := by
    have z := EK.su
    unfold PySem.W.ks_superIn PySem.W.clsIn at z
    rw [hC] at z
    exact z
  have hob := k _ _ ho
  have hI : PySem.W.Looks (model X.prog X.w) h' (isInstance (.ref e) (.type "ValueError")) true := by
    have LT : PySem.W.Looks (model X.prog X.w) h' (typeOf (.ref e)) (.ref C) := fun A Q E s k q => wpAny_typeOf_ref (k _ _ hob) q
    exact LT.andThen (PySem.W.looks_subIn I1.kIn EK.ve)
  have ne : e ≠ C := fun z => by
    have z1 := ho
    rw [z, hCx] at z1
    cases z1
  refine PySem.W.kxs_getMethod PySem.W.kxs_ValueError e1 (PySem.W.looks_opaque I1.kIn EK.st) hkC rfl I1.kIn hal hI ne (by decide) ?_
  have kk : ∀ b o, h'.get? b = some o → (h'.push (PySem.W.kxs_mw "ValueError.__init__" e)).get? b = some o := fun b o z => Heap.get?_push_of_some _ z
  have I2 : Inv X pins σ H ⟨h'.push (PySem.W.kxs_mw "ValueError.__init__" e), g, d, t + 1, os⟩ := I1.kept (s := ⟨h', g, d, t, os⟩) (t' := t + 1) kk
  have hu : (h'.push (PySem.W.kxs_mw "ValueError.__init__" e)).get? h'.objs.size = some (PySem.W.kxs_mw "ValueError.__init__" e) := Heap.get?_push_at rfl rfl
  refine PySem.W.kxs_callWith (i := "ValueError.__init__") (x := e) rfl ?_
  refine evalArgs_empty ⟨hu, ?_⟩
  refine call_mw EK.o I2 he hu (by show 0 ≤ sizeLine; exact Nat.zero_le _) fun s' J => J
end
/-- what __init__ of such an error does -/
def spInit0 (C : Addr) : Sp := fun vs H Q _ => ∃ a : Addr, vs = [.ref a] ∧ H a = some (exo a C none) ∧ Q .non H
/-- the text of such an __init__ -/
def IniB0 (body : List Stmt) : Prop := ∃ (p0 p1 p2 p4 p5 : Pos) (pl : Sem Bool), body = [.Expr (.Call (.Attribute (.Call (.Name "super" p0) [] [] p1) "__init__" p2) [] [] p4) p5] ∧
  (∀ env, eval (.Call (.Attribute (.Call (.Name "super" p0) [] [] p1) "__init__" p2) [] [] p4) env = (do
      let ov ← attributeBase (.Call (.Name "super" p0) [] [] p1) "__init__" env (eval (.Call (.Name "super" p0) [] [] p1) env)
      standAt p2.atName
      let (f, first) ← holding [ov] (getMethod ov "__init__" pl)
      callWith p4 f first (backTo p4 (starEach [] env)) [])) ∧
  (∀ env, swapsWith (.Call (.Attribute (.Call (.Name "super" p0) [] [] p1) "__init__" p2) [] [] p4) none p5.line env = pure false)
theorem init0_ok {P : Program} {w : World} {K : PySem.W.Frag} {mg : Str → Option Value} {base : Heap} {CX : CXT} {C fI cda cc : Addr} {qual : Str} {body : List Stmt} {scope : Scope} {params : Arguments} {fd : FuncData} {ar : Arg} (EK : ErrK P K C fI qual body scope params fd cda cc) (ES : ErrS P scope) (hB : IniB0 body)
    (hp : (params.posonlyargs ++ params.args).head? = some ar) (har : ar.arg = "self") (hg : mg "super" = none) : FnOk P w K mg base CX 1 fI fd ["self"] (spInit0 C) := by
  refine ⟨fun vs H Q E ⟨a, h, _⟩ => by rw [h]; rfl, fun A outer s H args us vs Q E hr e0 hb r hsp => ?_⟩
  obtain ⟨a, rfl, ha, hq⟩ := hsp
  obtain ⟨oc, od, dV, kV, doc, pm, an, ct, osl, hfd, lk⟩ := EK.fn
  have kin : K.In s.heap := e0.mod.kin.keeps fun b o e => (e0.bs b o e).1
  have nol : s.heap.NoLimit := e0.mod.nolimit.keeps fun b o e => (e0.bs b o e).1
  have EK0 := EK
  subst hfd
  have hloc : ∀ x ∈ (["self"] : List Str).zip us, scope.names.lookup x.1 = some .local := fun x hx => by
    have z := (List.of_mem_zip hx).1
    rcases List.mem_cons.mp z with e | z
    · rw [e]; exact ES.se
    · cases z
  refine ks_codeAny_call_defAt (fd := ksFn "__init__" qual params body scope dV kV doc pm an (.ref cda) ct cc) (body := body) (binds := (["self"] : List Str).zip us) hr.depth (kin _ _ lk) rfl nol (PySem.W.codeRec_of kin EK.co) rfl hb ES.nc hloc (fun h₁ hns hk => ?_) ES.co ES.ge ES.kd
  have I := inv_startI (P := P) (w := w) (K := K) (mg := mg) (N := ["self"]) (qual := qual) (fI := fI) (cda := cda) (t := s.toks + ((["self"] : List Str).zip us).length) ES hr.hd e0 EK.ce r rfl (by decide) (fun x hx => by
    rcases List.mem_cons.mp hx with e | z
    · rw [e]; exact ES.se
    · cases z) hns hk
  obtain ⟨p0, p1, p2, p4, p5, pl, rfl, hev, hs1⟩ := hB
  generalize hX : cxI P w K mg base ["self"] qual scope fI cda cc A outer s H = X at I
  have eP : X.prog = P := by rw [← hX]; rfl
  have eW : X.w = w := by rw [← hX]; rfl
  have eK : X.K = K := by rw [← hX]; rfl
  have eA : X.A = A.deeper (ksEnv qual scope s.heap.objs.size fI (.ref cda) cc) := by rw [← hX]; rfl
  have eE : X.env = ksEnv qual scope s.heap.objs.size fI (.ref cda) cc := by rw [← hX]; rfl
  have eL : X.env.locals = s.heap.objs.size := by rw [eE]
  have eM : X.mg = mg := by rw [← hX]; rfl
  have eN : X.N = (["self"] : List Str) := by rw [← hX]; rfl
  have eO : X.outer = outer := by rw [← hX]; rfl
  have eS : X.s_0 = s := by rw [← hX]; rfl
  have eH : X.H_0 = H := by rw [← hX]; rfl
  have eX : X.ex = [] := by rw [← hX]; rfl
  clear hX
  have hint : interactive X.env = false := by rw [eE]; unfold interactive; show (scope.kind == .module && _) = false; rw [ES.kd]; rfl
  have goal : _root_.PySem.wpAt (model X.prog X.w) X.A (.func [.Expr (.Call (.Attribute (.Call (.Name "super" p0) [] [] p1) "__init__" p2) [] [] p4) p5] X.env) (execs [.Expr (.Call (.Attribute (.Call (.Name "super" p0) [] [] p1) "__init__" p2) [] [] p4) p5] X.env)
      (fun f s' => CR CX outer P w H s Q E (.ok (.ret (match f with | .ret v => v | _ => .none))) s') (fun _ _ => False) { s with heap := h₁, toks := s.toks + ((["self"] : List Str).zip us).length } := by
    refine ks_wpAt_execs_cons (ks_wpAt_Expr_any (ks_wpAt_mono (super_init0 (C := C) (fI := fI) (cda := cda) (cc := cc) (qual := qual) (scope := scope) (e := a) (E := fun _ _ => False) (by rw [eP, eK]; exact EK0) (by rw [eP]; exact ES) (by rw [eM]; exact hg) (by rw [eL]; exact eE) I hp har (by rw [eN]; rfl) rfl ha (hev _)) (fun _ s' J => ?_) (fun _ _ z => z)) hint (hs1 _))
    have fin : CE outer P w H s Q .none s' := by
      refine ⟨.non, H, by have := J.os; rw [eS] at this; exact this, J.bare, ?_, ?_, rfl, hq⟩
      · have := J.base
        rw [eX, eS, eH] at this
        rw [← eO]; exact this
      · have := J.hok
        rw [eP, eW] at this
        exact this
    exact wpAt_of_wpAny (wpAny_execs_nil fin)
  rw [eP, eW, eA, eE] at goal
  exact ks_wpAt_mono goal (fun _ _ z => z) fun _ _ z => z.elim
/-! ### X(): made and raised -/
/-! ### promises of defs that may raise either kind -/
/-- an error class that keeps nothing, as the top has left it -/
structure Err0 (P : Program) (w : World) (K : PySem.W.Frag) (mg : Str → Option Value) (base : Heap) (x : Str) (C fI : Addr) (fd : FuncData) : Prop where
  F : FnOk P w K mg base (L2.CX P w) 1 fI fd ["self"] (spInit0 C)
  mg : mg x = some (.ref C)
  o : OexC K C
  iC : PySem.W.findIn K (.ref C) "__init__" = some (some (.ref fI))
  tI : PySem.W.typeIn K (.ref fI) = some (.type "function")
  b : Binds K fd ["self"] []
/-! ### the suite: isinstance of an error with or without a dict -/
/-- all error classes of a law: xs keep what was given, ys keep nothing -/
structure ErrsZ (P : Program) (w : World) (K : PySem.W.Frag) (mg : Str → Option Value) (base : Heap) (xs ys : List Str) : Prop where
  err : ∀ x ∈ xs, ∃ fI fd, Err P w K mg base x (He.ga K x) fI fd
  err0 : ∀ x ∈ ys, ∃ fI fd, Err0 P w K mg base x (He.ga K x) fI fd
  top : mg "SteamError" = some (.ref (He.ga K "SteamError"))
  chk : errsB K (xs ++ ys) = true
theorem ErrsZ.at {P : Program} {w : World} {K : PySem.W.Frag} {mg : Str → Option Value} {base : Heap} {xs ys : List Str} (E : ErrsZ P w K mg base xs ys) {x : Str} (hx : x ∈ xs ++ ys) {C : Addr} (h : mg x = some (.ref C)) : C = He.ga K x := by
  rcases List.mem_append.mp hx with hx | hx
  · obtain ⟨fI, fd, e⟩ := E.err x hx
    have := e.mg
    rw [h] at this
    cases this
    rfl
  · obtain ⟨fI, fd, e⟩ := E.err0 x hx
    have := e.mg
    rw [h] at this
    cases this
    rfl
end J
/-! What the top has left, by facts of names: nothing of it is written out. -/
namespace J
open PySem PySem.Spec PyProof.Rows L2
/-- the checks: names that stay free, ints, built-ins under a name, tuples of words -/
structure Chk where
  cfr : List Str
  cin : List (Str × Int)
  cbl : List (Str × String)
  ctu : List (Str × List Str)
def Chk.ok (c : Chk) (K : PySem.W.Frag) : Bool :=
  (c.cfr.all fun x => (He.Fa.free x).ok K) && ((c.cin.all fun q => (He.Fa.int q.1 q.2).ok K) && ((c.cbl.all fun q => He.eqO (PySem.W.nsIn K mainGlobals q.1) (some (some (.builtin q.2)))) && (c.ctu.all fun q => (He.Fa.glo q.1).ok K && He.tupB K q.1 (q.2.map He.Dv.str))))
abbrev ObJ : Type := Bool × List He.FnW
def obJ (c : Chk) (fn : List He.DefD) (K : PySem.W.Frag) : ObJ := (c.ok K && (fn.all fun d => (He.Fa.glo d.name).ok K && d.ok K), fn.map fun d => He.fnW K d.at_)
def saysJ (c : Chk) (fn : List He.DefD) (K : PySem.W.Frag) : Prop := obJ c fn K = (true, fn.map He.DefD.val)
section
variable {c : Chk} {fn : List He.DefD} {K : PySem.W.Frag} {h : Heap} {mg : Str → Option Value}
theorem saysJ.chk (s : saysJ c fn K) : c.ok K = true ∧ (fn.all fun d => (He.Fa.glo d.name).ok K && d.ok K) = true ∧ (fn.map fun d => He.fnW K d.at_) = fn.map He.DefD.val := by
  have h1 := congrArg Prod.fst s
  have h2 := congrArg Prod.snd s
  obtain ⟨a, b⟩ := He.ba h1
  exact ⟨a, b, h2⟩
theorem saysJ.free (s : saysJ c fn K) (X : K.In h) (G : h.Ns mainGlobals mg) {x : Str} (hx : x ∈ c.cfr) : mg x = none := by
  obtain ⟨a, _⟩ := He.ba s.chk.1
  exact He.free_ok X G (List.all_eq_true.mp a x hx)
theorem saysJ.int (s : saysJ c fn K) (X : K.In h) (G : h.Ns mainGlobals mg) {x : Str} {i : Int} (hx : (x, i) ∈ c.cin) : ∃ t, mg x = some (.int i t) := by
  obtain ⟨_, b⟩ := He.ba s.chk.1
  obtain ⟨a, _⟩ := He.ba b
  exact He.int_ok X G (List.all_eq_true.mp a (x, i) hx)
theorem saysJ.blt (s : saysJ c fn K) (X : K.In h) (G : h.Ns mainGlobals mg) {x : Str} {y : String} (hx : (x, y) ∈ c.cbl) : mg x = some (.builtin y) := by
  obtain ⟨_, b⟩ := He.ba s.chk.1
  obtain ⟨_, b2⟩ := He.ba b
  obtain ⟨a, _⟩ := He.ba b2
  exact PySem.W.mg_of X G (He.eqO_ok (List.all_eq_true.mp a (x, y) hx))
theorem saysJ.tup (s : saysJ c fn K) (X : K.In h) (G : h.Ns mainGlobals mg) {x : Str} {ws : List Str} (hx : (x, ws) ∈ c.ctu) : ∃ a, mg x = some (.ref a) ∧ KTup K a (ws.map V.str) := by
  obtain ⟨_, b⟩ := He.ba s.chk.1
  obtain ⟨_, b2⟩ := He.ba b
  obtain ⟨_, b3⟩ := He.ba b2
  obtain ⟨q1, q2⟩ := He.ba (List.all_eq_true.mp b3 (x, ws) hx)
  refine ⟨_, He.glo_ok X G q1, ?_⟩
  have e : (ws.map He.Dv.str).map (He.Dv.v K) = ws.map V.str := by rw [List.map_map]; rfl
  have t := He.tupB_ok q2 (fun _ => none)
  rw [e] at t
  rcases t with (t | ⟨o, t⟩) | t
  · cases t
  · cases t
  · obtain ⟨o, its, n, h1, h2, h3, h4, h5⟩ := t
    exact ⟨o, its, n, h1, h2, h3, h4, h5⟩
/-- a def as the top has left it -/
theorem saysJ.raw (s : saysJ c fn K) (X : K.In h) (G : h.Ns mainGlobals mg) (i : Nat) {x : Str} {st : Stmt} (hi : fn[i]? = some ⟨(x, none), x, x, defArgs st, defBody st, defScope st, [], []⟩) : ∃ f fd, Raw K mg x st f fd := by
  obtain ⟨_, b, e⟩ := s.chk
  have m := List.mem_of_getElem? hi
  obtain ⟨q1, q2⟩ := He.ba (List.all_eq_true.mp b _ m)
  have e2 : (fn.map fun d => He.fnW K d.at_)[i]? = (fn.map He.DefD.val)[i]? := by rw [e]
  rw [List.getElem?_map, List.getElem?_map, hi] at e2
  obtain ⟨fd, F⟩ := He.DefD.funD (Option.some.inj e2) q2
  obtain ⟨oc, od, dV, kV, doc, pm, an, cdv, ct, osl, e3, lk, hc, hd, _⟩ := F.ex
  have hdv : dV = .none := by
    rcases hd with ⟨_, z⟩ | ⟨z, _⟩
    · exact z
    · exact absurd rfl z
  subst hdv
  exact ⟨_, fd, He.glo_ok X G q1, ⟨⟨oc, od, kV, doc, pm, an, cdv, ct, osl, e3, lk, hc⟩, F.kp⟩⟩
end
/-- the law, called -/
theorem walkJ {l : PySem.W.OpenLaw} {k : Nat} {q : Program} {loose : List Str} {XP : (Str → Option Value) → Heap → Prop} {YP : World → Heap → Prop} {d : DefRec} {x : Str}
    (hn : l.most = some 63) (hdf : d.params.defaults = []) (hr : Room k callerA)
    (F : ∀ (w : World) (mg : Str → Option Value) (fa : Addr) (h : Heap), YP w h → h.Ns mainGlobals mg → mg d.name = some (.ref fa) →
      ∃ (K : PySem.W.Frag) (fd : FuncData), K.In h ∧ (∀ (s : Shared) (u : Value), BindsTo s fd ⟨[u], []⟩ [(x, u)]) ∧ ∀ base : Heap, K.In base → base.Ns mainGlobals mg → FnG l.prog w K mg base k fa fd [x] (spLaw K)) :
    PySem.W.WalkO q loose XP YP l.row.toRowW d [] (fun f vs => PySem.call f vs) := by
  refine Att.attach_call hn hdf ?_
  intro w s₀ s1 mg mb fa o pm cd doc a vs ns G Y ho hd hcd hmg hob hints hlen hgen
  obtain ⟨K, fd, X, hb, hF⟩ := F w mg fa _ Y G.T.g hmg
  exact law_callG X G.T.g G.T.b G.T.builtins G.T.nolimit hgen hob hints hlen hr hF hb
end J
namespace J
open PySem PySem.Spec PyProof.Rows L2
/-! the run of the top in several statements, so that memory is given back between them -/
theorem run_join {X A B C : Type} {o : Option X} {f1 : X → A} {f2 : X → B} {g : X → C} {a : A} {b : B} {c : C} (h1 : o.map (fun x => (f1 x, f2 x)) = some (a, b)) (h2 : o.map g = some c) : o.map (fun x => (f1 x, f2 x, g x)) = some (a, b, c) := by
  cases o with
  | none => cases h2
  | some x =>
    have e1 : (f1 x, f2 x) = (a, b) := Option.some.inj h1
    have e2 : g x = c := Option.some.inj h2
    obtain ⟨rfl, rfl⟩ := Prod.mk.inj e1
    show some (f1 x, f2 x, g x) = _
    rw [e2]
end J
/-! The head with error classes: what the top has left of them, by facts of names. -/
namespace J
open PySem PySem.Spec PyProof.Rows L2
abbrev ErW : Type := Option (Str × Str × Arguments × FuncBody × Scope × Addr × List Str × Addr)
def erW (K : PySem.W.Frag) (x : Str) : ErW := match K.lookup (He.ma K (He.ga K x) "__init__") with
  | some ⟨_, _, .func fd, _⟩ => some (fd.name, fd.qualname, fd.params, fd.body, fd.scope, fd.globals, fd.closure.map (·.1), fd.builtins)
  | _ => none
/-- an error class: its name, its __init__'s parameters, body, scope -/
structure ErD where
  name : Str
  params : Arguments
  body : List Stmt
  scope : Scope
def ErD.qual (d : ErD) : Str := d.name ++ ".__init__"
def ErD.val (d : ErD) : ErW := some ("__init__", d.qual, d.params, .stmts d.body, d.scope, mainGlobals, ["__class__"], builtinsNs)
def oexB (K : PySem.W.Frag) (C : Addr) : Bool := match K.lookup C with
  | some ⟨.type "type", _, .cls cd, sl⟩ => (match cd.mro, sl.toList with
    | .ref C' :: bm, [_, _, _, _, some (.builtin n), _] => C' == C && n == "ValueError.__new__" && !cd.hasDel && cd.hasDict && HandSPX.refsVE bm
    | _, _ => false)
  | _ => false
theorem oexB_ok {K : PySem.W.Frag} {C : Addr} (q : oexB K C = true) : ∃ nm q N bs bm sn sub ab col dd k0 k1 k2 k3 k5, K.lookup C = some (excClassObj nm q C N bs bm true sn sub ab col dd k0 k1 k2 k3 k5 "ValueError.__new__") ∧ HandSPX.refsVE bm = true := by
  unfold oexB at q
  split at q
  · rename_i dd cd sl ho
    split at q
    · rename_i C' bm k0 k1 k2 k3 n k5 hm hs
      simp only [Bool.and_eq_true, beq_iff_eq, Bool.not_eq_true'] at q
      obtain ⟨⟨⟨⟨rfl, rfl⟩, hdel⟩, hdct⟩, ht⟩ := q
      obtain ⟨nm, bs, mro, ns, qn, hd, sn, sub, ab, col, del⟩ := cd
      dsimp only at hm hdel hdct
      subst hm hdel hdct
      have hsl : sl = #[k0, k1, k2, k3, some (.builtin "ValueError.__new__"), k5] := by
        obtain ⟨l⟩ := sl
        simp only at hs
        rw [hs]
      subst hsl
      exact ⟨nm, qn, ns, bs, bm, sn, sub, ab, col, dd, k0, k1, k2, k3, k5, ho, ht⟩
    · cases q
  · cases q
/-- the function's own facts -/
def erF (fl : Str) (K : PySem.W.Frag) (x : Str) (C f : Addr) : Bool := match K.lookup f with
  | some ⟨_, _, .func fd, _⟩ => (match fd.defaults with | .none => true | _ => false) && (match fd.code with
    | .ref cda => PySem.W.codeIn K (.ref cda) (x ++ ".__init__") && (match K.lookup cda with
      | some ⟨_, _, .fields vs, _⟩ => (match ((vs : Array Value)[2]? : Option Value) with
        | some (.str file _) => fl == file
        | _ => false)
      | _ => false)
    | _ => false) && (match fd.closure with
    | [(_, cc)] => (match K.lookup cc with
      | some ⟨_, _, .cell (some (.ref D)), _⟩ => D == C
      | _ => false)
    | _ => false)
  | _ => false
def erC (K : PySem.W.Frag) (C f : Addr) : Bool := oexB K C && (He.eqO (PySem.W.findIn K (.ref C) "__setattr__") (some (some (.builtin "object.__setattr__"))) && (decide (PySem.W.subIn K (.ref C) (.type "BaseException") = some true) && (decide (PySem.W.typeIn K (.ref C) = some (.type "type")) && (PySem.W.keepIn K (.ref C) &&
  (decide (PySem.W.mroIn K C (.ref C) = some true) && (He.eqO (PySem.W.ks_superIn K C C "__init__") (some (some (.builtin "ValueError.__init__"))) && (decide (PySem.W.subIn K (.ref C) (.type "ValueError") = some true) && (He.eqO (PySem.W.nsIn K cStatics "thirdparty.any") (some none) &&
  (He.eqO (PySem.W.findIn K (.ref C) "__init__") (some (some (.ref f))) && (decide (PySem.W.typeIn K (.ref f) = some (.type "function")) && He.eqO (PySem.W.findIn K (.ref C) sGiven) (some none)))))))))))
def erB (fl : Str) (K : PySem.W.Frag) (x : Str) : Bool := (He.Fa.glo x).ok K && (erC K (He.ga K x) (He.ma K (He.ga K x) "__init__") && erF fl K x (He.ga K x) (He.ma K (He.ga K x) "__init__"))
/-- an error class, from what was seen -/
theorem er_K {P : Program} {w : World} {K : PySem.W.Frag} {h : Heap} {mg : Str → Option Value} {fl : Str} {d : ErD} (X : K.In h) (G : h.Ns mainGlobals mg) (hb : erB fl K d.name = true) (hv : erW K d.name = d.val) (hfl : (P.main.file : Str) = fl) :
    ∃ (f : Addr) (kV doc pm : Value) (an : Option Addr) (cda : Addr) (ct : Value) (cc : Addr), ErrK P K (He.ga K d.name) f d.qual d.body d.scope d.params (PySem.W.ksFn "__init__" d.qual d.params d.body d.scope .none kV doc pm an (.ref cda) ct cc) cda cc ∧ mg d.name = some (.ref (He.ga K d.name)) ∧ OexC K (He.ga K d.name) ∧
      PySem.W.findIn K (.ref (He.ga K d.name)) "__init__" = some (some (.ref f)) ∧ PySem.W.typeIn K (.ref f) = some (.type "function") := by
  obtain ⟨hglo, hb⟩ := He.ba hb
  obtain ⟨hC, hF⟩ := He.ba hb
  unfold erC at hC
  simp only [Bool.and_eq_true, decide_eq_true_eq] at hC
  obtain ⟨c1, c2, c3, c4, c5, c6, c7, c8, c9, c10, c11, c12⟩ := hC
  unfold erW at hv
  unfold erF at hF
  generalize He.ma K (He.ga K d.name) "__init__" = f at *
  have hmg := He.glo_ok X G hglo
  generalize He.ga K d.name = C at *
  cases q : K.lookup f with
  | none => rw [q] at hF; cases hF
  | some o =>
    obtain ⟨oc, od, dt, osl⟩ := o
    rw [q] at hv hF
    cases dt with
    | func fd =>
      obtain ⟨n1, n2, n3, n4, n5, n6, n7, n8, n9, n10, n11, n12, n13, n14, n15⟩ := fd
      have e2 : (some (n1, n2, n3, n4, n5, n6, n7.map (·.1), n15) : ErW) = (some (("__init__" : Str), d.qual, d.params, FuncBody.stmts d.body, d.scope, mainGlobals, (["__class__"] : List Str), builtinsNs) : ErW) := hv
      simp only [Option.some.injEq, Prod.mk.injEq] at e2
      obtain ⟨h1, h2, h3, h4, h5, h6, h7, h8⟩ := e2
      subst h1 h2 h3 h4 h5 h6 h8
      simp only [Bool.and_eq_true] at hF
      obtain ⟨⟨f1, f2⟩, f3⟩ := hF
      obtain ⟨cc, rfl⟩ : ∃ cc, n7 = [(("__class__" : Str), cc)] := by
        cases n7 with
        | nil => cases h7
        | cons a l =>
          cases l with
          | nil =>
            obtain ⟨x, cc⟩ := a
            have : x = "__class__" := by simpa using h7
            exact ⟨cc, by rw [this]⟩
          | cons => simp at h7
      have hd8 : n8 = .none := by
        cases n8 <;> first | rfl | cases f1
      subst hd8
      have hce : ∃ cl cld csl, K.lookup cc = some ⟨cl, cld, .cell (some (.ref C)), csl⟩ := by
        dsimp only at f3
        split at f3
        · rename_i a b D c e
          have := beq_iff_eq.mp f3
          subst this
          exact ⟨_, _, _, e⟩
        · cases f3
      cases n13 with
      | ref cda =>
        dsimp only at f2
        obtain ⟨g1, g2⟩ := Bool.and_eq_true_iff.mp f2
        have hcd : ∃ ccl cdd vs ccs file tf, K.lookup cda = some ⟨ccl, cdd, .fields vs, ccs⟩ ∧ vs[2]? = some (.str file tf) ∧ ((P.main.file : Str) == file) = true := by
          split at g2
          · rename_i a b vs c e
            split at g2
            · rename_i file t e3
              exact ⟨_, _, _, _, _, _, e, e3, by rw [hfl]; exact g2⟩
            · cases g2
          · cases g2
        have OX : OexC K C := ⟨oexB_ok c1, He.eqO_ok c2, c3, c4, c5⟩
        have EK : ErrK P K C f d.qual d.body d.scope d.params (PySem.W.ksFn "__init__" d.qual d.params d.body d.scope .none n9 n10 n11 n12 (.ref cda) n14 cc) cda cc :=
          ⟨OX, ⟨_, _, _, _, _, _, _, _, _, rfl, q⟩, g1, hcd, hce, c6, He.eqO_ok c7, c8, He.eqO_ok c9, He.eqO_ok c10, c11, He.eqO_ok c12⟩
        exact ⟨f, _, _, _, _, cda, _, cc, EK, hmg, OX, He.eqO_ok c10, c11⟩
      | _ => cases f2
    | _ => cases hF
/-! ### the hook -/
def asX (g : Addr → Option Obj) (n : Nat) (xs : List Str) : List Addr := He.asD g n ++ (cStatics :: sysModules :: xs.flatMap fun x => He.ma (He.frG g (He.asD g n)) (He.ga (He.frG g (He.asD g n)) x) "__init__" :: (match g (He.ma (He.frG g (He.asD g n)) (He.ga (He.frG g (He.asD g n)) x) "__init__") with
  | some o => He.refsD o
  | none => []))
abbrev ObE : Type := Bool × List ErW
def seenJX (n : Nat) (xs : List Str) (c : Chk) (fn : List He.DefD) (g : Addr → Option Obj) : ObJ := obJ c fn (He.frG g (asX g n xs))
theorem map_eq_at {α β : Type} {f g : α → β} : ∀ {l : List α}, l.map f = l.map g → ∀ x ∈ l, f x = g x
  | [], _, _, h => by cases h
  | a :: l, e, x, hx => by
    rw [List.map_cons, List.map_cons, List.cons.injEq] at e
    rcases List.mem_cons.mp hx with q | q
    · rw [q]; exact e.1
    · exact map_eq_at e.2 x q
/-! the run of the top in several statements -/
theorem pair_app {X A B : Type} {o : Option X} {f : X → A} {g : X → B} {a : A} {b : B} (h1 : o.map f = some a) (h2 : o.map g = some b) : o.map (fun x => (f x, g x)) = some (a, b) := by
  cases o with
  | none => cases h1
  | some x =>
    have e1 : f x = a := Option.some.inj h1
    have e2 : g x = b := Option.some.inj h2
    show some (f x, g x) = _
    rw [e1, e2]
/-- the n-th statement in a class's body -/
def subS (st : Stmt) (j : Nat) : Stmt := match st with
  | .ClassDef _ _ _ b _ _ _ _ _ _ _ => b.getD j (.Pass ⟨0, 0, 0, 0⟩)
  | s => s
end J
/-! What the head looks at of many error classes that keep a value, or an index. -/
namespace J
def sIndex : PySem.Str := "index"
end J
namespace J
open PySem PySem.Spec PyProof.Rows L2
def nots : List String := ["LookupError", "ArithmeticError", "TypeError", "RuntimeError"]
def sTop : Str := "SteamError"
def kitRow (K : PySem.W.Frag) (xs : List Str) (x : Str) : Bool := (xs.all fun y => decide (PySem.W.kitOne K (.ref (He.ga K x)) (.ref (He.ga K y)) = some (decide (x = y)))) && (decide (PySem.W.kitOne K (.ref (He.ga K x)) (.ref (He.ga K sTop)) = some true) &&
  (decide (PySem.W.kitOne K (.ref (He.ga K x)) (.type "ValueError") = some true) && nots.all fun y => decide (PySem.W.kitOne K (.ref (He.ga K x)) (.type y) = some false)))
def exB (K : PySem.W.Frag) (x : Str) : Bool := xfB K (He.ga K x) && (decide (PySem.W.findIn K (.ref (He.ga K x)) "__class__" = some (some (.builtin "object.__class__"))) && (decide (PySem.W.specialIn K (.builtin "object.__class__") "__get__" = some (some (.builtin "getset_descriptor.__get__"))) &&
  (decide (PySem.W.takesIn K (.builtin "object.__class__") = some true) && decide (PySem.W.mroIn K (He.ga K x) (.type "object") = some true))))
/-- xs: all classes; ws: those that keep an index -/
def errsK (K : PySem.W.Frag) (xs ws : List Str) : Bool := ((sTop :: xs).all fun x => exB K x && kitRow K xs x) && ((xs.all fun x => decide (PySem.W.findIn K (.ref (He.ga K x)) sGiven = some none)) && ((ws.all fun x => decide (PySem.W.findIn K (.ref (He.ga K x)) sIndex = some none)) &&
  (PySem.W.excIn K (He.ga K sTop) [.type "ValueError", .type "Exception", .type "BaseException", .type "object"] "ValueError.__new__" && PySem.W.keepIn K (.ref (He.ga K sTop)))))
end J
namespace J
open PySem PySem.Spec PyProof.Rows L2
def obK (fl : Str) (ws : List Str) (es : List ErD) (K : PySem.W.Frag) : ObE := ((es.all fun d => erB fl K d.name) && (errsK K (es.map (·.name)) ws && ((He.Fa.glo "SteamError").ok K && sysB K)), es.map fun d => erW K d.name)
def seenEK (fl : Str) (ws : List Str) (n : Nat) (es : List ErD) (g : Addr → Option Obj) : ObE := obK fl ws es (He.frG g (asX g n (es.map (·.name))))
def seenK (fl : Str) (ws : List Str) (n : Nat) (c : Chk) (fn : List He.DefD) (es : List ErD) (g : Addr → Option Obj) : ObJ × ObE := (seenJX n (es.map (·.name)) c fn g, seenEK fl ws n es g)
def hookK (fl : Str) (ws : List Str) (n : Nat) (c : Chk) (fn : List He.DefD) (es : List ErD) : PySem.W.Hook :=
  ⟨ObJ × ObE, fun s => seenK fl ws n c fn es s.heap.get?, fun _ => ((true, fn.map He.DefD.val), (true, es.map ErD.val)), fun _ h => ∃ K : PySem.W.Frag, K.In h ∧ saysJ c fn K ∧ obK fl ws es K = (true, es.map ErD.val),
    fun _ _ e => ⟨_, He.frG_in, congrArg Prod.fst e, congrArg Prod.snd e⟩, fun _ _ _ z k => z.elim fun K y => ⟨K, PySem.W.Frag.In.keeps y.1 k, y.2⟩⟩
theorem seenK_eq {fl : Str} {ws : List Str} {n : Nat} {c : Chk} {fn : List He.DefD} {es : List ErD} {s : Shared} {g : Addr → Option Obj} (h : ∀ a, g a = s.heap.get? a) : seenK fl ws n c fn es g = (hookK fl ws n c fn es).obs s := by
  rw [show g = s.heap.get? from funext h]
  exact Eq.refl _
end J
namespace J
open PySem PySem.Spec PyProof.Rows L2
def top (i : Nat) : Stmt := PySem.Challenge.pw_steamlinks_k01_errors_each_of_its_own.main.body.getD i (.Pass ⟨0, 0, 0, 0⟩)
def hfn0 : List He.DefD := [⟨("_law_well", none), "_law_well", "_law_well", defArgs (top 48), defBody (top 48), defScope (top 48), [], []⟩, ⟨("_law_draw", none), "_law_draw", "_law_draw", defArgs (top 49), defBody (top 49), defScope (top 49), [], []⟩, ⟨("_law_pick", none), "_law_pick", "_law_pick", defArgs (top 50), defBody (top 50), defScope (top 50), [], []⟩, ⟨("_law_number", none), "_law_number", "_law_number", defArgs (top 51), defBody (top 51), defScope (top 51), [], []⟩, ⟨("_law_with_given", none), "_law_with_given", "_law_with_given", defArgs (top 52), defBody (top 52), defScope (top 52), [], []⟩, ⟨("_law_with_given_named", none), "_law_with_given_named", "_law_with_given_named", defArgs (top 53), defBody (top 53), defScope (top 53), [], []⟩, ⟨("_law_with_index", none), "_law_with_index", "_law_with_index", defArgs (top 54), defBody (top 54), defScope (top 54), [], []⟩, ⟨("_law_with_index_named", none), "_law_with_index_named", "_law_with_index_named", defArgs (top 55), defBody (top 55), defScope (top 55), [], []⟩, ⟨("_law_bare", none), "_law_bare", "_law_bare", defArgs (top 56), defBody (top 56), defScope (top 56), [], []⟩, ⟨("_law_marks", none), "_law_marks", "_law_marks", defArgs (top 57), defBody (top 57), defScope (top 57), [], []⟩, ⟨("_law_is_under", none), "_law_is_under", "_law_is_under", defArgs (top 58), defBody (top 58), defScope (top 58), [], []⟩, ⟨("_law_stand", none), "_law_stand", "_law_stand", defArgs (top 59), defBody (top 59), defScope (top 59), [], []⟩, ⟨("_law_thing", none), "_law_thing", "_law_thing", defArgs (top 60), defBody (top 60), defScope (top 60), [], []⟩, ⟨("_law_right", none), "_law_right", "_law_right", defArgs (top 61), defBody (top 61), defScope (top 61), [], []⟩, ⟨("law", none), "law", "law", defArgs (top 62), defBody (top 62), defScope (top 62), [], []⟩]
def hfn : List He.DefD := hfn0
abbrev st_InvalidForm : Stmt := subS (top 2) 0
def er_InvalidForm : ErD := ⟨"InvalidForm", defArgs st_InvalidForm, defBody st_InvalidForm, defScope st_InvalidForm⟩
abbrev st_InvalidVector : Stmt := subS (top 3) 0
def er_InvalidVector : ErD := ⟨"InvalidVector", defArgs st_InvalidVector, defBody st_InvalidVector, defScope st_InvalidVector⟩
abbrev st_InvalidNumber : Stmt := subS (top 4) 0
def er_InvalidNumber : ErD := ⟨"InvalidNumber", defArgs st_InvalidNumber, defBody st_InvalidNumber, defScope st_InvalidNumber⟩
abbrev st_InvalidRatio : Stmt := subS (top 5) 0
def er_InvalidRatio : ErD := ⟨"InvalidRatio", defArgs st_InvalidRatio, defBody st_InvalidRatio, defScope st_InvalidRatio⟩
abbrev st_InvalidAngle : Stmt := subS (top 6) 0
def er_InvalidAngle : ErD := ⟨"InvalidAngle", defArgs st_InvalidAngle, defBody st_InvalidAngle, defScope st_InvalidAngle⟩
abbrev st_InvalidWay : Stmt := subS (top 7) 0
def er_InvalidWay : ErD := ⟨"InvalidWay", defArgs st_InvalidWay, defBody st_InvalidWay, defScope st_InvalidWay⟩
abbrev st_InvalidTurn : Stmt := subS (top 8) 0
def er_InvalidTurn : ErD := ⟨"InvalidTurn", defArgs st_InvalidTurn, defBody st_InvalidTurn, defScope st_InvalidTurn⟩
abbrev st_InvalidRegion : Stmt := subS (top 9) 0
def er_InvalidRegion : ErD := ⟨"InvalidRegion", defArgs st_InvalidRegion, defBody st_InvalidRegion, defScope st_InvalidRegion⟩
abbrev st_InvalidValve : Stmt := subS (top 10) 0
def er_InvalidValve : ErD := ⟨"InvalidValve", defArgs st_InvalidValve, defBody st_InvalidValve, defScope st_InvalidValve⟩
abbrev st_InvalidLaps : Stmt := subS (top 11) 0
def er_InvalidLaps : ErD := ⟨"InvalidLaps", defArgs st_InvalidLaps, defBody st_InvalidLaps, defScope st_InvalidLaps⟩
abbrev st_InvalidPort : Stmt := subS (top 12) 0
def er_InvalidPort : ErD := ⟨"InvalidPort", defArgs st_InvalidPort, defBody st_InvalidPort, defScope st_InvalidPort⟩
abbrev st_InvalidEnd : Stmt := subS (top 13) 0
def er_InvalidEnd : ErD := ⟨"InvalidEnd", defArgs st_InvalidEnd, defBody st_InvalidEnd, defScope st_InvalidEnd⟩
abbrev st_InvalidWord : Stmt := subS (top 14) 0
def er_InvalidWord : ErD := ⟨"InvalidWord", defArgs st_InvalidWord, defBody st_InvalidWord, defScope st_InvalidWord⟩
abbrev st_InvalidRod : Stmt := subS (top 15) 0
def er_InvalidRod : ErD := ⟨"InvalidRod", defArgs st_InvalidRod, defBody st_InvalidRod, defScope st_InvalidRod⟩
abbrev st_InvalidShare : Stmt := subS (top 16) 0
def er_InvalidShare : ErD := ⟨"InvalidShare", defArgs st_InvalidShare, defBody st_InvalidShare, defScope st_InvalidShare⟩
abbrev st_InvalidStroke : Stmt := subS (top 17) 0
def er_InvalidStroke : ErD := ⟨"InvalidStroke", defArgs st_InvalidStroke, defBody st_InvalidStroke, defScope st_InvalidStroke⟩
abbrev st_InvalidPolynomial : Stmt := subS (top 18) 0
def er_InvalidPolynomial : ErD := ⟨"InvalidPolynomial", defArgs st_InvalidPolynomial, defBody st_InvalidPolynomial, defScope st_InvalidPolynomial⟩
abbrev st_InvalidPoint : Stmt := subS (top 19) 0
def er_InvalidPoint : ErD := ⟨"InvalidPoint", defArgs st_InvalidPoint, defBody st_InvalidPoint, defScope st_InvalidPoint⟩
abbrev st_InvalidLink : Stmt := subS (top 20) 0
def er_InvalidLink : ErD := ⟨"InvalidLink", defArgs st_InvalidLink, defBody st_InvalidLink, defScope st_InvalidLink⟩
abbrev st_InvalidNotch : Stmt := subS (top 21) 0
def er_InvalidNotch : ErD := ⟨"InvalidNotch", defArgs st_InvalidNotch, defBody st_InvalidNotch, defScope st_InvalidNotch⟩
abbrev st_InvalidLot : Stmt := subS (top 22) 0
def er_InvalidLot : ErD := ⟨"InvalidLot", defArgs st_InvalidLot, defBody st_InvalidLot, defScope st_InvalidLot⟩
abbrev st_InvalidEngine : Stmt := subS (top 23) 0
def er_InvalidEngine : ErD := ⟨"InvalidEngine", defArgs st_InvalidEngine, defBody st_InvalidEngine, defScope st_InvalidEngine⟩
abbrev st_InvalidSense : Stmt := subS (top 24) 0
def er_InvalidSense : ErD := ⟨"InvalidSense", defArgs st_InvalidSense, defBody st_InvalidSense, defScope st_InvalidSense⟩
abbrev st_InvalidGeared : Stmt := subS (top 25) 0
def er_InvalidGeared : ErD := ⟨"InvalidGeared", defArgs st_InvalidGeared, defBody st_InvalidGeared, defScope st_InvalidGeared⟩
abbrev st_InvalidWrong : Stmt := subS (top 26) 0
def er_InvalidWrong : ErD := ⟨"InvalidWrong", defArgs st_InvalidWrong, defBody st_InvalidWrong, defScope st_InvalidWrong⟩
abbrev st_InvalidLook : Stmt := subS (top 27) 0
def er_InvalidLook : ErD := ⟨"InvalidLook", defArgs st_InvalidLook, defBody st_InvalidLook, defScope st_InvalidLook⟩
abbrev st_InvalidThing : Stmt := subS (top 28) 0
def er_InvalidThing : ErD := ⟨"InvalidThing", defArgs st_InvalidThing, defBody st_InvalidThing, defScope st_InvalidThing⟩
abbrev st_InvalidName : Stmt := subS (top 29) 0
def er_InvalidName : ErD := ⟨"InvalidName", defArgs st_InvalidName, defBody st_InvalidName, defScope st_InvalidName⟩
abbrev st_InvalidWish : Stmt := subS (top 30) 0
def er_InvalidWish : ErD := ⟨"InvalidWish", defArgs st_InvalidWish, defBody st_InvalidWish, defScope st_InvalidWish⟩
abbrev st_InvalidIndex : Stmt := subS (top 31) 0
def er_InvalidIndex : ErD := ⟨"InvalidIndex", defArgs st_InvalidIndex, defBody st_InvalidIndex, defScope st_InvalidIndex⟩
abbrev st_InvalidPhrase : Stmt := subS (top 32) 0
def er_InvalidPhrase : ErD := ⟨"InvalidPhrase", defArgs st_InvalidPhrase, defBody st_InvalidPhrase, defScope st_InvalidPhrase⟩
abbrev st_Unlike : Stmt := subS (top 33) 0
def er_Unlike : ErD := ⟨"Unlike", defArgs st_Unlike, defBody st_Unlike, defScope st_Unlike⟩
abbrev st_Same : Stmt := subS (top 34) 0
def er_Same : ErD := ⟨"Same", defArgs st_Same, defBody st_Same, defScope st_Same⟩
abbrev st_UnknownName : Stmt := subS (top 35) 0
def er_UnknownName : ErD := ⟨"UnknownName", defArgs st_UnknownName, defBody st_UnknownName, defScope st_UnknownName⟩
abbrev st_NotAWorkshop : Stmt := subS (top 36) 0
def er_NotAWorkshop : ErD := ⟨"NotAWorkshop", defArgs st_NotAWorkshop, defBody st_NotAWorkshop, defScope st_NotAWorkshop⟩
abbrev st_InvalidSightings : Stmt := subS (top 37) 0
def er_InvalidSightings : ErD := ⟨"InvalidSightings", defArgs st_InvalidSightings, defBody st_InvalidSightings, defScope st_InvalidSightings⟩
abbrev st_InvalidWrongs : Stmt := subS (top 38) 0
def er_InvalidWrongs : ErD := ⟨"InvalidWrongs", defArgs st_InvalidWrongs, defBody st_InvalidWrongs, defScope st_InvalidWrongs⟩
abbrev st_InvalidLooks : Stmt := subS (top 39) 0
def er_InvalidLooks : ErD := ⟨"InvalidLooks", defArgs st_InvalidLooks, defBody st_InvalidLooks, defScope st_InvalidLooks⟩
abbrev st_InvalidFindings : Stmt := subS (top 40) 0
def er_InvalidFindings : ErD := ⟨"InvalidFindings", defArgs st_InvalidFindings, defBody st_InvalidFindings, defScope st_InvalidFindings⟩
abbrev st_InUse : Stmt := subS (top 41) 0
def er_InUse : ErD := ⟨"InUse", defArgs st_InUse, defBody st_InUse, defScope st_InUse⟩
abbrev st_Broken : Stmt := subS (top 42) 0
def er_Broken : ErD := ⟨"Broken", defArgs st_Broken, defBody st_Broken, defScope st_Broken⟩
abbrev st_NoAngle : Stmt := subS (top 43) 0
def er_NoAngle : ErD := ⟨"NoAngle", defArgs st_NoAngle, defBody st_NoAngle, defScope st_NoAngle⟩
abbrev st_NoFit : Stmt := subS (top 44) 0
def er_NoFit : ErD := ⟨"NoFit", defArgs st_NoFit, defBody st_NoFit, defScope st_NoFit⟩
abbrev st_Nought : Stmt := subS (top 45) 0
def er_Nought : ErD := ⟨"Nought", defArgs st_Nought, defBody st_Nought, defScope st_Nought⟩
abbrev st_NothingToUndo : Stmt := subS (top 46) 0
def er_NothingToUndo : ErD := ⟨"NothingToUndo", defArgs st_NothingToUndo, defBody st_NothingToUndo, defScope st_NothingToUndo⟩
def hes : List ErD := [er_InvalidForm, er_InvalidVector, er_InvalidNumber, er_InvalidRatio, er_InvalidAngle, er_InvalidWay, er_InvalidTurn, er_InvalidRegion, er_InvalidValve, er_InvalidLaps, er_InvalidPort, er_InvalidEnd, er_InvalidWord, er_InvalidRod, er_InvalidShare, er_InvalidStroke, er_InvalidPolynomial, er_InvalidPoint, er_InvalidLink, er_InvalidNotch, er_InvalidLot, er_InvalidEngine, er_InvalidSense, er_InvalidGeared, er_InvalidWrong, er_InvalidLook, er_InvalidThing, er_InvalidName, er_InvalidWish, er_InvalidIndex, er_InvalidPhrase, er_Unlike, er_Same, er_UnknownName, er_NotAWorkshop, er_InvalidSightings, er_InvalidWrongs, er_InvalidLooks, er_InvalidFindings, er_InUse, er_Broken, er_NoAngle, er_NoFit, er_Nought, er_NothingToUndo]
def hfl : Str := "/claim/cut.py"
abbrev hxn : List Str := [("InvalidForm" : Str), ("InvalidVector" : Str), ("InvalidNumber" : Str), ("InvalidRatio" : Str), ("InvalidAngle" : Str), ("InvalidWay" : Str), ("InvalidTurn" : Str), ("InvalidRegion" : Str), ("InvalidValve" : Str), ("InvalidLaps" : Str), ("InvalidPort" : Str), ("InvalidEnd" : Str), ("InvalidWord" : Str), ("InvalidRod" : Str), ("InvalidShare" : Str), ("InvalidStroke" : Str), ("InvalidPolynomial" : Str), ("InvalidPoint" : Str), ("InvalidLink" : Str), ("InvalidNotch" : Str), ("InvalidLot" : Str), ("InvalidEngine" : Str), ("InvalidSense" : Str), ("InvalidGeared" : Str), ("InvalidWrong" : Str), ("InvalidLook" : Str), ("InvalidThing" : Str), ("InvalidName" : Str), ("InvalidWish" : Str), ("InvalidIndex" : Str), ("InvalidPhrase" : Str), ("Unlike" : Str), ("Same" : Str), ("UnknownName" : Str), ("NotAWorkshop" : Str)]
abbrev hwn : List Str := [("InvalidSightings" : Str), ("InvalidWrongs" : Str), ("InvalidLooks" : Str), ("InvalidFindings" : Str), ("InUse" : Str), ("Broken" : Str)]
abbrev hyn : List Str := [("NoAngle" : Str), ("NoFit" : Str), ("Nought" : Str), ("NothingToUndo" : Str)]
def hck : Chk := ⟨([("str" : Str), ("int" : Str), ("bool" : Str), ("tuple" : Str), ("list" : Str), ("len" : Str), ("abs" : Str), ("min" : Str), ("max" : Str), ("all" : Str), ("range" : Str), ("isinstance" : Str), ("repr" : Str), ("divmod" : Str), ("super" : Str), ("ValueError" : Str), ("LookupError" : Str), ("ArithmeticError" : Str), ("TypeError" : Str), ("RuntimeError" : Str)] : List Str), [], [], []⟩
abbrev hrow : PySem.W.OpenRow := PySem.W.OpenLaw.row PySem.Challenge.rw_steamlinks_k01_errors_each_of_its_own
def hob (s : PySem.W.SharedT) : ObJ × ObE := seenK hfl hwn 2 hck hfn hes (HandSHeadRun.getT s)
theorem hob_eq (s : PySem.W.SharedT) : hob s = (hookK hfl hwn 2 hck hfn hes).obs s.abs := seenK_eq (HandSHeadRun.getT_eq s)
def hloose : List Str := ([("__name__" : Str), ("SteamError" : Str), ("InvalidForm" : Str), ("InvalidVector" : Str), ("InvalidNumber" : Str), ("InvalidRatio" : Str), ("InvalidAngle" : Str), ("InvalidWay" : Str), ("InvalidTurn" : Str), ("InvalidRegion" : Str), ("InvalidValve" : Str), ("InvalidLaps" : Str), ("InvalidPort" : Str), ("InvalidEnd" : Str), ("InvalidWord" : Str), ("InvalidRod" : Str), ("InvalidShare" : Str), ("InvalidStroke" : Str), ("InvalidPolynomial" : Str), ("InvalidPoint" : Str), ("InvalidLink" : Str), ("InvalidNotch" : Str), ("InvalidLot" : Str), ("InvalidEngine" : Str), ("InvalidSense" : Str), ("InvalidGeared" : Str), ("InvalidWrong" : Str), ("InvalidLook" : Str), ("InvalidThing" : Str), ("InvalidName" : Str), ("InvalidWish" : Str), ("InvalidIndex" : Str), ("InvalidPhrase" : Str), ("Unlike" : Str), ("Same" : Str)] : List Str) ++ ([("UnknownName" : Str), ("NotAWorkshop" : Str), ("InvalidSightings" : Str), ("InvalidWrongs" : Str), ("InvalidLooks" : Str), ("InvalidFindings" : Str), ("InUse" : Str), ("Broken" : Str), ("NoAngle" : Str), ("NoFit" : Str), ("Nought" : Str), ("NothingToUndo" : Str), ("_law_well" : Str), ("_law_draw" : Str), ("_law_pick" : Str), ("_law_number" : Str), ("_law_with_given" : Str), ("_law_with_given_named" : Str), ("_law_with_index" : Str), ("_law_with_index_named" : Str), ("_law_bare" : Str), ("_law_marks" : Str), ("_law_is_under" : Str), ("_law_stand" : Str), ("_law_thing" : Str), ("_law_right" : Str)] : List Str)
theorem hrunA (w : World) (os : OsState) : (HandSHeadRun.endF (HandSHeadRun.stepQ (HandSHeadRun.denQ HandSHeadRun.tabQ) hrow.prog w) 60000 hrow.prog w os).map (fun x => (HandSHeadRun.looksF hrow.prog (PySem.W.boot_heap w.params) x.abs, HandSHeadRun.seenQ (PySem.W.view hrow.prog [62]) hloose (importedModules hrow.prog.main.body) (fun s => PySem.W.xlAt (PySem.W.view hrow.prog [62]) [] s && PySem.W.recOk hrow.toRowW.records s) x.abs)) = some (true, PySem.W.openGood (PySem.W.view hrow.prog [62]) hloose) := by
  kernel_rfl
theorem hrunF (w : World) (os : OsState) : (HandSHeadRun.endF (HandSHeadRun.stepQ (HandSHeadRun.denQ HandSHeadRun.tabQ) hrow.prog w) 60000 hrow.prog w os).map (fun x => seenJX 2 (hes.map (·.name)) hck hfn (HandSHeadRun.getT x)) = some (true, hfn.map He.DefD.val) := by
  kernel_rfl
theorem hrunE (w : World) (os : OsState) : (HandSHeadRun.endF (HandSHeadRun.stepQ (HandSHeadRun.denQ HandSHeadRun.tabQ) hrow.prog w) 60000 hrow.prog w os).map (fun x => seenEK hfl hwn 2 hes (HandSHeadRun.getT x)) = some (true, hes.map ErD.val) := by
  kernel_rfl
theorem hrunJ (w : World) (os : OsState) : (HandSHeadRun.endF (HandSHeadRun.stepQ (HandSHeadRun.denQ HandSHeadRun.tabQ) hrow.prog w) 60000 hrow.prog w os).map (fun x => (HandSHeadRun.looksF hrow.prog (PySem.W.boot_heap w.params) x.abs, HandSHeadRun.seenQ (PySem.W.view hrow.prog [62]) hloose (importedModules hrow.prog.main.body) (fun s => PySem.W.xlAt (PySem.W.view hrow.prog [62]) [] s && PySem.W.recOk hrow.toRowW.records s) x.abs, hob x)) = some (true, PySem.W.openGood (PySem.W.view hrow.prog [62]) hloose, ((true, hfn.map He.DefD.val), (true, hes.map ErD.val))) := by
  have h1 := hrunA w os
  have h2 := hrunF w os
  have h3 := hrunE w os
  revert h1 h2 h3
  generalize (HandSHeadRun.endF (HandSHeadRun.stepQ (HandSHeadRun.denQ HandSHeadRun.tabQ) hrow.prog w) 60000 hrow.prog w os) = o
  intro h1 h2 h3
  exact run_join h1 (pair_app h2 h3)
theorem hrun (w : World) : HandSHeadRun.RunEq hrow (PySem.W.view hrow.prog [62]) (hookK hfl hwn 2 hck hfn hes) hob 60000 hloose w := hrunJ w
end J
namespace J
open PySem PySem.Spec PyProof.Rows L2
/-! ### plain mathematics: whole rows, common divisors, turns -/
def gcdF (a : Nat) (x : Int) : Nat := Nat.gcd a x.natAbs
def gcds (ns : List Int) : Nat := ns.foldl gcdF 0
end J
namespace J
open PySem PySem.Spec PyProof.Rows L2
section
variable {K : PySem.W.Frag} {p : Option Addr} {g : Gh p} {n : Nat} {Γ : DEnv} {R : PyData → Nat → Prop} {D : DEnds}
theorem ea_use {t : TA} {R R' : List PyData → Nat → Prop} (h : Ea K g t Γ n R') (k : ∀ d n, R' d n → R d n) : Ea K g t Γ n R := fun σ H e Q q => h σ H e Q fun d n' v H' a b c i => q d n' v H' (k d n' a) b c i
end
/-! ### what the program's own small defs promise -/
/-! ### what the law's own small defs promise -/
def Pre_pick (ds : List PyData) : Prop := ∃ es : List PyData, ds = [.tuple es] ∧ es ≠ [] ∧ es.length ≤ 1000
def P_pick (ds : List PyData) (d : PyData) : Prop := ∃ es : List PyData, ds = [.tuple es] ∧ d ∈ es
def Pre_draw (ds : List PyData) : Prop := ∃ m : Int, ds = [.int m] ∧ 0 < m ∧ Bd 1000 m
def P_draw (ds : List PyData) (d : PyData) : Prop := ∃ m i : Int, ds = [.int m] ∧ d = .int i ∧ 0 ≤ i ∧ i < m
def Pre_none (ds : List PyData) : Prop := ds = []
def P_number (ds : List PyData) (d : PyData) : Prop := ∃ i : Int, d = .int i ∧ Bd 41 i
def P_true (ds : List PyData) (d : PyData) : Prop := d = .bool true
end J
namespace J
open PySem PySem.Spec PyProof.Rows L2
/-! ### data that may be written out -/
structure Sw (n : Nat) (d : PyData) : Prop where
  sh : d.showable = true
  nd : d.hasDict = false
  dp : d.depth ≤ n
  ln : d.shown.length ≤ 620 * 30 ^ n
structure SwA (n : Nat) (ds : List PyData) : Prop where
  sh : PyData.showableAll ds = true
  nd : PyData.hasDictAll ds = false
  dp : PyData.depthAll ds ≤ n
  ln : ((PyData.shownAll ds).map (·.length)).sum ≤ ds.length * (620 * 30 ^ n)
  cn : (PyData.shownAll ds).length = ds.length
theorem pow30 (n : Nat) : 1 ≤ 30 ^ n := Nat.pos_of_ne_zero (by simp)
theorem sw_int {n : Nat} {i : Int} (b : Bd 600 i) : Sw n (.int i) := by
  have hl : i.natAbs.log2 < 600 := PySem.Flt.log2_lt_of (k := 600) (by decide) b
  refine ⟨?_, rfl, Nat.zero_le _, ?_⟩
  · show decide (i.natAbs.log2 < 1920) = true
    exact decide_eq_true (by omega)
  · show (Str.ofString (toString i)).length ≤ _
    have h1 := int_text_length_le (k := 600) (by decide) hl
    have h2 : (Str.ofString (toString i)).length ≤ 601 := by
      rw [Str.ofString_eq_toList]
      show ((toString i).toList.map Char.toNat).toArray.size ≤ 601
      rw [List.size_toArray, List.length_map, String.length_toList]
      exact h1
    have := pow30 n
    omega
theorem sw_bool {n : Nat} {b : Bool} : Sw n (.bool b) := by
  refine ⟨rfl, rfl, Nat.zero_le _, ?_⟩
  have := pow30 n
  have h : (PyData.shown (.bool b)).length ≤ 5 := by cases b <;> decide
  omega
theorem sw_none {n : Nat} : Sw n .none := by
  refine ⟨rfl, rfl, Nat.zero_le _, ?_⟩
  have := pow30 n
  have h : (PyData.shown .none).length ≤ 5 := by decide
  omega
theorem swa_nil {n : Nat} : SwA n [] := ⟨rfl, rfl, Nat.zero_le _, Nat.zero_le _, rfl⟩
theorem swa_cons {n : Nat} {d : PyData} {ds : List PyData} (h : Sw n d) (t : SwA n ds) : SwA n (d :: ds) := by
  refine ⟨?_, ?_, ?_, ?_, ?_⟩
  · simp only [PyData.showableAll, h.sh, t.sh, Bool.and_true]
  · simp only [PyData.hasDictAll, h.nd, t.nd, Bool.or_false]
  · simp only [PyData.depthAll]
    exact Nat.max_le.mpr ⟨h.dp, t.dp⟩
  · simp only [PyData.shownAll, List.map_cons, List.sum_cons, List.length_cons]
    have := h.ln
    have := t.ln
    rw [Nat.succ_mul]
    omega
  · simp only [PyData.shownAll, List.length_cons, t.cn]
theorem sw_lst {n : Nat} {ds : List PyData} (h : SwA n ds) (hl : ds.length ≤ 28) : Sw (n + 1) (.list ds) := by
  refine ⟨?_, ?_, ?_, ?_⟩
  · simpa only [PyData.showable] using h.sh
  · simpa only [PyData.hasDict] using h.nd
  · simp only [PyData.depth]
    have := h.dp
    omega
  · simp only [PyData.shown]
    refine Nat.le_trans (listText_len_le _) ?_
    rw [h.cn]
    have := h.ln
    have p := pow30 n
    have m : ds.length * (620 * 30 ^ n) ≤ 28 * (620 * 30 ^ n) := Nat.mul_le_mul_right _ hl
    rw [Nat.pow_succ]
    omega
theorem sw_tup {n : Nat} {ds : List PyData} (h : SwA n ds) (hl : ds.length ≤ 28) : Sw (n + 1) (.tuple ds) := by
  refine ⟨?_, ?_, ?_, ?_⟩
  · simpa only [PyData.showable] using h.sh
  · simpa only [PyData.hasDict] using h.nd
  · simp only [PyData.depth]
    have := h.dp
    omega
  · simp only [PyData.shown]
    refine Nat.le_trans (tupleText_len_le _) ?_
    rw [h.cn]
    have := h.ln
    have p := pow30 n
    have m : ds.length * (620 * 30 ^ n) ≤ 28 * (620 * 30 ^ n) := Nat.mul_le_mul_right _ hl
    rw [Nat.pow_succ]
    omega
theorem cl_reprS {K : PySem.W.Frag} {p : Option Addr} {R : PyData → Prop} {d : PyData} (h1 : PyProof.Rows.isDisplay d = true) (h : Sw 3 d) (r : R (.str d.shown)) : Cl K p (rRepr K) [d] R :=
  cl_repr h1 h.sh h.nd (Nat.le_trans h.dp (by decide)) (Nat.le_trans h.ln (by decide)) r
/-! ### turned vectors, sums of turns -/
end J
namespace J
open PySem PySem.Spec PyProof.Rows L2
section
variable {K : PySem.W.Frag} {p : Option Addr} {g : Gh p} {n : Nat} {Γ : DEnv} {R : PyData → Nat → Prop}
/-- a comprehension whose test never holds -/
theorem lcI_none {i : Nat} {tt : TT} {te : TE} {ds : List PyData} {m : Nat} (len : ds.length ≤ 1000)
    (tst : ∀ x ∈ ds, Et K g tt (Γ.set i (some x)) m fun b n2 => b = false ∧ n2 = m) (r : R (.list []) m) : ∃ I, LcI K g i tt te Γ m ds R I := by
  refine ⟨fun j acc n' => acc = [] ∧ n' = m, len, ⟨rfl, rfl⟩, ?_, ?_⟩
  · rintro j x acc n' hx ⟨rfl, rfl⟩
    intro σ H e Q q
    refine tst x (List.mem_of_getElem? hx) σ H e Q ?_
    rintro b n2 H' ⟨rfl, rfl⟩ f1 g1
    exact q false _ H' ⟨fun z => Bool.noConfusion z, fun _ => ⟨rfl, rfl⟩⟩ f1 g1
  · rintro acc n' ⟨rfl, rfl⟩
    exact r
theorem op_neNil {R : PyData → Prop} (r : R (.bool false)) : Op K p (rNeD K) (.list []) (.list []) R := by
  refine op_neD rfl rfl ?_ ?_ ?_
  · show (PyData.canLay0 (.list []) && decide (PyData.depth (.list []) ≤ 64)) = true
    simp [PyData.canLay0, PyData.canLayAll0, PyData.depth, PyData.depthAll]
  · show (PyData.canLay0 (.list []) && decide (PyData.depth (.list []) ≤ 64)) = true
    simp [PyData.canLay0, PyData.canLayAll0, PyData.depth, PyData.depthAll]
  · have e : PyData.eqv (.list []) (.list []) = true := by simp [PyData.eqv, PyData.eqvAll]
    rw [e]; exact r
end
end J
namespace J
open PySem PySem.Spec PyProof.Rows L2
/-! ### signs with one root -/
def sgn (x : Int) : Int := if 0 < x then 1 else if x < 0 then -1 else 0
def sgn2 (p q d : Int) : Int := if sgn p = sgn q ∨ sgn q = 0 then sgn p else if sgn p = 0 then sgn q else sgn p * sgn (p * p - q * q * d)
theorem sgn_pos {x : Int} (h : 0 < x) : sgn x = 1 := if_pos h
theorem sgn_neg {x : Int} (h : x < 0) : sgn x = -1 := by unfold sgn; rw [if_neg (by omega), if_pos h]
theorem sgn_zero : sgn 0 = 0 := rfl
theorem sgn_cases (x : Int) : (0 < x ∧ sgn x = 1) ∨ (x < 0 ∧ sgn x = -1) ∨ (x = 0 ∧ sgn x = 0) := by
  rcases Int.lt_trichotomy x 0 with h | h | h
  · exact .inr (.inl ⟨h, sgn_neg h⟩)
  · subst h; exact .inr (.inr ⟨rfl, rfl⟩)
  · exact .inl ⟨h, sgn_pos h⟩
theorem sgn_bd (x : Int) : Bd 1 (sgn x) := by
  rcases sgn_cases x with ⟨_, e⟩ | ⟨_, e⟩ | ⟨_, e⟩ <;> rw [e] <;> exact bd_lit 1
theorem sgn_opp (x : Int) : sgn (-x) = -sgn x := by
  rcases sgn_cases x with ⟨h, e⟩ | ⟨h, e⟩ | ⟨h, e⟩
  · rw [e, sgn_neg (by omega)]
  · rw [e, sgn_pos (by omega)]; rfl
  · rw [h]; rfl
theorem sgn_mul_pos {k x : Int} (hk : 0 < k) : sgn (k * x) = sgn x := by
  rcases sgn_cases x with ⟨h, e⟩ | ⟨h, e⟩ | ⟨h, e⟩
  · rw [e, sgn_pos (Int.mul_pos hk h)]
  · rw [e, sgn_neg (Int.mul_neg_of_pos_of_neg hk h)]
  · rw [h, Int.mul_zero]
theorem sgn2_bd (p q d : Int) : Bd 1 (sgn2 p q d) := by
  unfold sgn2
  split
  · exact sgn_bd p
  · split
    · exact sgn_bd q
    · rcases sgn_cases p with ⟨_, a⟩ | ⟨_, a⟩ | ⟨_, a⟩ <;> rcases sgn_cases (p * p - q * q * d) with ⟨_, b⟩ | ⟨_, b⟩ | ⟨_, b⟩ <;> rw [a, b] <;> exact bd_lit 1
theorem sgn2_zero (d : Int) : sgn2 0 0 d = 0 := rfl
theorem sgn2_q0 (p d : Int) : sgn2 p 0 d = sgn p := if_pos (.inr rfl)
/-! ### roots of whole numbers -/
/-! ### angles -/
def nm (r a b : Int) : Int := a * a + r * b * b
def isA (r a b l : Int) : Prop := (1 ≤ r ∧ r ≤ 3) ∧ gcds [a, b, l] = 1 ∧ l * l < nm r a b
def angD (r a b l : Int) : PyData := .tuple [.int r, .int a, .int b, .int l]
theorem sq_nn (x : Int) : 0 ≤ x * x := by
  rcases Int.le_total 0 x with z | z
  · exact Int.mul_nonneg z z
  · exact Int.mul_nonneg_of_nonpos_of_nonpos z z
/-- what stands over the root at an angle -/
def rsq (r a b l : Int) : Int := r * (nm r a b - l * l)
theorem rsq_pos {r a b l : Int} (h : isA r a b l) : 0 < rsq r a b l := Int.mul_pos (by have := h.1.1; omega) (by have := h.2.2; omega)
/-- the sign of <u, v> - k at the place -/
def sidD (r a b l v0 v1 k : Int) : Int := sgn2 (l * (a * v0 + r * b * v1) - k * nm r a b) (-(a * v1 - b * v0)) (rsq r a b l)
end J
namespace J
open PySem PySem.Spec PyProof.Rows L2
/-- repr of a whole number, too -/
def rReprA (K : PySem.W.Frag) : List V → Hp → VK → Prop := fun xs H Q => rRepr K xs H Q ∨ ∃ i : Int, xs = [.int i] ∧ i.natAbs.log2 < 1920 ∧ Q (.str (PyData.shown (.int i))) H
theorem cr_reprA {X : Cx} {K : PySem.W.Frag} (h : X.K = K) (hg : X.A.guards = some []) (hu : X.A.units + 64 < cLine) : CallR X (.builtin "repr") (rReprA K) := by
  subst h
  intro pins s σ H xs us Q I r h
  rcases h with h | ⟨i, rfl, hz, q⟩
  · exact call_repr hg hu pins s σ H xs us Q I r h
  · cases r with
    | cons rx rt =>
      cases rt
      obtain ⟨t, rfl⟩ := rx
      exact PySem.P.repr_of_int hz ⟨.str _, H, I.tok _, ⟨_, rfl⟩, q⟩
section
variable {K : PySem.W.Frag} {p : Option Addr} {R : PyData → Prop}
theorem cl_reprSA {d : PyData} (h1 : PyProof.Rows.isDisplay d = true) (h : Sw 3 d) (r : R (.str d.shown)) : Cl K p (rReprA K) [d] R := fun H vs tr ia Q q => .inl (cl_reprS h1 h r H vs tr ia Q q)
theorem cl_reprIA {i : Int} (b : Bd 1900 i) (r : R (.str (PyData.shown (.int i)))) : Cl K p (rReprA K) [.int i] R := fun H vs tr ia Q q => by
  cases ia with
  | cons ix it =>
    cases it; cases ix
    exact .inr ⟨i, rfl, Nat.lt_of_lt_of_le (PySem.Flt.log2_lt_of (k := 1900) (by decide) b) (by decide), q _ _ H r (Same.refl H) (.str _)⟩
end
end J
namespace J
open PySem PySem.Spec PyProof.Rows L2
/-! four terms -/
def sgn4 (p q s t S T : Int) : Int :=
  let a := sgn2 p q S
  let b := sgn2 s t S
  if a = b ∨ b = 0 then a else if a = 0 then b else a * sgn2 (p * p + q * q * S - (s * s + t * t * S) * T) (2 * (p * q - s * t * T)) S
/-- the sine from the place of a, b, l to that of c, e, m -/
def sinD (r a b l c e m : Int) : Int :=
  sgn4 (r * l * m * (a * e - b * c)) (m * (a * c + r * b * e)) (-l * (a * c + r * b * e)) (a * e - b * c) (rsq r a b l) (rsq r c e m)
def hlfD (r a b l : Int) : Bool := decide (0 < sidD r a b l 0 1 0) || (decide (sidD r a b l 0 1 0 = 0) && decide (0 < sidD r a b l 1 0 0))
def smD (r a b l c e m : Int) : Bool := decide (hlfD r a b l = hlfD r c e m) && decide (sinD r a b l c e m = 0)
end J
namespace J
open PySem PySem.Spec PyProof.Rows L2
theorem sgn2_p0 (q d : Int) : sgn2 0 q d = sgn q := by
  unfold sgn2
  rw [sgn_zero]
  split
  · rename_i h
    rcases h with h | h
    · exact h
    · exact h.symm
  · exact if_pos rfl
end J
namespace J
open PySem PySem.Spec PyProof.Rows L2
/-! ways of angles, told by whole roots -/
theorem sgn2_sq {p q R : Int} (hR : 0 < R) : sgn2 p q (R * R) = sgn (p + q * R) := by
  unfold sgn2
  have e : p * p - q * q * (R * R) = (p - q * R) * (p + q * R) := by grind
  rw [e]
  rcases sgn_cases q with ⟨hq, eq⟩ | ⟨hq, eq⟩ | ⟨hq, eq⟩
  · have hm := Int.mul_pos hq hR
    rw [eq]
    generalize q * R = z at *
    rcases sgn_cases p with ⟨hp, ep⟩ | ⟨hp, ep⟩ | ⟨hp, ep⟩ <;> rw [ep]
    · rw [if_pos (by decide), sgn_pos (by omega)]
    · rw [if_neg (by decide), if_neg (by decide), show (p - z) * (p + z) = (z - p) * -(p + z) by grind, sgn_mul_pos (by omega), sgn_opp]; omega
    · rw [if_neg (by decide), if_pos (by decide), sgn_pos (by omega)]
  · have hm := Int.mul_pos (show 0 < -q by omega) hR
    have e2 : -q * R = -(q * R) := Int.neg_mul _ _
    rw [e2] at hm
    rw [eq]
    generalize q * R = z at *
    rcases sgn_cases p with ⟨hp, ep⟩ | ⟨hp, ep⟩ | ⟨hp, ep⟩ <;> rw [ep]
    · rw [if_neg (by decide), if_neg (by decide), sgn_mul_pos (by omega)]; omega
    · rw [if_pos (by decide), sgn_neg (by omega)]
    · rw [if_neg (by decide), if_pos (by decide), sgn_neg (by omega)]
  · rw [eq, hq]
    rw [if_pos (.inr rfl), Int.zero_mul, Int.add_zero]
theorem sgn_scale {m k x y : Int} (hm : 0 < m) (hk : 0 < k) (h : m * x = k * y) : sgn x = sgn y := by
  rw [← sgn_mul_pos hm, h, sgn_mul_pos hk]
/-- an angle (a, b, l) with a whole root R, and the angle (A, B, 0) of its way -/
structure OnWay (f a b l R A B : Int) : Prop where
  R0 : 0 < R
  RR : R * R = rsq f a b l
  N0 : 0 < nm f a b
  ex : ∃ K1 K2 : Int, 0 < K1 ∧ 0 < K2 ∧ K1 * A = K2 * (R * a - f * l * b) ∧ K1 * B = K2 * (l * a + R * b)
section
variable {f a b l R A B : Int}
theorem OnWay.inner (h : OnWay f a b l R A B) : ∃ K1 K2 : Int, 0 < K1 ∧ 0 < K2 ∧ K1 * (A * a + f * B * b) = K2 * (R * nm f a b) ∧ K1 * (A * b - B * a) = K2 * -(l * nm f a b) := by
  obtain ⟨K1, K2, h1, h2, e1, e2⟩ := h.ex
  refine ⟨K1, K2, h1, h2, ?_, ?_⟩
  · have : K1 * (A * a + f * B * b) = (K1 * A) * a + f * (K1 * B) * b := by grind
    rw [this, e1, e2]; unfold nm; grind
  · have : K1 * (A * b - B * a) = (K1 * A) * b - (K1 * B) * a := by grind
    rw [this, e1, e2]; unfold nm; grind
theorem OnWay.zero (h : OnWay f a b l R A B) : l * (A * a + f * B * b) + (A * b - B * a) * R = 0 := by
  obtain ⟨K1, K2, h1, h2, e1, e2⟩ := h.inner
  have : K1 * (l * (A * a + f * B * b) + (A * b - B * a) * R) = 0 := by
    have e : K1 * (l * (A * a + f * B * b) + (A * b - B * a) * R) = l * (K1 * (A * a + f * B * b)) + (K1 * (A * b - B * a)) * R := by grind
    rw [e, e1, e2]; grind
  rcases Int.mul_eq_zero.mp this with z | z
  · omega
  · exact z
theorem OnWay.hlf (h : OnWay f a b l R A B) : hlfD f A B 0 = hlfD f a b l := by
  obtain ⟨K1, K2, h1, h2, e1, e2⟩ := h.ex
  have s1 : sidD f A B 0 0 1 0 = sidD f a b l 0 1 0 := by
    unfold sidD
    rw [← h.RR, sgn2_sq h.R0]
    have c1 : 0 * (A * 0 + f * B * 1) - 0 * nm f A B = 0 := by grind
    rw [c1, sgn2_p0]
    refine sgn_scale h1 h2 ?_
    have : K1 * -(A * 1 - B * 0) = -(K1 * A) := by grind
    rw [this, e1]; grind
  have s2 : sidD f A B 0 1 0 0 = sidD f a b l 1 0 0 := by
    unfold sidD
    rw [← h.RR, sgn2_sq h.R0]
    have c1 : 0 * (A * 1 + f * B * 0) - 0 * nm f A B = 0 := by grind
    rw [c1, sgn2_p0]
    refine sgn_scale h1 h2 ?_
    have : K1 * -(A * 0 - B * 1) = K1 * B := by grind
    rw [this, e2]; grind
  unfold hlfD
  rw [s1, s2]
theorem OnWay.sin1 (h : OnWay f a b l R A B) : sinD f a b l A B 0 = 0 := by
  have z := h.zero
  unfold sinD sgn4
  have c1 : f * l * 0 * (a * B - b * A) = 0 := by grind
  have c2 : 0 * (a * A + f * b * B) = 0 := by grind
  rw [c1, c2]
  dsimp only
  rw [sgn2_zero, ← h.RR, sgn2_sq h.R0]
  have c3 : -l * (a * A + f * b * B) + (a * B - b * A) * R = -(l * (A * a + f * B * b) + (A * b - B * a) * R) := by grind
  rw [c3, z]
  rfl
theorem OnWay.sin2 (h : OnWay f a b l R A B) : sinD f A B 0 a b l = 0 := by
  have z := h.zero
  obtain ⟨K1, K2, h1, h2, e1, e2⟩ := h.inner
  unfold sinD sgn4
  have c1 : f * 0 * l * (A * b - B * a) = 0 := by grind
  have c2 : -0 * (A * a + f * B * b) = 0 := by grind
  rw [c1, c2]
  dsimp only
  rw [sgn2_p0, sgn2_p0, ← h.RR]
  have t1 : l * (A * a + f * B * b) = (A * b - B * a) * -R := by grind
  have c3 : 0 * 0 + l * (A * a + f * B * b) * (l * (A * a + f * B * b)) * rsq f A B 0 - (0 * 0 + (A * b - B * a) * (A * b - B * a) * rsq f A B 0) * (R * R) = 0 := by rw [t1]; grind
  have c4 : 2 * (0 * (l * (A * a + f * B * b)) - 0 * (A * b - B * a) * (R * R)) = 0 := by grind
  rw [c3, c4, sgn2_zero, Int.mul_zero]
  have s1 : sgn (l * (A * a + f * B * b)) = sgn l := by
    refine sgn_scale (m := K1) (k := K2 * (R * nm f a b)) h1 (Int.mul_pos h2 (Int.mul_pos h.R0 h.N0)) ?_
    rw [show K1 * (l * (A * a + f * B * b)) = l * (K1 * (A * a + f * B * b)) by grind, e1]; grind
  have s2 : sgn (A * b - B * a) = -sgn l := by
    rw [← sgn_opp]
    refine sgn_scale (m := K1) (k := K2 * nm f a b) h1 (Int.mul_pos h2 h.N0) ?_
    rw [e2]; grind
  rw [s1, s2]
  rcases sgn_cases l with ⟨_, e⟩ | ⟨_, e⟩ | ⟨_, e⟩ <;> rw [e] <;> rfl
theorem OnWay.same (h : OnWay f a b l R A B) : smD f a b l A B 0 = true ∧ smD f A B 0 a b l = true := by
  unfold smD
  rw [h.hlf, h.sin1, h.sin2]
  simp
end
end J
namespace J
open PySem PySem.Spec PyProof.Rows L2
/-! between; the law's own sines, cosines, halves -/
/-- a place as three numbers of a form -/
abbrev A3 := Int × Int × Int
def bd3 (k : Nat) (x : A3) : Prop := Bd k x.1 ∧ Bd k x.2.1 ∧ Bd k x.2.2
end J
namespace J
/-! rings with a sign -/
open Lean.Grind in
class Sg (R : Type) [CommRing R] where
  s : R → Int
  tri : ∀ x, s x = 0 ∨ s x = 1 ∨ s x = -1
  mul : ∀ x y, s (x * y) = s x * s y
  neg : ∀ x, s (-x) = -s x
  add0 : ∀ x y, s x = 0 → s (x + y) = s y
  add1 : ∀ x y, s x = 1 → s y = 1 → s (x + y) = 1
section
open Lean.Grind
variable {R : Type} [CommRing R] [Sg R]
open Sg
theorem sg_dbl (x : R) : s (x + x) = s x := by
  rcases tri x with h | h | h
  · rw [add0 x x h]
  · rw [add1 x x h h, h]
  · have e : s (-x + -x) = 1 := add1 _ _ (by rw [neg, h]; rfl) (by rw [neg, h]; rfl)
    have e2 : -x + -x = -(x + x) := by grind
    rw [e2, neg] at e
    rw [h]; omega
theorem sg_same (x y : R) (h : s x = s y) : s (x + y) = s x := by
  rcases tri x with e | e | e
  · rw [add0 x y e, ← h]
  · rw [add1 x y e (by rw [← h]; exact e), e]
  · have e1 : s (-x + -y) = 1 := add1 _ _ (by rw [neg, e]; rfl) (by rw [neg, ← h, e]; rfl)
    have e2 : -x + -y = -(x + y) := by grind
    rw [e2, neg] at e1
    rw [e]; omega
theorem sg_comm (x y : R) : s (x + y) = s (y + x) := by rw [show x + y = y + x by grind]
/-- the greater one settles a sum's sign -/
theorem sg_dom {x y : R} (h : s (x * x - y * y) = 1) : s (x + y) = s x := by
  have e : x * x - y * y = (x - y) * (x + y) := by grind
  rw [e, mul] at h
  have hs : s (x - y) = s (x + y) := by
    rcases tri (x - y) with a | a | a <;> rcases tri (x + y) with b | b | b <;> rw [a, b] at h <;> first | (rw [a, b]; done) | (exfalso; revert h; decide)
  have := sg_same _ _ hs
  rw [show x - y + (x + y) = x + x by grind, sg_dbl] at this
  rw [← hs, ← this]
theorem sg_dom' {x y : R} (h : s (x * x - y * y) = -1) : s (x + y) = s y := by
  rw [sg_comm]
  refine sg_dom ?_
  rw [show y * y - x * x = -(x * x - y * y) by grind, neg, h]; rfl
end
instance : Sg Int where
  s := sgn
  tri x := by rcases sgn_cases x with ⟨_, e⟩ | ⟨_, e⟩ | ⟨_, e⟩ <;> rw [e] <;> simp
  mul x y := by
    rcases sgn_cases x with ⟨h, e⟩ | ⟨h, e⟩ | ⟨h, e⟩ <;> rcases sgn_cases y with ⟨h', e'⟩ | ⟨h', e'⟩ | ⟨h', e'⟩ <;> rw [e, e']
    · exact sgn_pos (Int.mul_pos h h')
    · exact sgn_neg (Int.mul_neg_of_pos_of_neg h h')
    · rw [h', Int.mul_zero]; rfl
    · exact sgn_neg (Int.mul_neg_of_neg_of_pos h h')
    · exact sgn_pos (Int.mul_pos_of_neg_of_neg h h')
    · rw [h', Int.mul_zero]; rfl
    · rw [h, Int.zero_mul]; rfl
    · rw [h, Int.zero_mul]; rfl
    · rw [h, Int.zero_mul]; rfl
  neg := sgn_opp
  add0 x y h := by
    rcases sgn_cases x with ⟨_, e⟩ | ⟨_, e⟩ | ⟨h', e⟩
    · rw [e] at h; cases h
    · rw [e] at h; cases h
    · rw [h', Int.zero_add]
  add1 x y h h' := by
    rcases sgn_cases x with ⟨a, e⟩ | ⟨_, e⟩ | ⟨_, e⟩ <;> rcases sgn_cases y with ⟨b, e'⟩ | ⟨_, e'⟩ | ⟨_, e'⟩ <;> first | exact sgn_pos (by omega) | (rw [e] at h; cases h) | (rw [e'] at h'; cases h')
/-- p + q times the root of d -/
structure Qx (R : Type) (d : R) where
  p : R
  q : R
section
open Lean.Grind
variable {R : Type} [CommRing R] {d : R}
theorem Qx.ext {x y : Qx R d} (h1 : x.p = y.p) (h2 : x.q = y.q) : x = y := by cases x; cases y; cases h1; cases h2; rfl
instance : Add (Qx R d) := ⟨fun x y => ⟨x.p + y.p, x.q + y.q⟩⟩
instance : Mul (Qx R d) := ⟨fun x y => ⟨x.p * y.p + x.q * y.q * d, x.p * y.q + x.q * y.p⟩⟩
instance : Neg (Qx R d) := ⟨fun x => ⟨-x.p, -x.q⟩⟩
instance : Sub (Qx R d) := ⟨fun x y => ⟨x.p - y.p, x.q - y.q⟩⟩
def nc (n : Nat) : R := (Semiring.natCast (α := R)).natCast n
def ic (n : Int) : R := (Ring.intCast (α := R)).intCast n
instance : NatCast (Qx R d) := ⟨fun n => ⟨nc n, 0⟩⟩
instance : IntCast (Qx R d) := ⟨fun n => ⟨ic n, 0⟩⟩
instance (n : Nat) : OfNat (Qx R d) n := ⟨⟨OfNat.ofNat n, 0⟩⟩
instance : SMul Nat (Qx R d) := ⟨fun n x => (n : Qx R d) * x⟩
instance : SMul Int (Qx R d) := ⟨fun n x => (n : Qx R d) * x⟩
def Qx.pw (x : Qx R d) : Nat → Qx R d
  | 0 => 1
  | n + 1 => Qx.pw x n * x
instance : HPow (Qx R d) Nat (Qx R d) := ⟨Qx.pw⟩
theorem qa (x y : Qx R d) : x + y = ⟨x.p + y.p, x.q + y.q⟩ := rfl
theorem qm (x y : Qx R d) : x * y = ⟨x.p * y.p + x.q * y.q * d, x.p * y.q + x.q * y.p⟩ := rfl
theorem qn (x : Qx R d) : -x = ⟨-x.p, -x.q⟩ := rfl
theorem qs (x y : Qx R d) : x - y = ⟨x.p - y.p, x.q - y.q⟩ := rfl
theorem q0 : (0 : Qx R d) = ⟨0, 0⟩ := rfl
theorem q1 : (1 : Qx R d) = ⟨1, 0⟩ := rfl
instance : CommRing (Qx R d) where
  nsmul := inferInstance
  zsmul := inferInstance
  npow := inferInstance
  natCast := inferInstance
  intCast := inferInstance
  ofNat := inferInstance
  add_zero a := by rw [q0, qa]; exact Qx.ext (by grind) (by grind)
  add_comm a b := by rw [qa, qa]; exact Qx.ext (by grind) (by grind)
  add_assoc a b c := by rw [qa, qa, qa, qa]; exact Qx.ext (by grind) (by grind)
  mul_assoc a b c := by rw [qm, qm, qm, qm]; exact Qx.ext (by grind) (by grind)
  mul_comm a b := by rw [qm, qm]; exact Qx.ext (by grind) (by grind)
  mul_one a := by rw [q1, qm]; exact Qx.ext (by grind) (by grind)
  one_mul a := by rw [q1, qm]; exact Qx.ext (by grind) (by grind)
  left_distrib a b c := by rw [qa, qm, qm, qm, qa]; exact Qx.ext (by grind) (by grind)
  right_distrib a b c := by rw [qa, qm, qm, qm, qa]; exact Qx.ext (by grind) (by grind)
  zero_mul a := by rw [q0, qm]; exact Qx.ext (by grind) (by grind)
  mul_zero a := by rw [q0, qm]; exact Qx.ext (by grind) (by grind)
  pow_zero a := rfl
  pow_succ a n := rfl
  ofNat_succ n := by
    show (⟨OfNat.ofNat (n + 1), 0⟩ : Qx R d) = ⟨OfNat.ofNat n + 1, 0 + 0⟩
    exact Qx.ext (Semiring.ofNat_succ n) (by grind)
  ofNat_eq_natCast n := Qx.ext (Semiring.ofNat_eq_natCast n) rfl
  nsmul_eq_natCast_mul n a := rfl
  neg_add_cancel a := by rw [qn, qa, q0]; exact Qx.ext (by grind) (by grind)
  sub_eq_add_neg a b := by rw [qs, qn, qa]; exact Qx.ext (by grind) (by grind)
  neg_zsmul i a := by
    show (⟨ic (-i), 0⟩ : Qx R d) * a = -((⟨ic i, 0⟩ : Qx R d) * a)
    have e : ic (R := R) (-i) = -ic i := Ring.intCast_neg i
    rw [qm, qm, qn, e]
    exact Qx.ext (by grind) (by grind)
  zsmul_natCast_eq_nsmul n a := by
    show (⟨ic (n : Int), 0⟩ : Qx R d) * a = (⟨nc n, 0⟩ : Qx R d) * a
    have e : ic (R := R) (n : Int) = nc n := Ring.intCast_natCast n
    rw [e]
  intCast_ofNat n := by
    show (⟨ic (OfNat.ofNat n), 0⟩ : Qx R d) = ⟨OfNat.ofNat n, 0⟩
    exact Qx.ext (Ring.intCast_ofNat n) rfl
  intCast_neg i := by
    show (⟨ic (-i), 0⟩ : Qx R d) = ⟨-ic i, -0⟩
    exact Qx.ext (Ring.intCast_neg i) (by grind)
end
section
open Lean.Grind Sg
variable {R : Type} [CommRing R] [Sg R] {d : R}
def qN (x : Qx R d) : R := x.p * x.p - x.q * x.q * d
def qS (x : Qx R d) : Int := if s x.p = s x.q ∨ s x.q = 0 then s x.p else if s x.p = 0 then s x.q else s x.p * s (qN x)
theorem qN_mul (x y : Qx R d) : qN (x * y) = qN x * qN y := by rw [qm]; unfold qN; grind
theorem sg_pos_add {a b : R} (ha : s a = 1) (hb : 0 ≤ s b) : s (a + b) = 1 := by
  rcases tri b with h | h | h
  · rw [sg_comm, add0 b a h]; exact ha
  · exact add1 a b ha h
  · omega
theorem sg_sub0 {a b : R} (h : s (a - b) = 0) : s a = s b := by
  have := add0 (a - b) b h
  rw [show a - b + b = a by grind] at this
  exact this
theorem sq3 (x : R) : s x * s x = 0 ∨ s x * s x = 1 := by rcases tri x with h | h | h <;> rw [h] <;> simp
theorem qN_0 (hd : s d = 1) {x : Qx R d} (h : s (qN x) = 0) : s x.p * s x.p = s x.q * s x.q := by
  have := sg_sub0 (a := x.p * x.p) (b := x.q * x.q * d) h
  rw [mul, mul, mul, hd, Int.mul_one] at this
  exact this
theorem qN_p (hd : s d = 1) {x : Qx R d} (h : s (qN x) = 1) : s x.p ≠ 0 := fun z => by
  have e : qN x = x.p * x.p + -(x.q * x.q * d) := by unfold qN; grind
  rw [e, add0 _ _ (by rw [mul, z]; rfl), neg, mul, mul, hd, Int.mul_one] at h
  rcases sq3 x.q with k | k <;> rw [k] at h <;> simp at h
theorem qN_m (hd : s d = 1) {x : Qx R d} (h : s (qN x) = -1) : s x.q ≠ 0 := fun z => by
  have e : qN x = -(x.q * x.q * d) + x.p * x.p := by unfold qN; grind
  rw [e, add0 _ _ (by rw [neg, mul, mul, z, Int.zero_mul, Int.zero_mul]; rfl), mul] at h
  rcases sq3 x.p with k | k <;> rw [k] at h <;> simp at h
theorem qS_1 (hd : s d = 1) {x : Qx R d} (h : s (qN x) = 1) : qS x = s x.p := by
  unfold qS
  split
  · rfl
  · rw [if_neg (qN_p hd h), h, Int.mul_one]
theorem qS_m (hd : s d = 1) {x : Qx R d} (h : s (qN x) = -1) : qS x = s x.q := by
  have hq := qN_m hd h
  unfold qS
  split
  · rename_i k
    rcases k with k | k
    · exact k
    · exact absurd k hq
  · rename_i k
    split
    · rfl
    · rename_i k2
      rw [h]
      rcases tri x.p with e | e | e <;> rcases tri x.q with e' | e' | e' <;> simp [e, e'] at *
theorem qS_0 (hd : s d = 1) {x : Qx R d} (h : s (qN x) = 0) : qS x = if s x.p = s x.q then s x.p else 0 := by
  have := qN_0 hd h
  unfold qS
  rw [h]
  rcases tri x.p with e | e | e <;> rcases tri x.q with e' | e' | e' <;> rw [e, e'] at this ⊢ <;> simp at *
theorem sg_one {a : R} (h : s a ≠ 0) : s a * s a = 1 := by rcases tri a with e | e | e <;> rw [e] <;> first | rfl | exact absurd e h
theorem sg_nn (a : R) : 0 ≤ s a * s a := by rcases sq3 a with e | e <;> omega
theorem mul_pp (hd : s d = 1) {x y : Qx R d} (hx : s (qN x) = 1) (hy : s (qN y) = 1) : s (x.p * y.p + x.q * y.q * d) = s x.p * s y.p := by
  rw [← mul]
  refine sg_dom ?_
  have e : x.p * y.p * (x.p * y.p) - x.q * y.q * d * (x.q * y.q * d) = qN x * (y.p * y.p) + x.q * x.q * d * qN y := by unfold qN; grind
  rw [e]
  refine sg_pos_add ?_ ?_
  · rw [mul, mul, hx, sg_one (qN_p hd hy)]; rfl
  · rw [mul, mul, mul, hd, hy]; have := sg_nn x.q; omega
theorem mul_pm (hd : s d = 1) {x y : Qx R d} (hx : s (qN x) = 1) (hy : s (qN y) = -1) : s (x.p * y.q + x.q * y.p) = s x.p * s y.q := by
  rw [← mul]
  refine sg_dom ?_
  have e : d * (x.p * y.q * (x.p * y.q) - x.q * y.p * (x.q * y.p)) = x.p * x.p * -qN y + y.p * y.p * qN x := by unfold qN; grind
  have h : s (d * (x.p * y.q * (x.p * y.q) - x.q * y.p * (x.q * y.p))) = 1 := by
    rw [e]
    refine sg_pos_add ?_ ?_
    · rw [mul, mul, neg, hy, sg_one (qN_p hd hx)]; rfl
    · rw [mul, mul, hx]; have := sg_nn y.p; omega
  rw [mul, hd, Int.one_mul] at h
  exact h
theorem mul_mm (hd : s d = 1) {x y : Qx R d} (hx : s (qN x) = -1) (hy : s (qN y) = -1) : s (x.p * y.p + x.q * y.q * d) = s x.q * s y.q := by
  have e0 : s x.q * s y.q = s (x.q * y.q * d) := by rw [mul, mul, hd, Int.mul_one]
  rw [e0]
  refine sg_dom' ?_
  have e : x.p * y.p * (x.p * y.p) - x.q * y.q * d * (x.q * y.q * d) = -((-qN x) * (y.q * y.q * d) + x.p * x.p * -qN y) := by unfold qN; grind
  have h : s ((-qN x) * (y.q * y.q * d) + x.p * x.p * -qN y) = 1 := by
    refine sg_pos_add ?_ ?_
    · rw [mul, mul, mul, neg, hx, hd, sg_one (qN_m hd hy)]; rfl
    · rw [mul, mul, neg, hy]; have := sg_nn x.p; omega
  rw [e, neg, h]
theorem mul_0 (hd : s d = 1) {x : Qx R d} (y : Qx R d) (hx : s (qN x) = 0) : qS (x * y) = qS x * qS y := by
  have hn : s (qN (x * y)) = 0 := by rw [qN_mul, mul, hx, Int.zero_mul]
  have c := qN_0 hd hx
  rw [qS_0 hd hn, qS_0 hd hx, qm]
  dsimp only
  by_cases h0 : s x.p = 0
  · have h1 : s x.q = 0 := by
      rw [h0] at c
      rcases tri x.q with e | e | e <;> rw [e] at c <;> first | exact e | (exfalso; revert c; decide)
    have a1 : s (x.p * y.p + x.q * y.q * d) = 0 := by rw [add0 _ _ (by rw [mul, h0, Int.zero_mul]), mul, mul, h1, Int.zero_mul, Int.zero_mul]
    have a2 : s (x.p * y.q + x.q * y.p) = 0 := by rw [add0 _ _ (by rw [mul, h0, Int.zero_mul]), mul, h1, Int.zero_mul]
    rw [a1, a2, h0, h1]
    simp
  · have r1 : s x.p * s (x.p * y.p + x.q * y.q * d) = s x.q * s (x.p * y.q + x.q * y.p) := by
      have e : x.p * (x.p * y.p + x.q * y.q * d) = qN x * y.p + x.q * d * (x.p * y.q + x.q * y.p) := by unfold qN; grind
      rw [← mul, e, add0 _ _ (by rw [mul, hx, Int.zero_mul]), mul, mul, hd, Int.mul_one]
    by_cases h1 : s x.p = s x.q
    · have r2 : s (x.p * y.p + x.q * y.q * d) = s (x.p * y.q + x.q * y.p) := by
        rw [← h1] at r1
        exact Int.eq_of_mul_eq_mul_left h0 r1
      rw [if_pos h1, if_pos r2]
      have e : x.p * y.p * (x.p * y.p) - x.q * y.q * d * (x.q * y.q * d) = qN x * (y.p * y.p) + x.q * x.q * d * qN y := by unfold qN; grind
      have hX : s (x.p * y.p * (x.p * y.p) - x.q * y.q * d * (x.q * y.q * d)) = s (qN y) := by
        rw [e, add0 _ _ (by rw [mul, hx, Int.zero_mul]), mul, mul, mul, hd, sg_one (by rw [← h1]; exact h0), Int.one_mul, Int.one_mul]
      rcases tri (qN y) with hy | hy | hy
      · rw [qS_0 hd hy]
        by_cases h2 : s y.p = s y.q
        · rw [if_pos h2, sg_same _ _ (by rw [mul, mul, mul, hd, h1, h2, Int.mul_one]), mul]
        · rw [if_neg h2, Int.mul_zero]
          have r3 : s y.p * s (x.p * y.p + x.q * y.q * d) = s y.q * s (x.p * y.q + x.q * y.p) := by
            have e : y.p * (x.p * y.p + x.q * y.q * d) = qN y * x.p + y.q * d * (x.p * y.q + x.q * y.p) := by unfold qN; grind
            rw [← mul, e, add0 _ _ (by rw [mul, hy, Int.zero_mul]), mul, mul, hd, Int.mul_one]
          rw [← r2] at r3
          have r4 : (s y.p - s y.q) * s (x.p * y.p + x.q * y.q * d) = 0 := by rw [Int.sub_mul, r3]; omega
          rcases Int.mul_eq_zero.mp r4 with z | z
          · omega
          · exact z
      · rw [qS_1 hd hy, ← mul]
        exact sg_dom (by rw [hX, hy])
      · rw [qS_m hd hy, h1, sg_dom' (by rw [hX, hy]), mul, mul, hd, Int.mul_one]
    · rw [if_neg h1, Int.zero_mul]
      split
      · rename_i h2
        rw [← h2] at r1
        have r4 : (s x.p - s x.q) * s (x.p * y.p + x.q * y.q * d) = 0 := by rw [Int.sub_mul, r1]; omega
        rcases Int.mul_eq_zero.mp r4 with z | z
        · omega
        · exact z
      · rfl
theorem qx_comm (x y : Qx R d) : x * y = y * x := CommSemiring.mul_comm x y
theorem qS_mul (hd : s d = 1) (x y : Qx R d) : qS (x * y) = qS x * qS y := by
  rcases tri (qN x) with hx | hx | hx
  · exact mul_0 hd y hx
  · rcases tri (qN y) with hy | hy | hy
    · rw [qx_comm, mul_0 hd x hy, Int.mul_comm]
    · rw [qS_1 hd (x := x * y) (by rw [qN_mul, mul, hx, hy]; rfl), qS_1 hd hx, qS_1 hd hy, qm]; exact mul_pp hd hx hy
    · rw [qS_m hd (x := x * y) (by rw [qN_mul, mul, hx, hy]; rfl), qS_1 hd hx, qS_m hd hy, qm]; exact mul_pm hd hx hy
  · rcases tri (qN y) with hy | hy | hy
    · rw [qx_comm, mul_0 hd x hy, Int.mul_comm]
    · rw [qx_comm, qS_m hd (x := y * x) (by rw [qN_mul, mul, hx, hy]; rfl), qS_1 hd hy, qS_m hd hx, qm, Int.mul_comm]; exact mul_pm hd hy hx
    · rw [qS_1 hd (x := x * y) (by rw [qN_mul, mul, hx, hy]; rfl), qS_m hd hx, qS_m hd hy, qm]; exact mul_mm hd hx hy
theorem qS_neg (hd : s d = 1) (x : Qx R d) : qS (-x) = -qS x := by
  have e : qN (-x) = qN x := by rw [qn]; unfold qN; grind
  rcases tri (qN x) with h | h | h
  · rw [qS_0 hd h, qS_0 hd (x := -x) (by rw [e]; exact h), qn]
    dsimp only
    rw [neg, neg]
    by_cases k : s x.p = s x.q
    · rw [if_pos k, if_pos (by omega)]
    · rw [if_neg k, if_neg (by omega)]; rfl
  · rw [qS_1 hd h, qS_1 hd (x := -x) (by rw [e]; exact h), qn, neg]
  · rw [qS_m hd h, qS_m hd (x := -x) (by rw [e]; exact h), qn, neg]
theorem qS_tri (x : Qx R d) : qS x = 0 ∨ qS x = 1 ∨ qS x = -1 := by
  unfold qS
  split
  · exact tri _
  · split
    · exact tri _
    · rcases tri x.p with e | e | e <;> rcases tri (qN x) with e' | e' | e' <;> rw [e, e'] <;> simp
theorem qS_up {x : Qx R d} (h0 : 0 ≤ s x.p) (h1 : s x.q = 1) : qS x = 1 := by
  unfold qS
  rw [h1]
  rcases tri x.p with e | e | e <;> rw [e] at h0 ⊢ <;> first | rfl | (exfalso; revert h0; decide)
theorem add_n (hd : s d = 1) {n : R} (hn : s n = 1) {w : Qx R d} (hw : qS w = 1) : qS ((⟨n, 0⟩ : Qx R d) + w) = 1 := by
  have ez : (⟨n, 0⟩ : Qx R d) + w = ⟨n + w.p, w.q⟩ := by rw [qa]; exact Qx.ext rfl (by grind)
  rw [ez]
  rcases tri (qN w) with h | h | h
  · rw [qS_0 hd h] at hw
    by_cases k : s w.p = s w.q
    · rw [if_pos k] at hw
      refine qS_up ?_ (by rw [← k]; exact hw)
      rw [add1 _ _ hn hw]; decide
    · rw [if_neg k] at hw; cases hw
  · rw [qS_1 hd h] at hw
    have e : qN (⟨n + w.p, w.q⟩ : Qx R d) = qN w + n * (n + (w.p + w.p)) := by unfold qN; grind
    have e2 : s (n + (w.p + w.p)) = 1 := add1 _ _ hn (by rw [sg_dbl]; exact hw)
    rw [qS_1 hd (by rw [e]; exact add1 _ _ h (by rw [mul, hn, e2]; rfl))]
    exact add1 _ _ hn hw
  · rw [qS_m hd h] at hw
    rcases tri (n + w.p) with k | k | k
    · exact qS_up (by rw [k]; decide) hw
    · exact qS_up (by rw [k]; decide) hw
    · have ka : s (-w.p) = 1 := by
        rw [show -w.p = -(n + w.p) + n by grind]
        exact add1 _ _ (by rw [neg, k]; rfl) hn
      have e : -qN (⟨n + w.p, w.q⟩ : Qx R d) = -qN w + n * (-(n + w.p) + -w.p) := by unfold qN; grind
      have e2 : s (-qN (⟨n + w.p, w.q⟩ : Qx R d)) = 1 := by
        rw [e]
        refine add1 _ _ (by rw [neg, h]; rfl) ?_
        rw [mul, hn, add1 _ _ (by rw [neg, k]; rfl) ka]; rfl
      rw [neg] at e2
      rw [qS_m hd (by omega)]
      exact hw
def cj (x : Qx R d) : Qx R d := ⟨x.p, -x.q⟩
theorem qN_cj (x : Qx R d) : qN (cj x) = qN x := by unfold qN cj; grind
theorem add1_core (hd : s d = 1) {x y : Qx R d} (hN : s (qN x) ≠ 0) (hx : qS x = 1) (hy : qS y = 1) : qS (x + y) = 1 := by
  rcases tri (qN x) with h | h | h
  · exact absurd h hN
  · have c1 : qS (cj x) = 1 := by
      rw [qS_1 hd (by rw [qN_cj]; exact h)]
      rw [qS_1 hd h] at hx; exact hx
    have e : (x + y) * cj x = (⟨qN x, 0⟩ : Qx R d) + y * cj x := by
      rw [qa, qm, qm, qa]; unfold cj qN; exact Qx.ext (by grind) (by grind)
    have := qS_mul hd (x + y) (cj x)
    rw [e, add_n hd h (by rw [qS_mul hd, hy, c1]; rfl), c1, Int.mul_one] at this
    exact this.symm
  · have c1 : qS (-cj x) = 1 := by
      rw [qS_neg hd, qS_m hd (by rw [qN_cj]; exact h)]
      rw [qS_m hd h] at hx
      show -(s (-x.q)) = 1
      rw [neg, hx]; rfl
    have e : (x + y) * -cj x = (⟨-qN x, 0⟩ : Qx R d) + y * -cj x := by
      rw [qa, qn, qm, qm, qa]; unfold cj qN; exact Qx.ext (by grind) (by grind)
    have := qS_mul hd (x + y) (-cj x)
    rw [e, add_n hd (by rw [neg, h]; rfl) (by rw [qS_mul hd, hy, c1]; rfl), c1, Int.mul_one] at this
    exact this.symm
theorem qS_add1 (hd : s d = 1) {x y : Qx R d} (hx : qS x = 1) (hy : qS y = 1) : qS (x + y) = 1 := by
  by_cases h : s (qN x) = 0
  · by_cases h' : s (qN y) = 0
    · rw [qS_0 hd h] at hx
      rw [qS_0 hd h'] at hy
      by_cases k : s x.p = s x.q
      · by_cases k' : s y.p = s y.q
        · rw [if_pos k] at hx
          rw [if_pos k'] at hy
          rw [qa]
          exact qS_up (by rw [add1 _ _ hx hy]; decide) (add1 _ _ (by rw [← k]; exact hx) (by rw [← k']; exact hy))
        · rw [if_neg k'] at hy; cases hy
      · rw [if_neg k] at hx; cases hx
    · rw [show x + y = y + x by rw [qa, qa]; exact Qx.ext (by grind) (by grind)]
      exact add1_core hd h' hy hx
  · exact add1_core hd h hx hy
theorem qS_z (hd : s d = 1) {x : Qx R d} (h : qS x = 0) : s (qN x) = 0 := by
  rcases tri (qN x) with k | k | k
  · exact k
  · rw [qS_1 hd k] at h; exact absurd h (qN_p hd k)
  · rw [qS_m hd k] at h; exact absurd h (qN_m hd k)
theorem qS_z2 (hd : s d = 1) {x : Qx R d} (h : qS x = 0) : s x.q = -s x.p := by
  have k := qS_z hd h
  have c := qN_0 hd k
  rw [qS_0 hd k] at h
  rcases tri x.p with e | e | e <;> rcases tri x.q with e' | e' | e' <;> rw [e, e'] at h c ⊢ <;> first | rfl | (exfalso; revert c; decide) | (exfalso; revert h; decide)
theorem zz0 (hd : s d = 1) {x z : Qx R d} (hx : qS x = 0) (hz : qS z = 0) (h0 : s x.p = 0) : qS (x + z) = 0 := by
  have h1 : s x.q = 0 := by rw [qS_z2 hd hx, h0]; rfl
  have hz0 := qS_z hd hz
  have e : qN (x + z) = x.p * (x.p + z.p + z.p) + (-(x.q * (x.q + z.q + z.q) * d) + qN z) := by rw [qa]; unfold qN; grind
  have eN : s (qN (x + z)) = 0 := by
    rw [e, add0 _ _ (by rw [mul, h0, Int.zero_mul]), add0 _ _ (by rw [neg, mul, mul, h1, Int.zero_mul, Int.zero_mul]; rfl)]
    exact hz0
  rw [qS_0 hd eN, qa]
  dsimp only
  rw [add0 _ _ h0, add0 _ _ h1, ← qS_0 hd hz0]
  exact hz
theorem qS_zz (hd : s d = 1) {x z : Qx R d} (hx : qS x = 0) (hz : qS z = 0) : qS (x + z) = 0 := by
  by_cases h0 : s x.p = 0
  · exact zz0 hd hx hz h0
  · by_cases h1 : s z.p = 0
    · rw [show x + z = z + x by rw [qa, qa]; exact Qx.ext (by grind) (by grind)]
      exact zz0 hd hz hx h1
    · have a := qS_z2 hd hx
      have b := qS_z2 hd hz
      have n1 := qS_z hd hx
      have n2 := qS_z hd hz
      have sne : s x.p * s z.p ≠ 0 := Int.mul_ne_zero h0 h1
      have t1 : s (x.p * z.p - x.q * z.q * d) = 0 := by
        have e : (x.p * z.p - x.q * z.q * d) * (x.p * z.p + x.q * z.q * d) = qN x * (z.p * z.p) + x.q * x.q * d * qN z := by unfold qN; grind
        have k : s (x.p * z.p - x.q * z.q * d) * s (x.p * z.p + x.q * z.q * d) = 0 := by
          rw [← mul, e, add0 _ _ (by rw [mul, n1, Int.zero_mul]), mul, n2, Int.mul_zero]
        rw [sg_same _ _ (by rw [mul, mul, mul, hd, a, b, Int.mul_one, Int.neg_mul_neg]), mul] at k
        rcases Int.mul_eq_zero.mp k with w | w
        · exact w
        · exact absurd w sne
      have t2 : s (x.p * z.q - x.q * z.p) = 0 := by
        have e : d * ((x.p * z.q - x.q * z.p) * (x.p * z.q + x.q * z.p)) = qN x * (z.p * z.p) + -(x.p * x.p * qN z) := by unfold qN; grind
        have k : s (d * ((x.p * z.q - x.q * z.p) * (x.p * z.q + x.q * z.p))) = 0 := by
          rw [e, add0 _ _ (by rw [mul, n1, Int.zero_mul]), neg, mul, n2, Int.mul_zero]; rfl
        rw [mul, mul, hd, Int.one_mul, sg_same (x.p * z.q) (x.q * z.p) (by rw [mul, mul, a, b, Int.mul_neg, Int.neg_mul]), mul, b, Int.mul_neg] at k
        rcases Int.mul_eq_zero.mp k with w | w
        · exact w
        · exact absurd w (by omega)
      have eN : s (qN (x + z)) = 0 := by
        have e : qN (x + z) = qN x + (qN z + ((x.p * z.p - x.q * z.q * d) + (x.p * z.p - x.q * z.q * d))) := by rw [qa]; unfold qN; grind
        rw [e, add0 _ _ n1, add0 _ _ n2, sg_dbl]; exact t1
      have r : s x.p * s (x.q + z.q) = s x.q * s (x.p + z.p) := by
        have e : x.p * (x.q + z.q) = (x.p * z.q - x.q * z.p) + x.q * (x.p + z.p) := by grind
        rw [← mul, e, add0 _ _ t2, mul]
      rw [a, Int.neg_mul, ← Int.mul_neg] at r
      have r' := Int.eq_of_mul_eq_mul_left h0 r
      rw [qS_0 hd eN, qa]
      dsimp only
      rw [r']
      split
      · omega
      · rfl
theorem qS_add0 (hd : s d = 1) {x : Qx R d} (y : Qx R d) (hx : qS x = 0) : qS (x + y) = qS y := by
  have nx : qS (-x) = 0 := by rw [qS_neg hd, hx]; rfl
  have e1 : y = (x + y) + -x := by rw [qn, qa, qa]; exact Qx.ext (by show y.p = _; grind) (by show y.q = _; grind)
  have e2 : -x = -(x + y) + y := by rw [qn, qa, qn, qa]; exact Qx.ext (by show -x.p = _; grind) (by show -x.q = _; grind)
  have e3 : x = (x + y) + -y := by rw [qn, qa, qa]; exact Qx.ext (by show x.p = _; grind) (by show x.q = _; grind)
  rcases qS_tri y with h | h | h
  · rw [h]; exact qS_zz hd hx h
  · rcases qS_tri (x + y) with k | k | k
    · have := qS_zz hd k nx
      rw [← e1, h] at this; cases this
    · rw [k, h]
    · have := qS_add1 hd (x := -(x + y)) (y := y) (by rw [qS_neg hd, k]; rfl) h
      rw [← e2, nx] at this; cases this
  · rcases qS_tri (x + y) with k | k | k
    · have := qS_zz hd k nx
      rw [← e1, h] at this; cases this
    · have := qS_add1 hd (x := x + y) (y := -y) k (by rw [qS_neg hd, h]; rfl)
      rw [← e3, hx] at this; cases this
    · rw [k, h]
/-- with the root of a positive thing there is a sign again -/
@[reducible] def sgQ (hd : s d = 1) : Sg (Qx R d) where
  s := qS
  tri := qS_tri
  mul := qS_mul hd
  neg := qS_neg hd
  add0 := fun x y h => qS_add0 hd y h
  add1 := fun x y h h' => qS_add1 hd h h'
end
end J
namespace J
section
open Lean.Grind
theorem place_nz {r a b l : Int} (h : isA r a b l) : sgn2 (l * a) b (rsq r a b l) ≠ 0 ∨ sgn2 (r * l * b) (-a) (rsq r a b l) ≠ 0 := by
  by_cases h1 : sgn2 (l * a) b (rsq r a b l) = 0
  · by_cases h2 : sgn2 (r * l * b) (-a) (rsq r a b l) = 0
    · exfalso
      have hS := rsq_pos h
      have hN : 0 < nm r a b := by have := h.2.2; have := sq_nn l; omega
      letI I : Sg (Qx Int (rsq r a b l)) := sgQ (R := Int) (d := rsq r a b l) (sgn_pos hS)
      have e : (⟨r, 0⟩ : Qx Int (rsq r a b l)) * (⟨l * a, b⟩ * ⟨l * a, b⟩) + ⟨r * l * b, -a⟩ * ⟨r * l * b, -a⟩ = ⟨r * (nm r a b * nm r a b), 0⟩ := by
        rw [qm, qm, qm, qa]
        exact Qx.ext (by dsimp only; unfold rsq nm; grind) (by dsimp only; grind)
      have k : Sg.s ((⟨r, 0⟩ : Qx Int (rsq r a b l)) * (⟨l * a, b⟩ * ⟨l * a, b⟩) + ⟨r * l * b, -a⟩ * ⟨r * l * b, -a⟩) = 0 := by
        have z1 : Sg.s (⟨l * a, b⟩ : Qx Int (rsq r a b l)) = 0 := h1
        have z2 : Sg.s (⟨r * l * b, -a⟩ : Qx Int (rsq r a b l)) = 0 := h2
        rw [Sg.add0 _ _ (by rw [Sg.mul, Sg.mul, z1]; simp), Sg.mul, z2]; rfl
      rw [e] at k
      have k' : sgn2 (r * (nm r a b * nm r a b)) 0 (rsq r a b l) = 0 := k
      rw [sgn2_q0, sgn_pos (Int.mul_pos (show 0 < r by have := h.1.1; omega) (Int.mul_pos hN hN))] at k'
      cases k'
    · exact .inr h2
  · exact .inl h1
end
end J
/-! Statements of a def that fills lists of its own: the slots in o hold lists that the def made and that nothing else holds. -/
namespace J
open PySem L2
/-- the lists in the own slots -/
def OwnA (σ : St) (o : List Nat) (a : Addr) : Prop := ∃ i, i ∈ o ∧ σ[i]? = some (some (.ref a))
structure EnvX (K : PySem.W.Frag) {p : Option Addr} (g : Gh p) (n : Nat) (H : Hp) (σ : St) (Γ : DEnv) (o : List Nat) : Prop where
  ok : EnvOk K g n H σ Γ
  own : ∀ i, i ∈ o → ∃ (ds : List PyData) (a : Addr) (xs : List V), Γ[i]? = some (some (.list ds)) ∧ noLstAll ds = true ∧ σ[i]? = some (some (.ref a)) ∧ H a = some (.lst xs) ∧ p ≠ some a ∧ ∃ m H0, g.G m H0 ∧ H0 a = none
  one : ∀ i j a, i ∈ o → j ∈ o → σ[i]? = some (some (.ref a)) → σ[j]? = some (some (.ref a)) → i = j
/-- from one heap to the next: all that is tracked stays but p and the own lists; what is own later was own or was not there -/
structure Stp (p : Option Addr) (A : Addr → Prop) (H : Hp) (A' : Addr → Prop) (H' : Hp) : Prop where
  fr : ∀ a u, p ≠ some a → H a = some u → A a ∨ H' a = some u
  nw : ∀ a, A' a → p ≠ some a ∧ (A a ∨ H a = none)
theorem Stp.trans {p : Option Addr} {A A1 A2 : Addr → Prop} {H H1 H2 : Hp} (x : Stp p A H A1 H1) (y : Stp p A1 H1 A2 H2) : Stp p A H A2 H2 := by
  refine ⟨fun a u n h => ?_, fun a h => ?_⟩
  · rcases x.fr a u n h with q | q
    · exact .inl q
    · rcases y.fr a u n q with r | r
      · rcases (x.nw a r).2 with t | t
        · exact .inl t
        · rw [h] at t; cases t
      · exact .inr r
  · obtain ⟨n, q⟩ := y.nw a h
    refine ⟨n, ?_⟩
    rcases q with q | q
    · exact (x.nw a q).2
    · cases e : H a with
      | none => exact .inr rfl
      | some u =>
        rcases x.fr a u n e with t | t
        · exact .inl t
        · rw [q] at t; cases t
theorem Stp.of {p : Option Addr} {A : Addr → Prop} {H H' : Hp} (f : FrP p H H') (n : ∀ a, A a → p ≠ some a) : Stp p A H A H' :=
  ⟨fun a u q h => .inr (f a u q h), fun a h => ⟨n a h, .inl h⟩⟩
theorem Stp.none {p : Option Addr} {A A' : Addr → Prop} {H H' : Hp} (s : Stp p A H A' H') : Stp p A H (fun _ => False) H' := ⟨s.fr, fun _ z => z.elim⟩
/-- what is given back, where it must be a list of the def's own -/
def RetA (fr : Bool) (v : V) : Addr → Prop := fun b => fr = true ∧ v = .ref b
theorem Stp.ret {p : Option Addr} {A A' : Addr → Prop} {H H' : Hp} {fr : Bool} {v : V} (s : Stp p A H A' H') (hf : fr = false) : Stp p A H (RetA fr v) H' := ⟨s.fr, fun _ z => by rw [hf] at z; cases z.1⟩
structure FEnds where
  nx : DEnv → List Nat → Nat → Prop
  rt : PyData → Nat → Prop
  bk : DEnv → List Nat → Nat → Prop := fun _ _ _ => False
  ct : DEnv → List Nat → Nat → Prop := fun _ _ _ => False
  fr : Bool := false
structure FEndsOk (K : PySem.W.Frag) {p : Option Addr} (g : Gh p) (D : FEnds) (A : Addr → Prop) (H : Hp) (E : Ends) : Prop where
  nx : ∀ Γ o n σ H', D.nx Γ o n → Stp p A H (OwnA σ o) H' → EnvX K g n H' σ Γ o → E.nx σ H'
  rt : ∀ d n v H', D.rt d n → Stp p A H (RetA D.fr v) H' → g.G n H' → Im K p H' v d → E.rt v H'
  bk : ∀ Γ o n σ H', D.bk Γ o n → Stp p A H (OwnA σ o) H' → EnvX K g n H' σ Γ o → E.bk σ H'
  ct : ∀ Γ o n σ H', D.ct Γ o n → Stp p A H (OwnA σ o) H' → EnvX K g n H' σ Γ o → E.ct σ H'
def Fs (K : PySem.W.Frag) {p : Option Addr} (g : Gh p) (ts : TS) (Γ : DEnv) (o : List Nat) (n : Nat) (D : FEnds) : Prop := ∀ σ H, EnvX K g n H σ Γ o → ∀ E : Ends, FEndsOk K g D (OwnA σ o) H E → ts E σ H
def Fg (K : PySem.W.Frag) {p : Option Addr} (g : Gh p) (tg : TG) (d : PyData) (Γ : DEnv) (o : List Nat) (n : Nat) (R : DEnv → List Nat → Nat → Prop) : Prop := ∀ σ H v, EnvX K g n H σ Γ o → Im K p H v d → ∀ Q : St → Hp → Prop, (∀ Γ' o' n' σ' H', R Γ' o' n' → Stp p (OwnA σ o) H (OwnA σ' o') H' → EnvX K g n' H' σ' Γ' o' → Q σ' H') → tg v σ H Q
def Fgs (K : PySem.W.Frag) {p : Option Addr} (g : Gh p) (tg : TGs) (ds : List PyData) (Γ : DEnv) (o : List Nat) (n : Nat) (R : DEnv → List Nat → Nat → Prop) : Prop := ∀ σ H vs, EnvX K g n H σ Γ o → ImAll K p H vs ds → ∀ Q : St → Hp → Prop, (∀ Γ' o' n' σ', R Γ' o' n' → Stp p (OwnA σ o) H (OwnA σ' o') H → EnvX K g n' H σ' Γ' o' → Q σ' H) → tg vs σ H Q
/-- an expression that makes a new list -/
def Ef (K : PySem.W.Frag) {p : Option Addr} (g : Gh p) (te : TE) (Γ : DEnv) (n : Nat) (R : List PyData → Nat → Prop) : Prop := ∀ σ H, EnvOk K g n H σ Γ → ∀ Q : VK, (∀ ds n' a xs H', R ds n' → FrP p H H' → g.G n' H' → H a = none → p ≠ some a → H' a = some (.lst xs) → ImAll K p H' xs ds → Q (.ref a) H') → te σ H Q
section
variable {K : PySem.W.Frag} {p : Option Addr} {g : Gh p} {n n' : Nat} {H H' : Hp} {σ : St} {Γ : DEnv} {o : List Nat} {D : FEnds} {E : Ends}
theorem EnvX.np (e : EnvX K g n H σ Γ o) : ∀ a, OwnA σ o a → p ≠ some a := by
  rintro a ⟨i, hi, h⟩
  obtain ⟨ds, b, xs, h1, h2, h3, h4, h5, h6⟩ := e.own i hi
  rw [h] at h3; cases h3
  exact h5
theorem EnvX.mono (e : EnvX K g n H σ Γ o) (f : FrP p H H') (h : g.G n' H') : EnvX K g n' H' σ Γ o :=
  ⟨e.ok.mono f h, fun i hi => let ⟨ds, a, xs, h1, h2, h3, h4, h5, h6⟩ := e.own i hi; ⟨ds, a, xs, h1, h2, h3, f _ _ h5 h4, h5, h6⟩, e.one⟩
theorem EnvX.stp (e : EnvX K g n H σ Γ o) (f : FrP p H H') : Stp p (OwnA σ o) H (OwnA σ o) H' := .of f e.np
theorem EnvX.plain (e : EnvOk K g n H σ Γ) : EnvX K g n H σ Γ [] := ⟨e, fun _ h => by simp at h, fun _ _ _ h => by simp at h⟩
theorem FEndsOk.stp {A A1 : Addr → Prop} {H1 : Hp} (k : FEndsOk K g D A H E) (s : Stp p A H A1 H1) : FEndsOk K g D A1 H1 E :=
  ⟨fun Γ o n σ H' a b c => k.nx Γ o n σ H' a (s.trans b) c, fun d n v H' a b c i => k.rt d n v H' a (s.trans b) c i, fun Γ o n σ H' a b c => k.bk Γ o n σ H' a (s.trans b) c, fun Γ o n σ H' a b c => k.ct Γ o n σ H' a (s.trans b) c⟩
theorem stp_refl (e : EnvX K g n H σ Γ o) : Stp p (OwnA σ o) H (OwnA σ o) H := e.stp (.refl H)
theorem fs_seq {t u : TS} (h : Fs K g t Γ o n { D with nx := fun Γ' o' n' => Fs K g u Γ' o' n' D }) : Fs K g (tSeq t u) Γ o n D := fun σ H e E k =>
  h σ H e { E with nx := u E } ⟨fun Γ' o' n' σ' H' a f e' => a σ' H' e' E (k.stp f), k.rt, k.bk, k.ct⟩
theorem fs_next (h : D.nx Γ o n) : Fs K g tNext Γ o n D := fun σ H e E k => k.nx Γ o n σ H h (stp_refl e) e
theorem fs_ret {te : TE} (h : Ee K g te Γ n D.rt) (hf : D.fr = false := by rfl) : Fs K g (tRet te) Γ o n D := fun σ H e E k =>
  h σ H e.ok _ fun d n1 v H1 h1 f1 g1 i1 => k.rt d n1 v H1 h1 ((e.stp f1).ret hf) g1 i1
theorem fs_retN (h : D.rt .none n) (hf : D.fr = false := by rfl) : Fs K g tRetN Γ o n D := fun σ H e E k => k.rt _ n _ H h ((stp_refl e).ret hf) e.ok.gh .non
theorem fs_if {c : TT} {t u : TS} (h : Et K g c Γ n fun b n1 => (b = true → Fs K g t Γ o n1 D) ∧ (b = false → Fs K g u Γ o n1 D)) : Fs K g (tIfS c t u) Γ o n D := fun σ H e E k =>
  h σ H e.ok _ fun b n1 H1 h1 f1 g1 => by
    cases b with
    | true => exact h1.1 rfl σ H1 (e.mono f1 g1) E (k.stp (e.stp f1))
    | false => exact h1.2 rfl σ H1 (e.mono f1 g1) E (k.stp (e.stp f1))
theorem fs_asg {te : TE} {tg : TG} (h : Ee K g te Γ n fun d n1 => Fg K g tg d Γ o n1 D.nx) : Fs K g (tAsg te tg) Γ o n D := fun σ H e E k =>
  h σ H e.ok _ fun d n1 v H1 h1 f1 g1 i1 => h1 σ H1 v (e.mono f1 g1) i1 _ fun Γ' o' n' σ' H' a f e' => k.nx Γ' o' n' σ' H' a ((e.stp f1).trans f) e'
theorem EnvX.set {i : Nat} {v : V} {d : PyData} (e : EnvX K g n H σ Γ o) (hi : i ∉ o) (h : Im K p H v d) : EnvX K g n H (σ.set i (some v)) (Γ.set i (some d)) o := by
  refine ⟨e.ok.set h, fun j hj => ?_, fun j l a hj hl => ?_⟩
  · have ne : i ≠ j := fun q => hi (q ▸ hj)
    rw [List.getElem?_set_ne ne, List.getElem?_set_ne ne]
    exact e.own j hj
  · have n1 : i ≠ j := fun q => hi (by rw [q]; exact hj)
    have n2 : i ≠ l := fun q => hi (by rw [q]; exact hl)
    rw [List.getElem?_set_ne n1, List.getElem?_set_ne n2]
    exact e.one j l a hj hl
theorem OwnA.set {i : Nat} {v : V} (hi : i ∉ o) : OwnA (σ.set i (some v)) o = OwnA σ o := by
  funext a
  apply propext
  refine ⟨fun ⟨j, hj, q⟩ => ⟨j, hj, ?_⟩, fun ⟨j, hj, q⟩ => ⟨j, hj, ?_⟩⟩
  · have n1 : i ≠ j := fun z => hi (by rw [z]; exact hj)
    rwa [List.getElem?_set_ne n1] at q
  · have n1 : i ≠ j := fun z => hi (by rw [z]; exact hj)
    rwa [List.getElem?_set_ne n1]
theorem fg_name {i : Nat} {d : PyData} {R : DEnv → List Nat → Nat → Prop} (hi : i ∉ o) (h : R (Γ.set i (some d)) o n) : Fg K g (gName i) d Γ o n R := fun σ H v e iv Q q =>
  q _ o n _ H h (by rw [OwnA.set hi]; exact stp_refl e) (e.set hi iv)
theorem fgs_nil {R : DEnv → List Nat → Nat → Prop} (h : R Γ o n) : Fgs K g gNil [] Γ o n R := fun σ H vs e iv Q q => by
  cases iv
  exact ⟨rfl, q Γ o n σ h (stp_refl e) e⟩
theorem fgs_cons {i : Nat} {u : TGs} {d : PyData} {ds : List PyData} {R : DEnv → List Nat → Nat → Prop} (hi : i ∉ o) (h : Fgs K g u ds (Γ.set i (some d)) o n R) : Fgs K g (gCons (gName i) u) (d :: ds) Γ o n R := fun σ H vs e iv Q q => by
  cases iv with
  | cons i1 i2 => exact ⟨_, _, rfl, h _ H _ (e.set hi i1) i2 Q fun Γ' o' n' σ' a s e' => q Γ' o' n' σ' a (by rw [OwnA.set hi] at s; exact s) e'⟩
theorem fg_tup {m : Nat} {t : TGs} {ds : List PyData} {R : DEnv → List Nat → Nat → Prop} (hl : ds.length = m) (h : Fgs K g t ds Γ o n R) : Fg K g (gTup K m t) (.tuple ds) Γ o n R := fun σ H v e iv Q q => by
  cases iv with
  | tup ne hs ia => exact ⟨_, _, rfl, hs, by rw [ia.length]; exact hl, h σ H _ e ia Q fun Γ' o' n' σ' a s e' => q Γ' o' n' σ' H a s e'⟩
theorem fs_par {i j : Nat} {ta : TA} (hi : i ∉ o) (hj : j ∉ o) (h : Ea K g ta Γ n fun ds n1 => ∃ d e, ds = [d, e] ∧ D.nx ((Γ.set i (some d)).set j (some e)) o n1) : Fs K g (tPar i j ta) Γ o n D := fun σ H e E k => by
  refine h σ H e.ok _ ?_
  rintro ds n1 vs H1 ⟨d, d2, rfl, h1⟩ f1 g1 i1
  cases i1 with
  | cons a b =>
    cases b with
    | cons b c =>
      cases c
      have e2 := (((e.mono f1 g1).set hi a).set hj b)
      exact ⟨_, _, rfl, k.nx _ o n1 _ H1 h1 (by rw [OwnA.set hj, OwnA.set hi]; exact e.stp f1) e2⟩
theorem fs_par3 {i j l : Nat} {ta : TA} (hi : i ∉ o) (hj : j ∉ o) (hl : l ∉ o) (h : Ea K g ta Γ n fun ds n1 => ∃ d e f, ds = [d, e, f] ∧ D.nx (((Γ.set i (some d)).set j (some e)).set l (some f)) o n1) : Fs K g (tPar3 i j l ta) Γ o n D := fun σ H e E k => by
  refine h σ H e.ok _ ?_
  rintro ds n1 vs H1 ⟨d, d2, d3, rfl, h1⟩ f1 g1 i1
  cases i1 with
  | cons a b =>
    cases b with
    | cons b c =>
      cases c with
      | cons c c2 =>
        cases c2
        exact ⟨_, _, _, rfl, k.nx _ o n1 _ H1 h1 (by rw [OwnA.set hl, OwnA.set hj, OwnA.set hi]; exact e.stp f1) ((((e.mono f1 g1).set hi a).set hj b).set hl c)⟩
/-! ### new lists -/
theorem ef_ee {te : TE} {R : PyData → Nat → Prop} (h : Ef K g te Γ n fun ds n1 => R (.list ds) n1) : Ee K g te Γ n R := fun σ H e Q q =>
  h σ H e Q fun ds n' a xs H' r f gg _ np hl ia => q _ n' _ H' r f gg (.lst np hl ia)
/-! ### an own list changes -/
def Nl (z : Option PyData) : Prop := ∀ d, z = some d → noLst d = true ∨ d = wellD
theorem nl_none : Nl none := fun _ h => by cases h
theorem nl_well : Nl (some wellD) := fun _ h => by cases h; exact .inr rfl
theorem nl_of {d : PyData} (h : noLst d = true) : Nl (some d) := fun _ e => by cases e; exact .inl h
def Ap (o : List Nat) : Nat → DEnv → Prop
  | _, [] => True
  | j, z :: Γ => (j ∈ o ∨ Nl z) ∧ Ap o (j + 1) Γ
theorem Ap.get : ∀ {Γ : DEnv} {j : Nat}, Ap o j Γ → ∀ i d, Γ[i]? = some (some d) → (j + i ∈ o ∨ noLst d = true ∨ d = wellD)
  | [], _, _, _, _, h => by simp at h
  | x :: Γ, j, a, 0, d, h => by
    simp at h
    exact a.1.imp id fun w => w d h
  | x :: Γ, j, a, i + 1, d, h => by
    have := Ap.get (Γ := Γ) (j := j + 1) a.2 i d (by simpa using h)
    rwa [Nat.add_assoc, Nat.add_comm 1 i] at this
theorem ImAll.set {xs : List V} {ds : List PyData} {v : V} {d : PyData} (h : Im K p H v d) : ∀ {xs : List V} {ds : List PyData} (j : Nat), ImAll K p H xs ds → ImAll K p H (xs.set j v) (ds.set j d)
  | _, _, _, .nil => .nil
  | _, _, 0, .cons _ t => .cons h t
  | _, _, j + 1, .cons a t => .cons a (ImAll.set (xs := xs) (ds := ds) h j t)
/-! ### loops -/
theorem Rd.stp {A A' : Addr → Prop} {a : Addr} {u : HO} (s : Stp p A H A' H') (l : ∀ a, A a → ∃ xs, H a = some (.lst xs)) (n : p ≠ some a) (hu : ∀ xs, u ≠ .lst xs) (h : Rd H a u) : Rd H' a u := by
  rcases h with h | ⟨b, h⟩
  · rcases s.fr a _ n h with q | q
    · obtain ⟨xs, q⟩ := l a q
      rw [h] at q; cases q
      exact absurd rfl (hu xs)
    · exact .inl q
  · rcases s.fr a _ n h with q | q
    · obtain ⟨xs, q⟩ := l a q
      rw [h] at q; cases q
    · exact .inr ⟨b, q⟩
theorem SqT.stp {A A' : Addr → Prop} {a : Addr} {xs : List V} (s : Stp p A H A' H') (l : ∀ a, A a → ∃ xs, H a = some (.lst xs)) (n : p ≠ some a ∨ KTup K a xs) (h : SqT K H a xs) : SqT K H' a xs := by
  rcases n with n | n
  · rcases h with h | h
    · exact .inl (Rd.stp s l n (fun _ z => by cases z) h)
    · exact .inr h
  · exact .inr n
mutual
theorem Im.stp {A A' : Addr → Prop} (s : Stp p A H A' H') (l : ∀ a, A a → ∃ xs, H a = some (.lst xs)) : ∀ {v : V} {d : PyData}, Im K p H v d → noLst d = true → Im K p H' v d
  | _, _, .non, _ => .non
  | _, _, .bl b, _ => .bl b
  | _, _, .int i, _ => .int i
  | _, _, .str x, _ => .str x
  | _, _, .tup (a := a) n h ia, z => .tup n (SqT.stp s l n h) (ImAll.stp s l ia (by simpa [noLst] using z))
  | _, _, .lst _ _ _, z => by simp [noLst] at z
  | _, _, .ty n, z => by simp [noLst, tyD] at z
  | _, _, .cl n, z => by simp [noLst, clD] at z
  | _, _, .well n, z => by simp [noLst, wellD] at z
  | _, _, .emp _ _, z => by simp [noLst, empD] at z
  | _, _, .erk _ _ _ _ _, z => by simp [noLst, erD] at z
  | _, _, .erb _ _, z => by simp [noLst, ebD] at z
  | _, _, .x1 _ _, z => by simp [noLst, x1D] at z
theorem ImAll.stp {A A' : Addr → Prop} (s : Stp p A H A' H') (l : ∀ a, A a → ∃ xs, H a = some (.lst xs)) : ∀ {vs : List V} {ds : List PyData}, ImAll K p H vs ds → noLstAll ds = true → ImAll K p H' vs ds
  | _, _, .nil, _ => .nil
  | _, d :: ds, .cons h t, z => by
    have q : (noLst d && noLstAll ds) = true := by simpa only [noLstAll] using z
    rw [Bool.and_eq_true] at q
    exact .cons (Im.stp s l h q.1) (ImAll.stp s l t q.2)
end
end
end J
/-! Pools of angles. -/
namespace J
open PySem L2
def AngK (r : Int) (k : Nat) (x : PyData) : Prop := ∃ a b l : Int, x = angD r a b l ∧ isA r a b l ∧ Bd k a ∧ Bd k b ∧ Bd k l
theorem AngK.mono {r : Int} {j k : Nat} {x : PyData} (h : AngK r j x) (l : j ≤ k) : AngK r k x :=
  let ⟨a, b, c, e, hA, h1, h2, h3⟩ := h; ⟨a, b, c, e, hA, h1.mono l, h2.mono l, h3.mono l⟩
theorem nl_ang (r a b l : Int) : noLst (angD r a b l) = true := by simp [angD, noLst, noLstAll]
end J
/-! Places of several angles in one ring with a sign. -/
namespace J
section
open Lean.Grind Sg
/-- a map of rings that keeps signs -/
structure SH {R R' : Type} [CommRing R] [Sg R] [CommRing R'] [Sg R'] (φ : R → R') : Prop where
  add : ∀ x y, φ (x + y) = φ x + φ y
  mul : ∀ x y, φ (x * y) = φ x * φ y
  neg : ∀ x, φ (-x) = -φ x
  sg : ∀ x, s (φ x) = s x
variable {R : Type} [CommRing R] [Sg R]
theorem SH.sub {R' : Type} [CommRing R'] [Sg R'] {φ : R → R'} (h : SH φ) (x y : R) : φ (x - y) = φ x - φ y := by
  rw [show x - y = x + -y by grind, h.add, h.neg]; grind
theorem SH.zero {R' : Type} [CommRing R'] [Sg R'] {φ : R → R'} (h : SH φ) : φ 0 = 0 := by
  have := h.sub 0 0
  rw [show (0 : R) - 0 = 0 by grind] at this
  rw [this]; grind
end
end J
/-! Opposite and mirrored places. -/
namespace J
section
open Lean.Grind Sg
/-- the signs of the arrow at a place -/
def xS (r : Int) (x : A3) : Int := sidD r x.1 x.2.1 x.2.2 1 0 0
def yS (r : Int) (x : A3) : Int := sidD r x.1 x.2.1 x.2.2 0 1 0
def sn (r : Int) (x y : A3) : Int := sinD r x.1 x.2.1 x.2.2 y.1 y.2.1 y.2.2
abbrev isA3 (r : Int) (x : A3) : Prop := isA r x.1 x.2.1 x.2.2
theorem xS_e {r a b l : Int} : sidD r a b l 1 0 0 = sgn2 (l * a) b (rsq r a b l) := by unfold sidD; congr 1 <;> grind
theorem yS_e {r a b l : Int} : sidD r a b l 0 1 0 = sgn2 (r * l * b) (-a) (rsq r a b l) := by unfold sidD; congr 1 <;> grind
theorem tri1 {z : Int} (b : Bd 1 z) : z = 0 ∨ z = 1 ∨ z = -1 := by unfold Bd at b; omega
theorem xS_tri (r : Int) (x : A3) : xS r x = 0 ∨ xS r x = 1 ∨ xS r x = -1 := tri1 (sgn2_bd _ _ _)
theorem yS_tri (r : Int) (x : A3) : yS r x = 0 ∨ yS r x = 1 ∨ yS r x = -1 := tri1 (sgn2_bd _ _ _)
theorem xy_nz {r : Int} {x : A3} (h : isA3 r x) : xS r x ≠ 0 ∨ yS r x ≠ 0 := by
  unfold xS yS
  rw [xS_e, yS_e]
  exact place_nz h
def hl (p q : Int) : Bool := decide (0 < p) || (decide (p = 0) && decide (0 < q))
theorem kind {r : Int} {x : A3} (h : isA3 r x) : (yS r x = 1) ∨ (yS r x = -1) ∨ (yS r x = 0 ∧ xS r x = 1) ∨ (yS r x = 0 ∧ xS r x = -1) := by
  rcases yS_tri r x with a | a | a
  · rcases xS_tri r x with b | b | b
    · rcases xy_nz h with c | c
      · exact absurd b c
      · exact absurd a c
    · exact .inr (.inr (.inl ⟨a, b⟩))
    · exact .inr (.inr (.inr ⟨a, b⟩))
  · exact .inl a
  · exact .inr (.inl a)
theorem ob : ∀ a b c p q t : Bool, (if (if (!b) = !c then p else !b) = true then ((if (!b) = !a then q else !b) && (if (!a) = !c then t else !a)) else ((if (!b) = !a then q else !b) || (if (!a) = !c then t else !a))) =
    (if (if b = c then p else b) = true then ((if b = a then q else b) && (if a = c then t else a)) else ((if b = a then q else b) || (if a = c then t else a))) := by decide
end
end J
/-! Comprehensions that make new lists, also of lists. -/
namespace J
open PySem L2
section
variable {K : PySem.W.Frag} {p : Option Addr} {g : Gh p} {n : Nat} {Γ : DEnv} {R : List PyData → Nat → Prop} {H H' : Hp}
/-- a heap without one of its objects -/
def hid (H : Hp) (L : Addr) : Hp := fun a => if a = L then none else H a
theorem hid_upd (H : Hp) (L : Addr) (o : HO) : hid (upd H L o) L = hid H L := by
  funext a
  unfold hid
  by_cases h : a = L
  · rw [if_pos h, if_pos h]
  · rw [if_neg h, if_neg h, upd_ne h]
theorem hid_fr {L : Addr} (f : FrP p H H') : FrP p (hid H L) (hid H' L) := fun a o n h => by
  unfold hid at h ⊢
  by_cases q : a = L
  · rw [if_pos q] at h; cases h
  · rw [if_neg q] at h ⊢
    exact f a o n h
theorem hid_le {L : Addr} : FrP p (hid H L) H := fun a o n h => by
  unfold hid at h
  by_cases q : a = L
  · rw [if_pos q] at h; cases h
  · rw [if_neg q] at h; exact h
theorem hid_ne {L a : Addr} {o : HO} (h : a ≠ L) (e : H a = some o) : hid H L a = some o := by unfold hid; rw [if_neg h]; exact e
mutual
theorem Im.hid {L : Addr} {l : List V} (hL : H L = some (.lst l)) : ∀ {v : V} {d : PyData}, Im K p H v d → noLst d = true → Im K p (J.hid H L) v d
  | _, _, .non, _ => .non
  | _, _, .bl b, _ => .bl b
  | _, _, .int i, _ => .int i
  | _, _, .str x, _ => .str x
  | _, _, .tup (a := a) n h ia, z => .tup n (by
      rcases h with (h | ⟨o, h⟩) | h
      · exact .inl (.inl (hid_ne (ne_of h hL (by intro z; cases z)) h))
      · exact .inl (.inr ⟨o, hid_ne (ne_of h hL (by intro z; cases z)) h⟩)
      · exact .inr h) (ImAll.hid hL ia (by simpa [noLst] using z))
  | _, _, .lst _ _ _, z => by simp [noLst] at z
  | _, _, .ty n, z => by simp [noLst, tyD] at z
  | _, _, .cl n, z => by simp [noLst, clD] at z
  | _, _, .well n, z => by simp [noLst, wellD] at z
  | _, _, .emp _ _, z => by simp [noLst, empD] at z
  | _, _, .erk _ _ _ _ _, z => by simp [noLst, erD] at z
  | _, _, .erb _ _, z => by simp [noLst, ebD] at z
  | _, _, .x1 _ _, z => by simp [noLst, x1D] at z
theorem ImAll.hid {L : Addr} {l : List V} (hL : H L = some (.lst l)) : ∀ {vs : List V} {ds : List PyData}, ImAll K p H vs ds → noLstAll ds = true → ImAll K p (J.hid H L) vs ds
  | _, _, .nil, _ => .nil
  | _, d :: ds, .cons h t, z => by
    have q : (noLst d && noLstAll ds) = true := by simpa only [noLstAll] using z
    rw [Bool.and_eq_true] at q
    exact .cons (Im.hid hL h q.1) (ImAll.hid hL t q.2)
end
/-- a value that holds no list that was there before -/
def Ev (K : PySem.W.Frag) {p : Option Addr} (g : Gh p) (te : TE) (Γ : DEnv) (n : Nat) (R : PyData → Nat → Prop) : Prop := ∀ σ H, EnvOk K g n H σ Γ → ∀ Q : VK, (∀ d n' v H', R d n' → FrP p H H' → g.G n' H' → (∀ L l l', p ≠ some L → H L = some (.lst l) → H' L = some (.lst l') → Im K p (hid H' L) v d) → Q v H') → te σ H Q
theorem ev_nl {te : TE} {R : PyData → Nat → Prop} (h : Ee K g te Γ n fun d n' => noLst d = true ∧ R d n') : Ev K g te Γ n R := fun σ H e Q q =>
  h σ H e Q fun d n' v H' r f gg i => q d n' v H' r.2 f gg fun L l l' np h1 h2 => Im.hid h2 i r.1
/-- the turns of a comprehension over a row of data -/
structure LcX (K : PySem.W.Frag) {p : Option Addr} (g : Gh p) (i : Nat) (tt : TT) (te : TE) (Γ : DEnv) (n : Nat) (ds : List PyData) (R : List PyData → Nat → Prop) (I : Nat → List PyData → Nat → Prop) : Prop where
  len : ds.length ≤ 1000
  start : I 0 [] n
  turn : ∀ j x acc n', ds[j]? = some x → I j acc n' → Et K g tt (Γ.set i (some x)) n' fun b n2 => (b = true → Ev K g te (Γ.set i (some x)) n2 fun y n3 => I (j + 1) (acc ++ [y]) n3) ∧ (b = false → I (j + 1) acc n2)
  fin : ∀ acc n', I ds.length acc n' → R acc n'
theorem lc_new {i : Nat} {tt : TT} {te : TE} {ds : List PyData} {xs : List V} {I : Nat → List PyData → Nat → Prop} {σ : St} {H1 : Hp} {Q : VK} {J : It} {L : Addr} (C : LcX K g i tt te Γ n ds R I) (e : EnvOk K g n H1 σ Γ) (ia : ImAll K p H1 xs ds) (hL : H1 L = none)
    (jg : ∀ j H2, FrP p H1 H2 → j < xs.length → J.go j H2) (jy : ∀ j H2 x H3, j < xs.length → FrP p H1 H2 → J.yld j H2 x H3 → H3 = H2 ∧ xs[j]? = some x) (js : ∀ H2, FrP p H1 H2 → J.stop xs.length H2)
    (q : ∀ ds n' a xs H', R ds n' → FrP p H1 H' → g.G n' H' → H1 a = none → p ≠ some a → H' a = some (.lst xs) → ImAll K p H' xs ds → Q (.ref a) H') :
    ∃ W : Nat → Nat → Hp → Prop, (∃ m, W 0 m (upd H1 L (.lst []))) ∧ ∀ j m H, W j m H →
      (J.stop j H ∧ Q (.ref L) H) ∨ (J.go j H ∧ ∃ Nx : Hp → Prop, (∀ H', Nx H' → ∃ m', m' < m ∧ W (j + 1) m' H') ∧ ∀ x H', J.yld j H x H' → gName i x (wipe σ [i]) H' fun σ2 H2 => wipe σ2 [i] = wipe σ [i] ∧ tt σ2 H2 fun b H3 =>
        if b = true then te σ2 H3 fun y H4 => ∃ acc, H4 L = some (.lst acc) ∧ acc.length < sizeLine ∧ Nx (upd H4 L (.lst (acc ++ [y]))) else Nx H3) := by
  have hl := ia.length
  have pL : p ≠ some L := new_ne (fun a ea => g.tr n H1 a e.gh ea) hL
  let W : Nat → Nat → Hp → Prop := fun j m H2 => m = xs.length - j ∧ j ≤ xs.length ∧ ∃ accV acc n', H2 L = some (.lst accV) ∧ acc.length ≤ j ∧ ImAll K p (hid H2 L) accV acc ∧ I j acc n' ∧ FrP p H1 H2 ∧ g.G n' H2
  refine ⟨W, ⟨xs.length, by simp, Nat.zero_le _, [], [], n, upd_same, Nat.le_refl _, .nil, C.start, .of (new_same hL), g.st _ _ _ e.gh (new_same hL)⟩, ?_⟩
  rintro j m H2 ⟨rfl, hj, accV, acc, n', hH2, ha, iacc, hI, f2, g2⟩
  by_cases hlt : j < xs.length
  · refine .inr ⟨jg j H2 f2 hlt, fun H' => W (j + 1) (xs.length - (j + 1)) H', fun H' w => ⟨xs.length - (j + 1), by omega, w⟩, ?_⟩
    intro x H3 hy
    obtain ⟨rfl, hx⟩ := jy j H2 x H3 hlt f2 hy
    obtain ⟨dx, hdx, idx⟩ := (ia.mono f2).getV hx
    have e3 : EnvOk K g n' H3 ((wipe σ [i]).set i (some x)) (Γ.set i (some dx)) := by
      have e4 : EnvOk K g n' H3 ((σ.set i none).set i (some x)) ((Γ.set i none).set i (some dx)) := ((e.mono f2 g2).wipe1 (i := i)).set idx
      rw [List.set_set, List.set_set] at e4
      show EnvOk K g n' H3 ((σ.set i none).set i (some x)) (Γ.set i (some dx))
      rw [List.set_set]
      exact e4
    refine ⟨?_, ?_⟩
    · show (((σ.set i none).set i (some x)).set i none) = σ.set i none
      rw [List.set_set, List.set_set]
    · refine C.turn j dx acc n' hdx hI _ H3 e3 _ fun b n2 H4 h4 f4 g4 => ?_
      have hH4 : H4 L = some (.lst accV) := f4 _ _ pL hH2
      cases b with
      | false => exact ⟨rfl, hlt, accV, acc, n2, hH4, by omega, iacc.mono (hid_fr f4), h4.2 rfl, f2.trans f4, g4⟩
      | true =>
        refine (h4.1 rfl) _ H4 (e3.mono f4 g4) _ fun y n3 vy H5 h5 f5 g5 i5 => ?_
        have hH5 : H5 L = some (.lst accV) := f5 _ _ pL hH4
        have hlen : accV.length = acc.length := iacc.length
        refine ⟨accV, hH5, ?_, ?_⟩
        · have h1 := C.len
          have : accV.length < 1001 := by omega
          exact Nat.lt_of_lt_of_le this (by decide)
        · refine ⟨rfl, hlt, accV ++ [vy], acc ++ [y], n3, upd_same, by rw [List.length_append]; show acc.length + 1 ≤ j + 1; omega, ?_, h5, ?_, g.nw n n3 H1 H5 L _ e.gh hL g5⟩
          · rw [hid_upd]
            exact ImAll.append ((iacc.mono (hid_fr f4)).mono (hid_fr f5)) (.cons (i5 L accV accV pL hH4 hH5) .nil)
          · intro b o nb hb
            rw [upd_ne (ne_of_none hb hL)]
            exact ((f2.trans f4).trans f5) b o nb hb
  · have ej : j = xs.length := by omega
    subst ej
    exact .inl ⟨js H2 f2, q _ n' _ _ H2 (C.fin acc n' (by rw [← hl]; exact hI)) f2 g2 hL pL hH2 (iacc.mono hid_le)⟩
theorem fr_none {a : Addr} {H1 : Hp} (g1 : g.G n H1) (np : p ≠ some a) (f : FrP p H H1) (h : H1 a = none) : H a = none := by
  cases e : H a with
  | none => rfl
  | some o => rw [f a o np e] at h; cases h
def rngD (m : Nat) : List PyData := (List.range m).map fun k : Nat => PyData.int (k : Int)
theorem rng_im {H : Hp} : ∀ l : List Nat, ImAll K p H (l.map fun k : Nat => V.int (k : Int)) (l.map fun k : Nat => PyData.int (k : Int))
  | [] => .nil
  | _ :: l => .cons (.int _) (rng_im l)
theorem ef_lcR {i : Nat} {ta : TA} {te : TE} {tt : TT} (h : Ea K g ta Γ n fun ds n1 => ∃ j : Int, ds = [.int j] ∧ -(2 ^ 62) ≤ j ∧ j < 2 ^ 62 ∧ ∃ I, LcX K g i tt te Γ n1 (rngD j.toNat) R I) : Ef K g (tLc (iRng1 ta) (gName i) tt te [i]) Γ n R := fun σ H e Q q => by
  refine h σ H e _ ?_
  rintro d n1 v H1 ⟨j, rfl, hj0, hj1, I, C⟩ f1 g1 i1
  have ev : v = [.int j] := by
    cases i1 with
    | cons a b => cases b; cases a; rfl
  subst ev
  have e0 : ((List.range j.toNat).map fun k : Nat => V.int (k : Int)).length = j.toNat := by rw [List.length_map, List.length_range]
  refine ⟨j, rfl, hj0, hj1, fun L hL => lc_new C (e.mono f1 g1) (rng_im (List.range j.toNat)) hL (fun k H2 f hk => by rw [e0] at hk; exact hk) (fun k H2 x H3 hk f y => ?_) (fun H2 f => by rw [e0]; exact Nat.le_refl _) fun ds n' a xs H' r f gg ha np hs ix => q ds n' a xs H' r (f1.trans f) gg (fr_none g1 np f1 ha) np hs ix⟩
  rw [e0] at hk
  refine ⟨y.1, ?_⟩
  rw [List.getElem?_map, List.getElem?_range hk, y.2, Int.zero_add]
  rfl
end
end J
/-! One place: its sides, its way. -/
namespace J
open PySem L2
theorem rng_get {m j : Nat} {x : PyData} (h : (rngD m)[j]? = some x) : j < m ∧ x = .int (j : Int) := by
  unfold rngD at h
  rw [List.getElem?_map] at h
  by_cases q : j < m
  · rw [List.getElem?_range q] at h
    cases h
    exact ⟨q, rfl⟩
  · rw [List.getElem?_eq_none (by rw [List.length_range]; omega)] at h
    cases h
end J
namespace J
open PySem L2
/-- repr of truth values, too -/
def rReprB (K : PySem.W.Frag) : List V → Hp → VK → Prop := fun xs H Q => rReprA K xs H Q ∨ ∃ b : Bool, xs = [.bl b] ∧ Q (.str (PyData.shown (.bool b))) H
theorem cr_reprB {X : Cx} {K : PySem.W.Frag} (h : X.K = K) (hg : X.A.guards = some []) (hu : X.A.units + 64 < cLine) : CallR X (.builtin "repr") (rReprB K) := by
  intro pins s σ H xs us Q I r hq
  rcases hq with hq | ⟨b, rfl, q⟩
  · exact cr_reprA h hg hu pins s σ H xs us Q I r hq
  · cases r with
    | cons rx rt =>
      cases rt
      cases rx
      exact PySem.P.repr_of_bool ⟨.str _, H, I.tok _, ⟨_, rfl⟩, q⟩
section
variable {K : PySem.W.Frag} {p : Option Addr} {R : PyData → Prop}
theorem cl_reprSB {d : PyData} (h1 : PyProof.Rows.isDisplay d = true) (h : Sw 3 d) (r : R (.str d.shown)) : Cl K p (rReprB K) [d] R := fun H vs tr ia Q q => .inl (cl_reprSA h1 h r H vs tr ia Q q)
theorem cl_reprIB {i : Int} (b : Bd 1900 i) (r : R (.str (PyData.shown (.int i)))) : Cl K p (rReprB K) [.int i] R := fun H vs tr ia Q q => .inl (cl_reprIA b r H vs tr ia Q q)
theorem cl_reprBB {b : Bool} (r : R (.str (PyData.shown (.bool b)))) : Cl K p (rReprB K) [.bool b] R := fun H vs tr ia Q q => by
  cases ia with
  | cons ix it =>
    cases it; cases ix
    exact .inr ⟨b, rfl, q _ _ H r (Same.refl H) (.str _)⟩
end
end J
/-! Places between places, told by sines and cosines alone; turned places. -/
namespace J
section
open Lean.Grind Sg
/-- in which part of the turn a place lies, seen from another one -/
def cls (a k : Int) : Nat := if 0 < a then 1 else if a < 0 then 3 else if 0 < k then 0 else 2
variable {R : Type} [CommRing R] [Sg R]
end
end J
namespace J
open PySem L2
def rReprC (K : PySem.W.Frag) : List V → Hp → VK → Prop := fun xs H Q => rReprB K xs H Q ∨ (xs = [.non] ∧ Q (.str (PyData.shown .none)) H)
theorem cr_reprC {X : Cx} {K : PySem.W.Frag} (h : X.K = K) (hg : X.A.guards = some []) (hu : X.A.units + 64 < cLine) : CallR X (.builtin "repr") (rReprC K) := by
  intro pins s σ H xs us Q I r hq
  rcases hq with hq | ⟨rfl, q⟩
  · exact cr_reprB h hg hu pins s σ H xs us Q I r hq
  · cases r with
    | cons rx rt =>
      cases rt
      cases rx
      exact PySem.P.repr_of_none ⟨.str _, H, I.tok _, ⟨_, rfl⟩, q⟩
section
variable {K : PySem.W.Frag} {p : Option Addr} {R : PyData → Prop}
theorem cl_reprSC {d : PyData} (h1 : PyProof.Rows.isDisplay d = true) (h : Sw 3 d) (r : R (.str d.shown)) : Cl K p (rReprC K) [d] R := fun H vs tr ia Q q => .inl (cl_reprSB h1 h r H vs tr ia Q q)
theorem cl_reprIC {i : Int} (b : Bd 1900 i) (r : R (.str (PyData.shown (.int i)))) : Cl K p (rReprC K) [.int i] R := fun H vs tr ia Q q => .inl (cl_reprIB b r H vs tr ia Q q)
theorem cl_reprBC {b : Bool} (r : R (.str (PyData.shown (.bool b)))) : Cl K p (rReprC K) [.bool b] R := fun H vs tr ia Q q => .inl (cl_reprBB r H vs tr ia Q q)
theorem cl_reprNC (r : R (.str (PyData.shown .none))) : Cl K p (rReprC K) [.none] R := fun H vs tr ia Q q => by
  cases ia with
  | cons ix it =>
    cases it; cases ix
    exact .inr ⟨rfl, q _ _ H r (Same.refl H) (.str _)⟩
end
end J
namespace J
open PySem L2
theorem bd3.mono {j k : Nat} {t : A3} (h : bd3 j t) (l : j ≤ k) : bd3 k t := ⟨h.1.mono l, h.2.1.mono l, h.2.2.mono l⟩
end J
/-! Longer rods. -/
/-! Defs that draw and give back a list of their own. -/
/-! Valves, riders and distances: for k53. -/
namespace J
open PySem L2
def sHead : Str := "head"
end J
/-! Events of valves: for k32 and the laws about valves. -/
namespace J
open PySem L2
/-- the vector and the level that an end's steam (exhaust) event is told by -/
def hd1 (s : Str) (x y : Int) : Int := if s = sHead then x else y
end J
namespace J
open PySem L2
def rz (r : Bool) (z : Int) : Int := if r then z else -z
end J
/-! Things of any kind: odd data, what the tests of the program say of them, written out also with {}. -/
namespace J
open PySem PySem.Spec PyProof.Rows L2
/-! ### odd data -/
mutual
/-- the ints below 2^k -/
def Owk (k : Nat) : Nat → PyData → Prop
  | _, .none => True
  | _, .bool _ => True
  | _, .int i => Bd k i
  | _, .str s => (reprText s).length ≤ 100
  | n + 1, .tuple es => es.length ≤ 28 ∧ OwAk k n es
  | n + 1, .list es => es.length ≤ 28 ∧ OwAk k n es
  | _, .dict [] => True
  | _, _ => False
def OwAk (k : Nat) : Nat → List PyData → Prop
  | _, [] => True
  | n, e :: es => Owk k n e ∧ OwAk k n es
end
mutual
theorem Owk.le {j k : Nat} (h : j ≤ k) : ∀ (n : Nat) (d : PyData), Owk j n d → Owk k n d
  | _, .none, _ => by simp only [Owk]
  | _, .bool _, _ => by simp only [Owk]
  | n, .int i, q => by
    have q' : Bd j i := by cases n <;> simpa only [Owk] using q
    cases n <;> (simp only [Owk]; exact q'.mono h)
  | n, .str s, q => by
    cases n <;> (simp only [Owk] at q ⊢; exact q)
  | n + 1, .tuple es, q => by
    simp only [Owk] at q ⊢
    exact ⟨q.1, OwAk.le h n es q.2⟩
  | n + 1, .list es, q => by
    simp only [Owk] at q ⊢
    exact ⟨q.1, OwAk.le h n es q.2⟩
  | _, .dict [], _ => by simp only [Owk]
  | 0, .tuple es, q => by simp only [Owk] at q
  | 0, .list es, q => by simp only [Owk] at q
  | n, .dict (_ :: _), q => by cases n <;> simp only [Owk] at q
theorem OwAk.le {j k : Nat} (h : j ≤ k) : ∀ (n : Nat) (ds : List PyData), OwAk j n ds → OwAk k n ds
  | _, [], _ => by simp only [OwAk]
  | n, d :: ds, q => by
    simp only [OwAk] at q ⊢
    exact ⟨Owk.le h n d q.1, OwAk.le h n ds q.2⟩
end
theorem OwAk.mem {k n : Nat} : ∀ {es : List PyData}, OwAk k n es → ∀ e ∈ es, Owk k n e
  | [], _, _, h => by cases h
  | e :: es, h, x, hx => by
    have h' : Owk k n e ∧ OwAk k n es := by simpa only [OwAk] using h
    rcases List.mem_cons.mp hx with q | q
    · rw [q]; exact h'.1
    · exact OwAk.mem h'.2 x q
theorem Owk.tup {k n : Nat} {es : List PyData} (h : Owk k n (.tuple es)) : es.length ≤ 28 ∧ ∀ e ∈ es, ∃ m, m < n ∧ Owk k m e := by
  cases n with
  | zero => simp only [Owk] at h
  | succ n =>
    have h' : es.length ≤ 28 ∧ OwAk k n es := by simpa only [Owk] using h
    exact ⟨h'.1, fun e he => ⟨n, Nat.lt_succ_self n, h'.2.mem e he⟩⟩
theorem Owk.at {k n : Nat} {es : List PyData} {e : PyData} (h : Owk k n (.tuple es)) (he : e ∈ es) : ∃ m, Owk k m e := by
  obtain ⟨m, _, hm⟩ := h.tup.2 e he
  exact ⟨m, hm⟩
theorem Owk.int {k n : Nat} {i : Int} (h : Owk k n (.int i)) : Bd k i := by cases n <;> simpa only [Owk] using h
/-! ### building -/
/-! ### written out, also with {} -/
mutual
def pln : PyData → Bool
  | .none | .bool _ | .int _ | .str _ => true
  | .tuple es => plnA es
  | .list es => plnA es
  | .dict [] => true
  | .dict _ => false
def plnA : List PyData → Bool
  | [] => true
  | e :: es => pln e && plnA es
end
section
variable {X : Cx} {pins : List (Addr × Obj)} {σ : L2.St} {H : Hp} {s : Shared} {p : Option Addr}
mutual
theorem Im.reads (I : L2.Inv X pins σ H s) : ∀ (d : PyData) (v : V) (u : Value), Im X.K p H v d → pln d = true → RelV v u → ∃ as, Reads s.heap u d as ∧ ∀ a ∈ as, H a ≠ none
  | .none, _, _, h, _, r => by
    cases h; cases r
    exact ⟨_, Reads.none, fun a ha => by cases ha⟩
  | .bool b, _, _, h, _, r => by
    cases h; cases r
    exact ⟨_, Reads.bool b, fun a ha => by cases ha⟩
  | .int i, _, _, h, _, r => by
    cases h
    obtain ⟨t, rfl⟩ := r
    exact ⟨_, Reads.int i t, fun a ha => by cases ha⟩
  | .str x, _, _, h, _, r => by
    cases h
    obtain ⟨t, rfl⟩ := r
    exact ⟨_, Reads.str x t, fun a ha => by cases ha⟩
  | .list ds, _, _, h, z, r => by
    cases h with
    | lst np hs ha =>
      cases r
      obtain ⟨its, rv, ⟨o, n, ho, hc, _, hd⟩, _⟩ := I.list (.inl (.inl hs))
      obtain ⟨as, hr, hn⟩ := ImAll.reads I ds _ its ha (by simpa only [pln] using z) rv
      refine ⟨_, Reads.list ho hc hd hr, fun a h => ?_⟩
      rcases List.mem_cons.mp h with e | h
      · rw [e, hs]; exact fun z => by cases z
      · exact hn a h
  | .tuple ds, _, _, h, z, r => by
    cases h with
    | tup np hs ha =>
      cases r
      obtain ⟨its, rv, ⟨o, ho, hc, n, hd⟩, _⟩ := I.tuple hs
      obtain ⟨as, hr, hn⟩ := ImAll.reads I ds _ its ha (by simpa only [pln] using z) rv
      exact ⟨_, Reads.tuple ho hc hd hr, hn⟩
  | .dict [], _, _, h, _, r => by
    generalize hz : PyData.dict [] = z at h
    cases h with
    | emp np hs =>
      cases r
      obtain ⟨_, _, vs, hkv, o, es, ep, ho, hx, hd, hk, hp, _⟩ := (show ObjOk X.prog X.w H s.heap _ (.dK []) from I.hok _ _ hs)
      cases hkv
      have e : es.toList = [] := List.eq_nil_of_length_eq_zero hp.length
      have hcl : o.cls = .type "dict" := hx.1
      refine ⟨_, Reads.dict ho hcl hd (kvs := []) (by rw [e]; exact ReadsAll.nil) (by rw [e]; exact ReadsAll.nil), fun a h => ?_⟩
      rw [List.append_nil] at h
      rcases List.mem_cons.mp h with e | h
      · rw [e, hs]; exact fun z => by cases z
      · cases h
    | _ => simp [tyD, clD, wellD, erD, ebD, x1D] at hz
  | .dict (_ :: _), _, _, _, z, _ => by simp [pln] at z
theorem ImAll.reads (I : L2.Inv X pins σ H s) : ∀ (ds : List PyData) (vs : List V) (us : List Value), ImAll X.K p H vs ds → plnA ds = true → Vals vs us → ∃ as, ReadsAll s.heap us ds as ∧ ∀ a ∈ as, H a ≠ none
  | [], _, _, h, _, r => by
    cases h; cases r
    exact ⟨_, ReadsAll.nil, fun a ha => by cases ha⟩
  | d :: ds, _, _, h, z, r => by
    have z' : pln d = true ∧ plnA ds = true := by simpa only [plnA, Bool.and_eq_true] using z
    cases h with
    | cons h1 h2 =>
      cases r with
      | cons r1 r2 =>
        obtain ⟨as, q1, n1⟩ := Im.reads I d _ _ h1 z'.1 r1
        obtain ⟨bs, q2, n2⟩ := ImAll.reads I ds _ _ h2 z'.2 r2
        exact ⟨_, ReadsAll.cons q1 q2, fun a ha => (List.mem_append.mp ha).elim (n1 a) (n2 a)⟩
end
end
/-- repr of things of any kind -/
def rReprD (K : PySem.W.Frag) : List V → Hp → VK → Prop := fun xs H Q => rReprC K xs H Q ∨ ∃ (p : Option Addr) (x : V) (d : PyData), xs = [x] ∧ Im K p H x d ∧ pln d = true ∧ PyProof.Rows.isDisplay d = true ∧ d.showable = true ∧ d.depth ≤ 60 ∧ d.shown.length ≤ sizeLine ∧ Q (.str d.shown) H
theorem cr_reprD {X : Cx} {K : PySem.W.Frag} (hs : sysB K = true) (h : X.K = K) (hg : X.A.guards = some []) (hu : X.A.units + 64 < cLine) : CallR X (.builtin "repr") (rReprD K) := by
  subst h
  intro pins s σ H xs us Q I r hq
  rcases hq with hq | ⟨p, x, d, rfl, hd, hp, h1, h2, h4, h5, q⟩
  · exact cr_reprC rfl hg hu pins s σ H xs us Q I r hq
  · cases r with
    | cons rx rt =>
      cases rt
      obtain ⟨as, hr, hn⟩ := Im.reads I d x _ hd hp rx
      obtain ⟨a, rfl⟩ := PyProof.Rows.isRef_of_reads hr h1
      have hsys : sysModules ∉ as := fun hm => by
        obtain ⟨o, ho⟩ := Option.isSome_iff_exists.mp hs
        exact hn _ hm (I.bs _ _ (I.ok.mod.kin _ _ ho)).2
      exact repr_of_reads' hr h2 (fun _ => hsys) hg (by omega) (fun _ _ e => e) (fun h' u tk hk => ⟨.str _, H, I.kept hk, ⟨_, rfl⟩, q⟩) h5
section
variable {K : PySem.W.Frag} {p : Option Addr} {R : PyData → Prop}
/-- data with {} that may be written out -/
structure Sv (n : Nat) (d : PyData) : Prop where
  sh : d.showable = true
  pl : pln d = true
  dp : d.depth ≤ n + 1
  ln : d.shown.length ≤ 620 * 30 ^ n
structure SvA (n : Nat) (ds : List PyData) : Prop where
  sh : PyData.showableAll ds = true
  pl : plnA ds = true
  dp : PyData.depthAll ds ≤ n + 1
  ln : ((PyData.shownAll ds).map (·.length)).sum ≤ ds.length * (620 * 30 ^ n)
  cn : (PyData.shownAll ds).length = ds.length
theorem sv_sw {n : Nat} {d : PyData} (h : Sw n d) (z : pln d = true) : Sv n d := ⟨h.sh, z, Nat.le_succ_of_le h.dp, h.ln⟩
theorem sva_nil {n : Nat} : SvA n [] := ⟨rfl, rfl, Nat.zero_le _, Nat.zero_le _, rfl⟩
theorem sva_cons {n : Nat} {d : PyData} {ds : List PyData} (h : Sv n d) (t : SvA n ds) : SvA n (d :: ds) := by
  refine ⟨?_, ?_, ?_, ?_, ?_⟩
  · simp only [PyData.showableAll, h.sh, t.sh, Bool.and_true]
  · simp only [plnA, h.pl, t.pl, Bool.and_true]
  · simp only [PyData.depthAll]
    exact Nat.max_le.mpr ⟨h.dp, t.dp⟩
  · simp only [PyData.shownAll, List.map_cons, List.sum_cons, List.length_cons]
    have := h.ln
    have := t.ln
    rw [Nat.succ_mul]
    omega
  · simp only [PyData.shownAll, List.length_cons, t.cn]
theorem sv_lst {n : Nat} {ds : List PyData} (h : SvA n ds) (hl : ds.length ≤ 28) : Sv (n + 1) (.list ds) := by
  refine ⟨?_, ?_, ?_, ?_⟩
  · simpa only [PyData.showable] using h.sh
  · simpa only [pln] using h.pl
  · simp only [PyData.depth]
    have := h.dp
    omega
  · simp only [PyData.shown]
    refine Nat.le_trans (listText_len_le _) ?_
    rw [h.cn]
    have := h.ln
    have p := pow30 n
    have m : ds.length * (620 * 30 ^ n) ≤ 28 * (620 * 30 ^ n) := Nat.mul_le_mul_right _ hl
    rw [Nat.pow_succ]
    omega
theorem sv_tup {n : Nat} {ds : List PyData} (h : SvA n ds) (hl : ds.length ≤ 28) : Sv (n + 1) (.tuple ds) := by
  refine ⟨?_, ?_, ?_, ?_⟩
  · simpa only [PyData.showable] using h.sh
  · simpa only [pln] using h.pl
  · simp only [PyData.depth]
    have := h.dp
    omega
  · simp only [PyData.shown]
    refine Nat.le_trans (tupleText_len_le _) ?_
    rw [h.cn]
    have := h.ln
    have p := pow30 n
    have m : ds.length * (620 * 30 ^ n) ≤ 28 * (620 * 30 ^ n) := Nat.mul_le_mul_right _ hl
    rw [Nat.pow_succ]
    omega
theorem cl_reprO {d : PyData} (h1 : PyProof.Rows.isDisplay d = true) (h : Sv 3 d) (r : R (.str d.shown)) : Cl K p (rReprD K) [d] R := fun H vs tr ia Q q => by
  cases ia with
  | cons ix it =>
    cases it
    exact .inr ⟨p, _, d, rfl, ix, h.pl, h1, h.sh, Nat.le_trans h.dp (by decide), Nat.le_trans h.ln (by decide), q _ _ H r (Same.refl H) (.str _)⟩
end
end J
/-! Errors as values: made by position and by name, held in lists, asked for what they keep and what they are. -/
namespace J
namespace KwX
open PySem PySem.W PySem.Calls PyProof.Rows PySem.HandSPX Builtin
section
variable {M : Model} {prog : Program} {w : World} {A : Around} {E : Value → Shared → Prop} {R : Result → Shared → Prop} {h : Heap} {g : Array GenState} {d : Drawn} {t : Nat} {os : OsState}
variable {nm q : Str} {C N : Addr} {bs bm bmB : List Value} {hdct : Bool} {sn : List Str} {sub : List Value} {ab : Bool} {col : Option Bool} {dd : Option Addr} {k0 k1 k2 k3 k5 : Option Value} {B newId initId : String}
theorem ckNew (F : ExcBaseFacts B newId initId bmB) (hT : ∀ X : String, bm.contains (.type X) = bmB.contains (.type X)) {kw : List (Str × Value)} {Q : Unit → Shared → Prop}
    (hC : h.get? C = some (excClassObj nm q C N bs bm hdct sn sub ab col dd k0 k1 k2 k3 k5 newId)) (hq : Q () ⟨h, g, d, t, os⟩) : wpAny M A (checkBuiltinCall newId ⟨[.ref C], kw⟩) Q E ⟨h, g, d, t, os⟩ := by
  have c1 : (Value.ref C :: bm).contains (.type B) = true := (by rw [List.contains_cons, hT, F.hasB, Bool.or_true])
  have c2 := F.noStar
  simp only [checkBuiltinCall, F.newKind, F.newSplit, F.newRow]
  repeat (first | refine wpAny_loadPart_at hC ?_ | (refine wpAny_isSubtype_exc hC ?_; rw [c1]) | refine wpAny_staticBase_exc hC ?_ | refine wpAny_madeBy_exc hC ?_ | simp only [bne_self_eq_false, Bool.false_eq_true, if_false] | wp_step)
  exact hq
theorem new1 (F : ExcBaseFacts B newId initId bmB) (hT : ∀ X : String, bm.contains (.type X) = bmB.contains (.type X)) {kw : List (Str × Value)} (hC : h.get? C = some (excClassObj nm q C N bs bm hdct sn sub ab col dd k0 k1 k2 k3 k5 newId))
    (hq : R (.ok (.ret (.ref (h.objs.size + 1)))) ⟨(h.push (W.kdv_tup [])).push (excO C h.objs.size), g, d, t, os⟩) : codeAny (model prog w) A (.builtin newId ⟨[.ref C], kw⟩) R ⟨h, g, d, t, os⟩ := by
  have c0 := F.ends
  have c1 : (Value.ref C :: bm).contains (.type B) = true := (by rw [List.contains_cons, hT, F.hasB, Bool.or_true])
  have c2 : (Value.ref C :: bm).contains (.type "AttributeError") = false := (by rw [List.contains_cons, hT, F.noAttr]; rfl)
  have c3 : (Value.ref C :: bm).contains (.type "NameError") = false := (by rw [List.contains_cons, hT, F.noName]; rfl)
  refine codeAny_builtinAt F.entry ?_ ; unfold Builtin.«BaseException.__new__» ; refine _root_.PySem.wpAt_bind ?_
  show _root_.PySem.wpAt _ _ _ (stack >>= _) _ _ _ ; refine _root_.PySem.wpAt_bind (_root_.PySem.wpAt_stack fun p below => _root_.PySem.wpAt_of_wpAny ?_)
  wp_walk
  refine _root_.PySem.wpAt_of_wpAny ?_ ; rw [F.owner]
  repeat (first | with_reducible refine wpAny_madeHere_exc F.canon hC ?_ | with_reducible refine wpAny_loadPart_at hC ?_ | (with_reducible refine wpAny_isSubtype_exc hC ?_; first | rw [c1] | rw [c2] | rw [c3]) | wp_step)
  show R _ _ ; rw [Heap.size_push] ; exact hq
theorem tcall (F : ExcBaseFacts B newId initId bmB) (hT : ∀ X : String, bm.contains (.type X) = bmB.contains (.type X)) {kw : List (Str × Value)} {fI : Addr} {Q : Fin → Shared → Prop} (hC : h.get? C = some (excClassObj nm q C N bs bm hdct sn sub ab col dd k0 k1 k2 k3 k5 newId))
    (hi : W.Looks (model prog w) h (typeLookup (.ref C) "__init__") (some (.ref fI))) (hb : ∀ self, W.Looks (model prog w) h (bindSpecial (.ref fI) self) (.ref fI, [self]))
    (hq : codeAny (model prog w) A (.call (.ref fI) ⟨[.ref (h.objs.size + 1)], kw⟩) (fun r s' => match r with | .ok (.ret v) => v = .none ∧ Q (.done (.ret (.ref (h.objs.size + 1)))) s' | .ok _ => False | .error e => E e s') ⟨(h.push (W.kdv_tup [])).push (excO C h.objs.size), g, d, t, os⟩) :
    wpAny (model prog w) A (Builtin.«type.__call__» ⟨[.ref C], kw⟩) Q E ⟨h, g, d, t, os⟩ := by
  repeat (first | with_reducible refine wpAny_loadPart_at hC ?_ | with_reducible refine wpAny_madeBy_exc hC ?_ | wp_step)
  refine codeAny_call_builtin_code (Code.quiet_builtin _ F.quiet) (ckNew F hT hC ?_) ; refine new1 F hT hC ?_ ; show wpAny _ _ _ _ _ _
  have k : ∀ b o, h.get? b = some o → ((h.push (W.kdv_tup [])).push (excO C h.objs.size)).get? b = some o := fun b o e => Heap.get?_push_of_some _ (Heap.get?_push_of_some _ e)
  have hC1 := k _ _ hC ; have hge : ((h.push (W.kdv_tup [])).push (excO C h.objs.size)).get? (h.objs.size + 1) = some (excO C h.objs.size) := (by heap_get)
  have hcC : (Value.ref C :: bm).contains (.ref C) = true := (by simp)
  have i1 := hi.keeps k ; have b1 := (hb (.ref (h.objs.size + 1))).keeps k ; unfold isInstance
  repeat (first | with_reducible refine wpAny_loadPart_at hge ?_ | (with_reducible refine wpAny_isSubtype_exc hC1 ?_; rw [hcC]) | wp_step)
  show wpAny _ _ (typeLookup (.ref C) _) _ _ _ ; refine i1.at ?_
  refine wpAny_holding (wpAny_bind (b1.at ?_)) ; refine wpAny_bind (wpAny_call (codeAny_mono hq fun r s' z => ?_))
  rcases r with e | (v | _ | _ | _) <;> first | exact z | exact z.elim | skip
  obtain ⟨rfl, z⟩ := z
  first | exact wpAny_pure (wpAny_pure z) | (wp_walk; exact z)
theorem callC (F : ExcBaseFacts B newId initId bmB) (hT : ∀ X : String, bm.contains (.type X) = bmB.contains (.type X)) {kw : List (Str × Value)} {fI : Addr} (hC : h.get? C = some (excClassObj nm q C N bs bm hdct sn sub ab col dd k0 k1 k2 k3 k5 newId))
    (hi : W.Looks (model prog w) h (typeLookup (.ref C) "__init__") (some (.ref fI))) (hb : ∀ self, W.Looks (model prog w) h (bindSpecial (.ref fI) self) (.ref fI, [self]))
    (hq : codeAny (model prog w) (A.under (.builtin "type.__call__" ⟨[.ref C], kw⟩)) (.call (.ref fI) ⟨[.ref (h.objs.size + 1)], kw⟩) (W.InitBack (h.objs.size + 1) R) ⟨(h.push (W.kdv_tup [])).push (excO C h.objs.size), g, d, t, os⟩) : codeAny (model prog w) A (.call (.ref C) ⟨[], kw⟩) R ⟨h, g, d, t, os⟩ := by
  have f1 := tc_lookup ; have f2 := tc_bind (.ref C)
  have hTy : (⟨h, g, d, t, os⟩ : Shared).TypeIs (.ref C) "type" := ⟨_, hC, rfl⟩
  refine codeAny_of_tree ?_ ; show wpAny _ _ (callAny (.ref C) _) _ _ _
  repeat (any_goals (first | assumption | with_reducible refine wpAny_loadPart_at hC ?_ | wp_step))
  refine ⟨rfl, ?_⟩ ; refine codeAny_call_builtin_at (Code.quiet_builtin _ (by decide +kernel)) entry_typeCall (wpAny_check_type_call_sub hC (tcall F hT hC hi hb ?_))
  refine codeAny_mono hq fun r s' z => ?_ ; rcases r with e | (v | _ | _ | _) <;> exact z
end
end KwX
end J
namespace J
open PySem PySem.Spec PyProof.Rows L2
open PySem.W (ksEnv ksFn)
/-- what __init__ of such an error does -/
def spInitI (C : Addr) : Sp := fun vs H Q _ => ∃ (a : Addr) (v : V), vs = [.ref a, v] ∧ H a = some (exo a C none) ∧ ∀ dx, H dx = none → dx ≠ a → Q .non (upd (upd H dx (exd dx [(sIndex, v)])) a (exo a C (some dx)))
/-- the text of such an __init__ -/
def IniBI (body : List Stmt) : Prop := ∃ (txt : Str) (j : Nat) (p0 p1 p2 p3 p4 p5 q0 q1 q2 q3 : Pos) (pl : Sem Bool), body = [.Expr (.Call (.Attribute (.Call (.Name "super" p0) [] [] p1) "__init__" p2) [.Constant (.str txt) j p3] [] p4) p5, .Assign [.Attribute (.Name "self" q0) "index" q1] (.Name "index" q2) q3] ∧
  (∀ env, eval (.Call (.Attribute (.Call (.Name "super" p0) [] [] p1) "__init__" p2) [.Constant (.str txt) j p3] [] p4) env = (do
      let ov ← attributeBase (.Call (.Name "super" p0) [] [] p1) "__init__" env (eval (.Call (.Name "super" p0) [] [] p1) env)
      standAt p2.atName
      let (f, first) ← holding [ov] (getMethod ov "__init__" pl)
      callWith p4 f first (backTo p4 (starEach [.Constant (.str txt) j p3] env)) [])) ∧
  (∀ env, swapsWith (.Call (.Attribute (.Call (.Name "super" p0) [] [] p1) "__init__" p2) [.Constant (.str txt) j p3] [] p4) none p5.line env = pure false) ∧
  (∀ env, swapsWith (.Name "index" q2) (some (.Attribute (.Name "self" q0) "index" q1)) q3.line env = pure false)
theorem initI_ok {P : Program} {w : World} {K : PySem.W.Frag} {mg : Str → Option Value} {base : Heap} {CX : CXT} {C fI cda cc : Addr} {qual : Str} {body : List Stmt} {scope : Scope} {params : Arguments} {fd : FuncData} {ar : Arg} (EK : ErrK P K C fI qual body scope params fd cda cc) (hno : PySem.W.findIn K (.ref C) sIndex = some none) (ES : ErrS P scope) (hB : IniBI body)
    (hp : (params.posonlyargs ++ params.args).head? = some ar) (har : ar.arg = "self") (gv : scope.names.lookup ("index" : Str) = some .local) (hg : mg "super" = none) : FnOk P w K mg base CX 1 fI fd ["self", "index"] (spInitI C) := by
  refine ⟨fun vs H Q E ⟨a, v, h, _⟩ => by rw [h]; rfl, fun A outer s H args us vs Q E hr e0 hb r hsp => ?_⟩
  obtain ⟨a, v, rfl, ha, hq⟩ := hsp
  obtain ⟨oc, od, dV, kV, doc, pm, an, ct, osl, hfd, lk⟩ := EK.fn
  have kin : K.In s.heap := e0.mod.kin.keeps fun b o e => (e0.bs b o e).1
  have nol : s.heap.NoLimit := e0.mod.nolimit.keeps fun b o e => (e0.bs b o e).1
  have EK0 := EK
  subst hfd
  have hloc : ∀ x ∈ (["self", "index"] : List Str).zip us, scope.names.lookup x.1 = some .local := fun x hx => by
    have z := (List.of_mem_zip hx).1
    rcases List.mem_cons.mp z with e | z
    · rw [e]; exact ES.se
    · rcases List.mem_cons.mp z with e | z
      · rw [e]; exact gv
      · cases z
  refine ks_codeAny_call_defAt (fd := ksFn "__init__" qual params body scope dV kV doc pm an (.ref cda) ct cc) (body := body) (binds := (["self", "index"] : List Str).zip us) hr.depth (kin _ _ lk) rfl nol (PySem.W.codeRec_of kin EK.co) rfl hb ES.nc hloc (fun h₁ hns hk => ?_) ES.co ES.ge ES.kd
  have I := inv_startI (P := P) (w := w) (K := K) (mg := mg) (N := ["self", "index"]) (qual := qual) (fI := fI) (cda := cda) (t := s.toks + ((["self", "index"] : List Str).zip us).length) ES hr.hd e0 EK.ce r rfl (by decide) (fun x hx => by
    rcases List.mem_cons.mp hx with e | z
    · rw [e]; exact ES.se
    · rcases List.mem_cons.mp z with e | z
      · rw [e]; exact gv
      · cases z) hns hk
  obtain ⟨txt, j, p0, p1, p2, p3, p4, p5, q0, q1, q2, q3, pl, rfl, hev, hs1, hs2⟩ := hB
  generalize hX : cxI P w K mg base ["self", "index"] qual scope fI cda cc A outer s H = X at I
  have eP : X.prog = P := by rw [← hX]; rfl
  have eW : X.w = w := by rw [← hX]; rfl
  have eK : X.K = K := by rw [← hX]; rfl
  have eA : X.A = A.deeper (ksEnv qual scope s.heap.objs.size fI (.ref cda) cc) := by rw [← hX]; rfl
  have eE : X.env = ksEnv qual scope s.heap.objs.size fI (.ref cda) cc := by rw [← hX]; rfl
  have eL : X.env.locals = s.heap.objs.size := by rw [eE]
  have eM : X.mg = mg := by rw [← hX]; rfl
  have eN : X.N = (["self", "index"] : List Str) := by rw [← hX]; rfl
  have eO : X.outer = outer := by rw [← hX]; rfl
  have eS : X.s_0 = s := by rw [← hX]; rfl
  have eH : X.H_0 = H := by rw [← hX]; rfl
  have eX : X.ex = [] := by rw [← hX]; rfl
  have eXE : X.xe = fun _ _ => False := by rw [← hX]; rfl
  clear hX
  have hkof : ∀ y : Str, X.env.kindOf y = scope.names.lookup y := fun y => by rw [eE]; rfl
  have hint : interactive X.env = false := by rw [eE]; unfold interactive; show (scope.kind == .module && _) = false; rw [ES.kd]; rfl
  have goal : _root_.PySem.wpAt (model X.prog X.w) X.A (.func [.Expr (.Call (.Attribute (.Call (.Name "super" p0) [] [] p1) "__init__" p2) [.Constant (.str txt) j p3] [] p4) p5, .Assign [.Attribute (.Name "self" q0) "index" q1] (.Name "index" q2) q3] X.env) (execs [.Expr (.Call (.Attribute (.Call (.Name "super" p0) [] [] p1) "__init__" p2) [.Constant (.str txt) j p3] [] p4) p5, .Assign [.Attribute (.Name "self" q0) "index" q1] (.Name "index" q2) q3] X.env)
      (fun f s' => CR CX outer P w H s Q E (.ok (.ret (match f with | .ret v => v | _ => .none))) s') (fun _ _ => False) { s with heap := h₁, toks := s.toks + ((["self", "index"] : List Str).zip us).length } := by
    refine ks_wpAt_execs_cons (ks_wpAt_Expr_any (ks_wpAt_mono (super_init (C := C) (fI := fI) (cda := cda) (cc := cc) (qual := qual) (scope := scope) (e := a) (x := "self") (E := fun _ _ => False) (by rw [eP, eK]; exact EK0) (by rw [eP]; exact ES) (by rw [eM]; exact hg) (by rw [eL]; exact eE) I hp har (by rw [eN]; rfl) rfl ha (hev _)) (fun _ s' J => ?_) (fun _ _ z => z)) hint (hs1 _))
    show _root_.PySem.wpAt _ _ _ (execs [.Assign [.Attribute (.Name "self" q0) "index" q1] (.Name "index" q2) q3] X.env) _ _ s'
    have vz : PE X (.Name "self" q0) (tVar 0) := pe_var (by rw [eN]; rfl) (.inl (by show X.env.kindOf _ = _; rw [hkof]; exact ES.se))
    have vy : PE X (.Name "index" q2) (tVar 1) := pe_var (by rw [eN]; rfl) (.inl (by show X.env.kindOf _ = _; rw [hkof]; exact gv))
    have hp2 := (pss_one (ps_ost (f := sIndex) (p' := q1) (pos := q3) vz vy (hs2 _))).run [] s' _ H { nx := fun _ H' => Q .non H', rt := Q } J (by
      refine ⟨v, rfl, .ref a, rfl, a, C, rfl, by rw [eK]; exact EK0.o, by rw [eK]; exact hno, .inl ⟨ha, fun dx hdx ne => ?_⟩⟩
      exact hq dx hdx ne)
    refine wpAt_of_wpAny (wpAny_mono hp2 (fun fl s2 hs => ?_) fun e s2 z => by rw [eXE] at z; exact z)
    have fin : ∀ {σ' : L2.St} {H' : Hp} {v : V} {u : Value}, L2.Inv X [] σ' H' s2 → RelV v u → Q v H' → CE outer P w H s Q u s2 := fun {σ' H' v u} J rv q => by
      refine ⟨v, H', by have := J.os; rw [eS] at this; exact this, J.bare, ?_, ?_, rv, q⟩
      · have := J.base
        rw [eX, eS, eH] at this
        rw [← eO]; exact this
      · have := J.hok
        rw [eP, eW] at this
        exact this
    cases fl with
    | ret u =>
      obtain ⟨v, σ', H', J, rv, q⟩ := hs
      exact fin J rv q
    | next =>
      obtain ⟨σ', H', J, q⟩ := hs
      exact fin (v := V.non) (u := Value.none) J rfl q
    | brk =>
      obtain ⟨_, _, _, q⟩ := hs
      exact q.elim
    | cont =>
      obtain ⟨_, _, _, q⟩ := hs
      exact q.elim
  rw [eP, eW, eA, eE] at goal
  exact ks_wpAt_mono goal (fun _ _ z => z) fun _ _ z => z.elim
/-- an error's making, by the name of what it keeps -/
def spN (nm : Str) (C : Addr) : Sp := fun vs H Q _ => ∃ (a : Addr) (v : V), vs = [.ref a, v] ∧ H a = some (exo a C none) ∧ ∀ dx, H dx = none → dx ≠ a → Q .non (upd (upd H dx (exd dx [(nm, v)])) a (exo a C (some dx)))
/-- X(v) or X(nm = v): a new error that keeps v -/
def tMk1 (C : Addr) (nm : Str) (ta : TA) : TE := fun σ H Q => ta σ H fun vs H1 => ∃ v, vs = [v] ∧ ∀ a dx, H1 a = none → H1 dx = none → dx ≠ a → Q (.ref a) (upd (upd (upd H1 a (exo a C none)) dx (exd dx [(nm, v)])) a (exo a C (some dx)))
def tMk0 (C : Addr) : TE := fun _ H Q => ∀ a, H a = none → Q (.ref a) (upd H a (exo a C none))
section
variable {X : Cx} {CX : CXT} {x nm : Str} {C fI : Addr} {k : Nat} {fd : FuncData} {p pos : Pos} {e : Expr} {es : List Expr} {kws : List Keyword} {ta : TA}
theorem mk_run {pins : List (Addr × Obj)} {σ : L2.St} {H : Hp} {s : Shared} {Q : VK} {ws us : List Value} {kw : List (Str × Value)} {v : V} (T : OexC X.K C) (iC : PySem.W.findIn X.K (.ref C) "__init__" = some (some (.ref fI))) (tI : PySem.W.typeIn X.K (.ref fI) = some (.type "function"))
    (F1 : FnOk X.prog X.w X.K X.mg X.base CX k fI fd ["self", nm] (spN nm C)) (hr : Room (k + 1) X.A) (hx : Passes CX X (fun _ _ _ => False)) (I : Inv X pins σ H s) (r : Vals [v] us)
    (hcall : ∀ (a : Addr) (s2 : Shared), X.K.In s2.heap → BindsTo s2 fd ⟨Value.ref a :: ws, kw⟩ ((["self", nm] : List Str).zip (Value.ref a :: us)))
    (hown : ∀ (hp : Heap) (g : Array GenState) (d : Drawn) (t : Nat) (os : OsState) (R : Result → Shared → Prop), (∃ nm q N bs bm sn sub ab col dd k0 k1 k2 k3 k5, hp.get? C = some (excClassObj nm q C N bs bm true sn sub ab col dd k0 k1 k2 k3 k5 "ValueError.__new__") ∧ PySem.HandSPX.refsVE bm = true) → PySem.W.Looks (model X.prog X.w) hp (typeLookup (.ref C) "__init__") (some (.ref fI)) →
      (∀ self, PySem.W.Looks (model X.prog X.w) hp (bindSpecial (.ref fI) self) (.ref fI, [self])) → codeAny (model X.prog X.w) (X.A.under (.builtin "type.__call__" ⟨.ref C :: ws, kw⟩)) (.call (.ref fI) ⟨.ref (hp.objs.size + 1) :: ws, kw⟩) (PySem.W.InitBack (hp.objs.size + 1) R) ⟨(hp.push (PySem.W.kdv_tup ws)).push (PySem.HandSPX.excO C hp.objs.size), g, d, t, os⟩ →
      codeAny (model X.prog X.w) X.A (.call (.ref C) ⟨ws, kw⟩) R ⟨hp, g, d, t, os⟩)
    (h : ∀ a dx, H a = none → H dx = none → dx ≠ a → Q (.ref a) (upd (upd (upd H a (exo a C none)) dx (exd dx [(nm, v)])) a (exo a C (some dx)))) :
    wpAny (model X.prog X.w) X.A (call (.ref C) ws kw) (EP X pins σ Q) X.xe s := by
  have hCx := T.cls
  obtain ⟨hp, g, dr, tk, os⟩ := s
  have hn : H (hp.objs.size + 1) = none := I.hok.fresh (Nat.le_succ _)
  have kk : ∀ b o, hp.get? b = some o → ((hp.push (PySem.W.kdv_tup ws)).push (PySem.HandSPX.excO C hp.objs.size)).get? b = some o := fun b o e => (Heap.get?_push_of_some _ (Heap.get?_push_of_some _ e))
  have hge : ((hp.push (PySem.W.kdv_tup ws)).push (PySem.HandSPX.excO C hp.objs.size)).get? (hp.objs.size + 1) = some (PySem.HandSPX.excO C hp.objs.size) := (by heap_get)
  have I2 : Inv X pins σ (upd H (hp.objs.size + 1) (exo (hp.objs.size + 1) C none)) ⟨(hp.push (PySem.W.kdv_tup ws)).push (PySem.HandSPX.excO C hp.objs.size), g, dr, tk, os⟩ :=
    (I.laid (t' := tk) (a := hp.objs.size + 1) (o := exo (hp.objs.size + 1) C none) (h' := (hp.push (PySem.W.kdv_tup ws)).push (PySem.HandSPX.excO C hp.objs.size)) kk (Nat.le_succ _) (exo_ok hge))
  have r2 : Vals [V.ref (hp.objs.size + 1), v] (Value.ref (hp.objs.size + 1) :: us) := (.cons rfl r)
  have hq : spN nm C [V.ref (hp.objs.size + 1), v] (upd H (hp.objs.size + 1) (exo (hp.objs.size + 1) C none)) (fun z H2 => z = .non ∧ Q (.ref (hp.objs.size + 1)) H2) (fun _ _ _ => False) := by
    refine ⟨_, v, rfl, upd_same, fun dx hdx hne => ⟨rfl, ?_⟩⟩
    rw [upd_ne hne] at hdx
    exact h _ dx hn hdx hne
  obtain ⟨nm', q', N, bs, bm, sn, sub, ab, col, dd, k0, k1, k2, k3, k5, hC, hbm⟩ := hCx
  refine wpAny_call (hown hp g dr tk os _ ⟨_, _, _, _, _, _, _, _, _, _, _, _, _, _, _, I.kIn _ _ hC, hbm⟩ (PySem.W.looks_findIn I.kIn iC) (fun self => PySem.W.bind_fn I.kIn self tI)
    (codeAny_mono (F1.run _ X.stack _ _ ⟨Value.ref (hp.objs.size + 1) :: ws, kw⟩ (Value.ref (hp.objs.size + 1) :: us) _ _ (fun _ _ _ => False) (hr.make C ws kw) (I2.env0.make C ws kw) (hcall _ _ I2.kIn) r2 hq) fun r s' hq' => ?_))
  cases r with
  | error er => exact hx pins σ _ _ er s' I2 hq'
  | ok fl =>
    cases fl with
    | ret u =>
      obtain ⟨z, H', I3, rv, ev, q3⟩ := I2.after hq'
      subst ev
      exact ⟨rv, ⟨V.ref (hp.objs.size + 1), H', I3, rfl, q3⟩⟩
    | next => exact False.elim hq'
    | brk => exact False.elim hq'
    | cont => exact False.elim hq'
theorem pe_mk1 (T : OexC X.K C) (iC : PySem.W.findIn X.K (.ref C) "__init__" = some (some (.ref fI))) (tI : PySem.W.typeIn X.K (.ref fI) = some (.type "function")) (F1 : FnOk X.prog X.w X.K X.mg X.base CX k fI fd ["self", nm] (spN nm C)) (hr : Room (k + 1) X.A) (hb : Binds X.K fd ["self", nm] [])
    (hx : Passes CX X (fun _ _ _ => False)) (hg : Gl X x) (hm : X.mg x = some (.ref C)) (ha : PA X (e :: es) ta) (hdb : (x == ("__debug__" : Str)) = false := by decide) (he : starEach (e :: es) X.env = (false, eval e X.env) :: starEach es X.env := by rfl) (hpl : (backTo pos (starEach es X.env)).any (·.1) = false := by rfl) :
    PE X (.Call (.Name x p) (e :: es) [] pos) (tMk1 C nm ta) := by
  refine ⟨fun pins s σ H Q I h => ?_⟩
  refine (wpAny_Call_Name_kw (ld_glob I hg hm ?_ hdb))
  refine (PySem.W.callWith_K (h₀ := X.base) I.ok.mod.kin T.kC (thn (ha.run pos pins s σ H _ I h) fun us s1 ⟨vs, H1, I1, r1, v, hv, q1⟩ => ⟨I1.kIn, ?_⟩) he hpl)
  subst hv
  have hl : us.length = 1 := r1.length.symm
  refine mk_run (ws := us) (us := us) (kw := []) T iC tI F1 hr hx I1 r1 (fun a s2 ki => ?_) (fun hp g d t os R ⟨_, _, _, _, bm, _, _, _, _, _, _, _, _, _, _, hC, hbm⟩ hi hb' hq => PySem.HandSPX.call_own F.excBase_ValueError (fun Y => PySem.HandSPX.refsVE_contains Y bm hbm) hC hi hb' (by rw [hl, sizeLine_eq]; omega) hq) q1
  have := hb s2 (Value.ref a :: us) ki (by rw [List.append_nil, List.length_cons, hl]; rfl)
  rw [List.append_nil] at this
  exact this
theorem pe_mk1K (T : OexC X.K C) (iC : PySem.W.findIn X.K (.ref C) "__init__" = some (some (.ref fI))) (tI : PySem.W.typeIn X.K (.ref fI) = some (.type "function")) (F1 : FnOk X.prog X.w X.K X.mg X.base CX k fI fd ["self", nm] (spN nm C)) (hr : Room (k + 1) X.A) (hb : KBn X.K fd ["self", nm] 1 [nm] (kwV [0, 1]) (kwV [0, 1]))
    (hx : Passes CX X (fun _ _ _ => False)) (hg : Gl X x) (hm : X.mg x = some (.ref C)) (hkw : PK X kws ta) (hall : (backToKw pos (keywordEach kws X.env)).all (·.1.isSome) = true := by rfl) (hks : (backToKw pos (keywordEach kws X.env)).filterMap (·.1) = [nm] := by rfl) (hdb : (x == ("__debug__" : Str)) = false := by decide)
    (hpl : ((backTo pos (starEach [] X.env)).any (·.1) || (backToKw pos (keywordEach kws X.env)).any (·.1.isNone)) = false := by rfl) : PE X (.Call (.Name x p) [] kws pos) (tMk1 C nm ta) := by
  refine ⟨fun pins s σ H Q I h => ?_⟩
  refine (wpAny_Call_Name_kw (ld_glob I hg hm ?_ hdb))
  refine (PySem.W.callWith_KW0 (h₀ := X.base) I.ok.mod.kin T.kC hall ?_ hpl)
  refine (thn (hkw.run pos pins s σ H _ I h) fun us s2 ⟨zs, H2, I2, rz, v, hv, q2⟩ => ⟨I2.kIn, ?_⟩)
  subst hv
  rw [hks]
  have hl : us.length = 1 := rz.length.symm
  refine mk_run (ws := []) (us := us) (kw := ([nm] : List Str).zip us) T iC tI F1 hr hx I2 rz (fun a s3 ki => ?_) (fun hp g d t os R ⟨_, _, _, _, bm, _, _, _, _, _, _, _, _, _, _, hC, hbm⟩ hi hb' hq => KwX.callC F.excBase_ValueError (fun Y => PySem.HandSPX.refsVE_contains Y bm hbm) hC hi hb' hq) q2
  have := hb.to s3 [Value.ref a] us ki rfl (by rw [hl]; rfl)
  obtain ⟨u, rfl⟩ : ∃ u, us = [u] := by
    match us, hl with
    | [u], _ => exact ⟨u, rfl⟩
  exact this
end
end J
namespace J
open PySem PySem.Spec PyProof.Rows L2
section
variable {X : Cx} {CX : CXT} {x nm : Str} {C fI : Addr} {k : Nat} {fd : FuncData} {p pos : Pos}
/-- X(), of a class that keeps nothing -/
theorem pe_mk0 (T : OexC X.K C) (iC : PySem.W.findIn X.K (.ref C) "__init__" = some (some (.ref fI))) (tI : PySem.W.typeIn X.K (.ref fI) = some (.type "function")) (F1 : FnOk X.prog X.w X.K X.mg X.base CX k fI fd ["self"] (spInit0 C)) (hr : Room (k + 1) X.A) (hb : Binds X.K fd ["self"] [])
    (hx : Passes CX X (fun _ _ _ => False)) (hg : Gl X x) (hm : X.mg x = some (.ref C)) (hdb : (x == ("__debug__" : Str)) = false := by decide) : PE X (.Call (.Name x p) [] [] pos) (tMk0 C) := by
  refine ⟨fun pins s σ H Q I h => ?_⟩
  refine (wpAny_Call_Name_kw (ld_glob I hg hm ?_ hdb)) ; refine (PySem.W.callWith_K0 (K := X.K) I.kIn T.kC ?_) ; show wpAny _ _ (call (.ref C) []) _ _ _
  obtain ⟨nm', q', N, bs, bm, sn, sub, ab, col, dd, k0, k1, k2, k3, k5, hC, hbm⟩ := T.cls
  obtain ⟨hp, g, dr, tk, os⟩ := s
  have hn : H (hp.objs.size + 1) = none := I.hok.fresh (Nat.le_succ _)
  have kk : ∀ b o, hp.get? b = some o → ((hp.push (PySem.W.kdv_tup [])).push (PySem.HandSPX.excO C hp.objs.size)).get? b = some o := fun b o e => (Heap.get?_push_of_some _ (Heap.get?_push_of_some _ e))
  have hge : ((hp.push (PySem.W.kdv_tup [])).push (PySem.HandSPX.excO C hp.objs.size)).get? (hp.objs.size + 1) = some (PySem.HandSPX.excO C hp.objs.size) := (by heap_get)
  have I2 : Inv X pins σ (upd H (hp.objs.size + 1) (exo (hp.objs.size + 1) C none)) ⟨(hp.push (PySem.W.kdv_tup [])).push (PySem.HandSPX.excO C hp.objs.size), g, dr, tk, os⟩ :=
    (I.laid (t' := tk) (a := hp.objs.size + 1) (o := exo (hp.objs.size + 1) C none) (h' := (hp.push (PySem.W.kdv_tup [])).push (PySem.HandSPX.excO C hp.objs.size)) kk (Nat.le_succ _) (exo_ok hge))
  have r2 : Vals [V.ref (hp.objs.size + 1)] [Value.ref (hp.objs.size + 1)] := .cons rfl .nil
  have hq : spInit0 C [V.ref (hp.objs.size + 1)] (upd H (hp.objs.size + 1) (exo (hp.objs.size + 1) C none)) (fun z H2 => z = .non ∧ Q (.ref (hp.objs.size + 1)) H2) (fun _ _ _ => False) := ⟨_, rfl, upd_same, rfl, h _ hn⟩
  refine wpAny_call (PySem.HandSPX.call_own F.excBase_ValueError (fun Y => PySem.HandSPX.refsVE_contains Y bm hbm) (I.kIn _ _ hC) (PySem.W.looks_findIn I.kIn iC) (fun self => PySem.W.bind_fn I.kIn self tI) (Nat.zero_le _)
    ((codeAny_mono (F1.run _ X.stack _ _ ⟨[Value.ref (hp.objs.size + 1)], []⟩ [Value.ref (hp.objs.size + 1)] _ _ (fun _ _ _ => False) (hr.make C [] []) (I2.env0.make C [] []) (hb _ [Value.ref (hp.objs.size + 1)] I2.kIn rfl) r2 hq) fun r s' hq' => ?_)))
  cases r with
  | error er => exact hx pins σ _ _ er s' I2 hq'
  | ok fl =>
    cases fl with
    | ret u =>
      obtain ⟨z, H', I3, rv, ev, q3⟩ := I2.after hq'
      subst ev
      exact ⟨rv, ⟨V.ref (hp.objs.size + 1), H', I3, rfl, q3⟩⟩
    | next => exact False.elim hq'
    | brk => exact False.elim hq'
    | cont => exact False.elim hq'
/-- X(), of a class without an own __init__ -/
theorem pe_mkB {bmB : List Value} {B newId initId : String} (F : ExcBaseFacts B newId initId bmB) (q : PySem.W.excIn X.K C bmB newId = true) (gC : X.mg x = some (.ref C)) (kC : PySem.W.keepIn X.K (.ref C) = true) (hg : Gl X x) (hdb : (x == ("__debug__" : Str)) = false := by decide) : PE X (.Call (.Name x p) [] [] pos) (tMk0 C) := by
  refine ⟨fun pins s σ H Q I h => ?_⟩
  refine (wpAny_Call_Name_kw (ld_glob I hg gC ?_ hdb)) ; refine (PySem.W.callWith_K0 (K := X.K) I.kIn kC ?_) ; show wpAny _ _ (call (.ref C) []) _ _ _
  obtain ⟨bm, N, nm', qn, bs, hdct, sn, sub, ab, col, dd, k0, k1, k2, k3, k5, mN, hC, hN, hni, T⟩ := exc_obj I.kIn q
  refine wpAny_call_exc_subT F T hC hN hni (fun h' a hm => ?_) (Nat.zero_le _)
  have hn : H a = none := (I.hok.gone hm.new)
  obtain ⟨t, ht, _, _⟩ := hm.there
  exact ⟨.ref a, upd H a (exo a C none), I.laidN hm.keeps hm.new hn (exo_ok ht), rfl, h a hn⟩
/-- isinstance(e, c), e an error held as a value -/
def rIsO (K : PySem.W.Frag) : List V → Hp → VK → Prop := fun xs H Q => ∃ (a D : Addr) (d : Option Addr) (c : V) (cv : Value) (b : Bool), xs = [.ref a, c] ∧ H a = some (exo a D d) ∧ (∀ dd, d = some dd → ∃ fs, H dd = some (exd dd fs)) ∧ ExcC K D ∧ (∀ u, RelV c u → u = cv) ∧ PySem.W.kitOne K (.ref D) cv = some b ∧ Q (.bl b) H
theorem call_isO : CallR X (.builtin "isinstance") (rIsO X.K) := by
  intro pins s σ H xs us Q I r h
  obtain ⟨a, D, d, c, cv, b, rfl, ha, hd, C, hcv, e, q⟩ := h
  cases r with
  | cons rx rr =>
    cases rr with
    | cons rt rr =>
      cases rr
      cases rx
      have ec := hcv _ rt
      subst ec
      obtain ⟨t1, ho⟩ := exo_at I.hok ha
      cases d with
      | none =>
        have J : PySem.W.InstAt s.heap a _ D none := ⟨ho, rfl, rfl, trivial⟩
        exact (PySem.W.kia_one (PySem.W.handS_kitx_exc C.hg C.hk C.hs C.hd C.ha C.hn C.ht C.hm) I.kIn J e (fun z => nomatch z) fun tk => ⟨.bl b, H, I.kept (t' := tk) fun _ _ z => z, rfl, q⟩)
      | some dd =>
        obtain ⟨fs, hx⟩ := hd dd rfl
        obtain ⟨mA, hns, _⟩ := exd_at I.hok hx
        obtain ⟨od, es, ep, ho2, _⟩ := hns
        have J : PySem.W.InstAt s.heap a _ D (some od) := ⟨ho, rfl, rfl, ho2⟩
        have hcl : (PySem.W.clsIn X.K D).isSome = true := by
          have z := C.hd
          unfold PySem.W.hasDictIn at z
          cases q : PySem.W.clsIn X.K D with
          | none => rw [q] at z; cases z
          | some cd => rfl
        exact (PySem.W.kia_one (PySem.W.kitx_exc hcl C.hg C.hk C.hs C.ha C.hn C.ht C.hm) I.kIn J e (fun z => nomatch z) fun tk => ⟨.bl b, H, I.kept (t' := tk) fun _ _ z => z, rfl, q⟩)
theorem call_isOK {K : PySem.W.Frag} (h : X.K = K) : CallR X (.builtin "isinstance") (rIsO K) := by subst h; exact call_isO
/-- e.f, e an error held as a value -/
def tOg (K : PySem.W.Frag) (f : Str) (te : TE) : TE := fun σ H Q => te σ H fun x H1 => ∃ (a C dd : Addr) (fs : List (Str × V)) (v : V), x = .ref a ∧ H1 a = some (exo a C (some dd)) ∧ H1 dd = some (exd dd fs) ∧ XfC K C ∧ PySem.W.findIn K (.ref C) f = some none ∧ fs.lookup f = some v ∧ Q v H1
theorem pe_og {e : Expr} {te : TE} {n : Str} (he : PE X e te) (hb : attributeBase e n X.env (eval e X.env) = eval e X.env := by rfl) : PE X (.Attribute e n pos) (tOg X.K n te) := by
  refine ⟨fun pins s σ H Q I h => ?_⟩
  refine attr_of hb (thn (he.run pins s σ H _ I h) fun u s1 ⟨x, H1, I1, rx, a, C, dd, fs, v, ex, ha, hx, T, hno, l, q⟩ => ?_)
  subst ex
  obtain rfl : u = Value.ref a := rx
  obtain ⟨t1, ho1⟩ := exo_at I1.hok ha
  obtain ⟨mA, hns, hr⟩ := exd_at I1.hok hx
  obtain ⟨od, ho, hl⟩ := lookIn_ns hns
  obtain ⟨u, hu, ru⟩ := RelO.some_of (v := v) (o := mA n) (by rw [← l]; exact hr n)
  have J : PySem.W.InstAt s1.heap a _ C (some od) := ⟨ho1, rfl, rfl, ho⟩
  exact (HandSPX.exc_get I1.kIn J T.ga T.gg T.exC (PySem.W.findObj_own T.hdC hno rfl (by rw [hl, hu])) (handed_of ru) ⟨v, H1, I1.tok _, ru, q⟩)
end
end J
namespace J
open PySem PySem.Spec PyProof.Rows L2
section
variable {K : PySem.W.Frag} {p : Option Addr} {g : Gh p} {n : Nat} {Γ : DEnv} {R : PyData → Nat → Prop}
theorem ee_mk1 {C : Addr} {nm : Str} {ta : TA} (h : Ea K g ta Γ n fun ds n1 => ∃ d, ds = [d] ∧ R (erD C nm d) n1) : Ee K g (tMk1 C nm ta) Γ n R := fun σ H e Q q => by
  refine h σ H e _ ?_
  rintro ds n1 vs H1 ⟨d, rfl, hR⟩ f1 g1 i1
  cases i1 with
  | @cons v _ _ _ iv it =>
    cases it
    refine ⟨v, rfl, fun a dx ha hdx hne => ?_⟩
    have sm : Same H1 (upd (upd (upd H1 a (exo a C none)) dx (exd dx [(nm, v)])) a (exo a C (some dx))) := fun b u hb => by
      have h1 : b ≠ a := ne_of_none hb ha
      have h2 : b ≠ dx := ne_of_none hb hdx
      rw [upd_ne h1, upd_ne h2, upd_ne h1]
      exact hb
    refine q _ n1 _ _ hR (f1.trans (.of sm)) (g.st _ _ _ g1 sm) (.erk (new_ne (fun b eb => g.tr n1 H1 b g1 eb) ha) (new_ne (fun b eb => g.tr n1 H1 b g1 eb) hdx) upd_same ?_ (iv.mono (.of sm)))
    rw [upd_ne hne, upd_same]
theorem ee_mk0 {C : Addr} (h : R (ebD C) n) : Ee K g (tMk0 C) Γ n R := fun σ H e Q q => fun a ha =>
  q _ n _ _ h (.of (new_same ha)) (g.st _ _ _ e.gh (new_same ha)) (.erb (new_ne (fun b eb => g.tr n H b e.gh eb) ha) upd_same)
/-- the error's data -/
inductive IsEr (D : Addr) : PyData → Prop
  | k (nm : Str) (d : PyData) : IsEr D (erD D nm d)
  | b : IsEr D (ebD D)
theorem Im.er_inv {H : Hp} {v : V} {x : PyData} {D : Addr} (h : Im K p H v x) (e : IsEr D x) : ∃ a o, v = .ref a ∧ H a = some (exo a D o) ∧ ∀ dd, o = some dd → ∃ fs, H dd = some (exd dd fs) := by
  cases e with
  | k nm d =>
    generalize hz : erD D nm d = z at h
    cases h with
    | erk n m ha hx i =>
      simp only [erD, PyData.dict.injEq, List.cons.injEq, Prod.mk.injEq, PyData.int.injEq, PyData.str.injEq, and_true, true_and] at hz
      obtain ⟨⟨hz, _⟩, _⟩ := hz
      have hz := Int.ofNat.inj hz
      subst hz
      exact ⟨_, _, rfl, ha, fun dd e => by cases e; exact ⟨_, hx⟩⟩
    | _ => simp [tyD, clD, wellD, empD, erD, ebD, x1D] at hz
  | b =>
    generalize hz : ebD D = z at h
    cases h with
    | erb n ha =>
      simp only [ebD, PyData.dict.injEq, List.cons.injEq, Prod.mk.injEq, PyData.int.injEq, and_true] at hz
      have hz := Int.ofNat.inj hz
      subst hz
      exact ⟨_, _, rfl, ha, fun dd e => by cases e⟩
    | _ => simp [tyD, clD, wellD, empD, erD, ebD, x1D] at hz
theorem cl_isO {D : Addr} {b : Bool} {t : TA} (hC : ExcC K D) {Ro : PyData → Nat → Prop}
    (h : Ea K g t Γ n fun ds n1 => (∃ x c cv, ds = [x, c] ∧ IsEr D x ∧ ((∃ A, c = clD A ∧ cv = .ref A) ∨ (∃ nm, c = tyD nm ∧ cv = .type nm)) ∧ PySem.W.kitOne K (.ref D) cv = some b) ∧ Ro (.bool b) n1) : Ee K g (tCB (rIsO K) t) Γ n Ro := fun σ H e Q q => by
  refine h σ H e _ ?_
  rintro ds n1 vs H1 ⟨⟨x, c, cv, rfl, hx, hc, hk⟩, hR⟩ f1 g1 i1
  cases i1 with
  | cons ia it =>
    cases it with
    | cons ic it =>
      cases it
      rename_i va vc
      obtain ⟨a, o, rfl, ha, hd⟩ := ia.er_inv hx
      refine ⟨a, D, o, vc, cv, b, rfl, ha, hd, hC, ?_, hk, q _ n1 _ H1 hR f1 g1 (.bl b)⟩
      rcases hc with ⟨A, rfl, rfl⟩ | ⟨nm, rfl, rfl⟩
      · have ev : vc = .ref A := by
          generalize hd : clD A = d at ic
          cases ic with
          | cl m =>
            simp only [clD, PyData.dict.injEq, List.cons.injEq, Prod.mk.injEq, PyData.int.injEq, and_true, true_and] at hd
            rw [Int.ofNat.inj hd]
          | _ => simp [tyD, clD, wellD, empD, erD, ebD, x1D] at hd
        subst ev
        exact fun u hu => hu
      · have ev : vc = .ty nm := by
          generalize hd : tyD nm = d at ic
          cases ic with
          | ty m => rw [tyD_inj hd]
          | _ => simp [tyD, clD, wellD, empD, erD, ebD, x1D] at hd
        subst ev
        exact fun u hu => hu
theorem ee_og {D : Addr} {nm : Str} {te : TE} (hX : XfC K D) (hno : PySem.W.findIn K (.ref D) nm = some none) (h : Ee K g te Γ n fun d n1 => ∃ x, d = erD D nm x ∧ R x n1) : Ee K g (tOg K nm te) Γ n R := fun σ H e Q q => by
  refine h σ H e _ ?_
  rintro d n1 v H1 ⟨x, rfl, hR⟩ f1 g1 i1
  generalize hz : erD D nm x = z at i1
  cases i1 with
  | erk na m ha hx i =>
    simp only [erD, PyData.dict.injEq, List.cons.injEq, Prod.mk.injEq, PyData.int.injEq, PyData.str.injEq, and_true, true_and] at hz
    obtain ⟨⟨h1, h2⟩, h3⟩ := hz
    have h1 := Int.ofNat.inj h1
    subst h1 h2 h3
    exact ⟨_, _, _, _, _, rfl, ha, hx, hX, hno, by simp [List.lookup], q _ n1 _ H1 hR f1 g1 i⟩
  | _ => simp [tyD, clD, wellD, empD, erD, ebD, x1D] at hz
/-- {'x': 1} -/
theorem ee_x1 (r : R x1D n) : Ee K g (tDisp [(tC (.str "x"), tC (.int 1))]) Γ n R := fun σ H e Q q => fun a ha => by
  refine ⟨upd_same, [(.inr "x", .int 1)], rfl, by decide, ?_⟩
  rw [upd_upd]
  exact q _ n _ _ r (.of (new_same ha)) (g.st _ _ _ e.gh (new_same ha)) (.x1 (new_ne (fun b eb => g.tr n H b e.gh eb) ha) upd_same)
end
end J
/-! Many error classes at once: what each is, and is not. -/
namespace J
open PySem PySem.Spec PyProof.Rows L2
/-- what all of this says -/
structure ErQ1 (K : PySem.W.Frag) (xs : List Str) (x : Str) : Prop where
  xf : XfC K (He.ga K x)
  kit : ∀ y ∈ xs, PySem.W.kitOne K (.ref (He.ga K x)) (.ref (He.ga K y)) = some (decide (x = y))
  top : PySem.W.kitOne K (.ref (He.ga K x)) (.ref (He.ga K sTop)) = some true
  ve : PySem.W.kitOne K (.ref (He.ga K x)) (.type "ValueError") = some true
  no : ∀ y ∈ nots, PySem.W.kitOne K (.ref (He.ga K x)) (.type y) = some false
  exc : ExcC K (He.ga K x)
theorem errsK_ok {K : PySem.W.Frag} {xs ws : List Str} (h : errsK K xs ws = true) : (∀ x ∈ sTop :: xs, ErQ1 K xs x) ∧ (∀ x ∈ xs, PySem.W.findIn K (.ref (He.ga K x)) sGiven = some none) ∧ (∀ x ∈ ws, PySem.W.findIn K (.ref (He.ga K x)) sIndex = some none) ∧
    PySem.W.excIn K (He.ga K sTop) [.type "ValueError", .type "Exception", .type "BaseException", .type "object"] "ValueError.__new__" = true ∧ PySem.W.keepIn K (.ref (He.ga K sTop)) = true := by
  unfold errsK at h
  simp only [Bool.and_eq_true] at h
  obtain ⟨h1, h2, h3, h4, h5⟩ := h
  refine ⟨fun x hx => ?_, fun x hx => of_decide_eq_true (List.all_eq_true.mp h2 x hx), fun x hx => of_decide_eq_true (List.all_eq_true.mp h3 x hx), h4, h5⟩
  have q := List.all_eq_true.mp h1 x hx
  unfold exB kitRow at q
  simp only [Bool.and_eq_true, decide_eq_true_eq] at q
  obtain ⟨⟨a, b, c, d, e⟩, f, g, i, j⟩ := q
  have T := xfB_ok a
  exact ⟨T, fun y hy => of_decide_eq_true (List.all_eq_true.mp f y hy), g, i, fun y hy => of_decide_eq_true (List.all_eq_true.mp j y hy), ⟨T.ga, T.gg, T.exC, T.hdC, b, c, d, e⟩⟩
/-- an error class that keeps what it is made with, under the name nm -/
structure ErN (P : Program) (w : World) (K : PySem.W.Frag) (mg : Str → Option Value) (base : Heap) (nm x : Str) (C fI : Addr) (fd : FuncData) : Prop where
  F : FnOk P w K mg base CX0 1 fI fd ["self", nm] (spN nm C)
  mg : mg x = some (.ref C)
  o : OexC K C
  iC : PySem.W.findIn K (.ref C) "__init__" = some (some (.ref fI))
  tI : PySem.W.typeIn K (.ref fI) = some (.type "function")
  b : Binds K fd ["self", nm] []
  kb : KBn K fd ["self", nm] 1 [nm] (kwV [0, 1]) (kwV [0, 1])
structure Er0 (P : Program) (w : World) (K : PySem.W.Frag) (mg : Str → Option Value) (base : Heap) (x : Str) (C fI : Addr) (fd : FuncData) : Prop where
  F : FnOk P w K mg base CX0 1 fI fd ["self"] (spInit0 C)
  mg : mg x = some (.ref C)
  o : OexC K C
  iC : PySem.W.findIn K (.ref C) "__init__" = some (some (.ref fI))
  tI : PySem.W.typeIn K (.ref fI) = some (.type "function")
  b : Binds K fd ["self"] []
section
variable {P : Program} {w : World} {K : PySem.W.Frag} {h : Heap} {mg : Str → Option Value} {base : Heap} {fl : Str} {d : ErD} {ar : Arg}
theorem er1_ok (X : K.In h) (G : h.Ns mainGlobals mg) (hb : erB fl K d.name = true) (hv : erW K d.name = d.val) (hfl : (P.main.file : Str) = fl) (ES : ErrS P d.scope) (hB : IniB d.body) (hp : (d.params.posonlyargs ++ d.params.args).head? = some ar) (har : ar.arg = "self")
    (gv : d.scope.names.lookup ("given" : Str) = some .local) (hg : mg "super" = none)
    (hbd : ∀ (kV doc pm : Value) (an : Option Addr) (cdv ct : Value) (cc : Addr) (us : List Value), us.length = 2 → bindArgs (PySem.W.ksFn "__init__" d.qual d.params d.body d.scope .none kV doc pm an cdv ct cc) ⟨us, []⟩ = pure ((["self", "given"] : List Str).zip us))
    (hbk : ∀ (kV doc pm : Value) (an : Option Addr) (cdv ct : Value) (cc : Addr) (us ws : List Value), us.length = 1 → ws.length = 1 → bindArgs (PySem.W.ksFn "__init__" d.qual d.params d.body d.scope .none kV doc pm an cdv ct cc) ⟨us, (["given"] : List Str).zip ws⟩ = pure ((["self", "given"] : List Str).zip (kwV [0, 1] us ws))) :
    ∃ fI fd, ErN P w K mg base sGiven d.name (He.ga K d.name) fI fd := by
  obtain ⟨f, kV, doc, pm, an, cda, ct, cc, EK, hmg, OX, hi, ht⟩ := er_K (w := w) X G hb hv hfl
  exact ⟨f, _, init_ok EK ES hB hp har gv hg, hmg, OX, hi, ht, .all fun us hl => hbd _ _ _ _ _ _ _ us hl, kbn_of fun us ws h1 h2 => hbk _ _ _ _ _ _ _ us ws h1 h2⟩
theorem er2_ok (X : K.In h) (G : h.Ns mainGlobals mg) (hb : erB fl K d.name = true) (hv : erW K d.name = d.val) (hfl : (P.main.file : Str) = fl) (ES : ErrS P d.scope) (hB : IniBI d.body) (hp : (d.params.posonlyargs ++ d.params.args).head? = some ar) (har : ar.arg = "self")
    (gv : d.scope.names.lookup ("index" : Str) = some .local) (hg : mg "super" = none) (hno : PySem.W.findIn K (.ref (He.ga K d.name)) sIndex = some none)
    (hbd : ∀ (kV doc pm : Value) (an : Option Addr) (cdv ct : Value) (cc : Addr) (us : List Value), us.length = 2 → bindArgs (PySem.W.ksFn "__init__" d.qual d.params d.body d.scope .none kV doc pm an cdv ct cc) ⟨us, []⟩ = pure ((["self", "index"] : List Str).zip us))
    (hbk : ∀ (kV doc pm : Value) (an : Option Addr) (cdv ct : Value) (cc : Addr) (us ws : List Value), us.length = 1 → ws.length = 1 → bindArgs (PySem.W.ksFn "__init__" d.qual d.params d.body d.scope .none kV doc pm an cdv ct cc) ⟨us, (["index"] : List Str).zip ws⟩ = pure ((["self", "index"] : List Str).zip (kwV [0, 1] us ws))) :
    ∃ fI fd, ErN P w K mg base sIndex d.name (He.ga K d.name) fI fd := by
  obtain ⟨f, kV, doc, pm, an, cda, ct, cc, EK, hmg, OX, hi, ht⟩ := er_K (w := w) X G hb hv hfl
  exact ⟨f, _, initI_ok EK hno ES hB hp har gv hg, hmg, OX, hi, ht, .all fun us hl => hbd _ _ _ _ _ _ _ us hl, kbn_of fun us ws h1 h2 => hbk _ _ _ _ _ _ _ us ws h1 h2⟩
theorem er3_ok (X : K.In h) (G : h.Ns mainGlobals mg) (hb : erB fl K d.name = true) (hv : erW K d.name = d.val) (hfl : (P.main.file : Str) = fl) (ES : ErrS P d.scope) (hB : IniB0 d.body) (hp : (d.params.posonlyargs ++ d.params.args).head? = some ar) (har : ar.arg = "self") (hg : mg "super" = none)
    (hbd : ∀ (kV doc pm : Value) (an : Option Addr) (cdv ct : Value) (cc : Addr) (us : List Value), us.length = 1 → bindArgs (PySem.W.ksFn "__init__" d.qual d.params d.body d.scope .none kV doc pm an cdv ct cc) ⟨us, []⟩ = pure ((["self"] : List Str).zip us)) :
    ∃ fI fd, Er0 P w K mg base d.name (He.ga K d.name) fI fd := by
  obtain ⟨f, kV, doc, pm, an, cda, ct, cc, EK, hmg, OX, hi, ht⟩ := er_K (w := w) X G hb hv hfl
  exact ⟨f, _, init0_ok EK ES hB hp har hg, hmg, OX, hi, ht, .all fun us hl => hbd _ _ _ _ _ _ _ us hl⟩
end
/-- all error classes -/
structure ErrsA (P : Program) (w : World) (K : PySem.W.Frag) (mg : Str → Option Value) (base : Heap) (xs ws ys : List Str) : Prop where
  e1 : ∀ x ∈ xs, ∃ fI fd, ErN P w K mg base sGiven x (He.ga K x) fI fd
  e2 : ∀ x ∈ ws, ∃ fI fd, ErN P w K mg base sIndex x (He.ga K x) fI fd
  e0 : ∀ x ∈ ys, ∃ fI fd, Er0 P w K mg base x (He.ga K x) fI fd
  top : mg "SteamError" = some (.ref (He.ga K "SteamError"))
  q : ∀ x ∈ sTop :: (xs ++ ws ++ ys), ErQ1 K (xs ++ ws ++ ys) x
  hg : ∀ x ∈ xs ++ ws ++ ys, PySem.W.findIn K (.ref (He.ga K x)) sGiven = some none
  hi : ∀ x ∈ ws, PySem.W.findIn K (.ref (He.ga K x)) sIndex = some none
  ex : PySem.W.excIn K (He.ga K sTop) [.type "ValueError", .type "Exception", .type "BaseException", .type "object"] "ValueError.__new__" = true
  kp : PySem.W.keepIn K (.ref (He.ga K sTop)) = true
theorem obK_errs {fl : Str} {ws : List Str} {es : List ErD} {K : PySem.W.Frag} (h : obK fl ws es K = (true, es.map ErD.val)) : (∀ d ∈ es, erB fl K d.name = true) ∧ errsK K (es.map (·.name)) ws = true ∧ (He.Fa.glo "SteamError").ok K = true ∧ sysB K = true ∧ es.map (fun d => erW K d.name) = es.map ErD.val := by
  have h1 := congrArg Prod.fst h
  have h2 := congrArg Prod.snd h
  obtain ⟨a, b⟩ := He.ba h1
  obtain ⟨c, d⟩ := He.ba b
  obtain ⟨e, f⟩ := He.ba d
  exact ⟨fun d hd => List.all_eq_true.mp a d hd, c, e, f, h2⟩
end J
/-! k01: things of any kind, written out. -/
namespace J
open PySem PySem.Spec PyProof.Rows L2
/-- repr of things: those of rReprD, words, {'x': 1} -/
def rReprE (K : PySem.W.Frag) : List V → Hp → VK → Prop := fun xs H Q => rReprD K xs H Q ∨ (∃ x : Str, xs = [.str x] ∧ (reprText x).length ≤ 100 ∧ Q (.str (reprText x)) H) ∨ ∃ (p : Option Addr) (x : V), xs = [x] ∧ Im K p H x x1D ∧ (∃ a, x = .ref a) ∧ Q (.str x1D.shown) H
section
variable {X : Cx} {pins : List (Addr × Obj)} {σ : L2.St} {H : Hp} {s : Shared} {p : Option Addr}
theorem x1_reads (I : L2.Inv X pins σ H s) {v : V} {u : Value} (h : Im X.K p H v x1D) (r : RelV v u) : ∃ as, Reads s.heap u x1D as ∧ ∀ a ∈ as, H a ≠ none := by
  generalize hz : x1D = z at h
  cases h with
  | x1 np hs =>
    cases r
    obtain ⟨_, _, vs, hkv, o, es, ep, ho, hx, hd, hk, hp, _⟩ := (show ObjOk X.prog X.w H s.heap _ (.dK [(.inr "x", .int 1)]) from I.hok _ _ hs)
    obtain ⟨k, v⟩ | _ := vs
    · cases hkv
    · cases hkv with
      | cons h1 h2 =>
        cases h2
        obtain ⟨e1, t1, e2⟩ := h1
        have hcl : o.cls = .type "dict" := hx.1
        obtain ⟨l⟩ := es
        cases hp with
        | cons q1 q2 q3 =>
          cases q3
          rename_i hd0 _ e0
          obtain ⟨k0, v0⟩ := hd0
          cases e1
          cases e2
          obtain ⟨t0, e3⟩ := Value.isStrOf_shape q1
          refine ⟨_, Reads.dict ho hcl hd (kvs := [(.str "x", .int 1)]) (as := [] ++ []) (bs := [] ++ []) ?_ ?_, fun a h => ?_⟩
          · show ReadsAll s.heap [e0.key] [.str "x"] _
            rw [e3]
            exact ReadsAll.cons (Reads.str _ _) ReadsAll.nil
          · show ReadsAll s.heap [e0.val] [.int 1] _
            rw [q2]
            exact ReadsAll.cons (Reads.int _ _) ReadsAll.nil
          · rcases List.mem_cons.mp h with e | h
            · rw [e, hs]; exact fun z => by cases z
            · cases h
  | _ => simp [x1D, tyD, clD, wellD, erD, ebD, empD] at hz
theorem cr_reprE {X : Cx} {K : PySem.W.Frag} (hs : sysB K = true) (h : X.K = K) (hg : X.A.guards = some []) (hu : X.A.units + 64 < cLine) : CallR X (.builtin "repr") (rReprE K) := by
  subst h
  intro pins s σ H xs us Q I r hq
  rcases hq with hq | ⟨x, rfl, hl, q⟩ | ⟨p, x, rfl, hd, ⟨a, rfl⟩, q⟩
  · exact cr_reprD hs rfl hg hu pins s σ H xs us Q I r hq
  · cases r with
    | cons rx rt =>
      cases rt
      obtain ⟨t, rfl⟩ := rx
      exact PySem.P.repr_of_str ⟨.str _, H, I.tok _, ⟨_, rfl⟩, q⟩ (Nat.le_trans hl (by decide))
  · cases r with
    | cons rx rt =>
      cases rt
      obtain ⟨as, hr, hn⟩ := x1_reads I hd rx
      cases rx
      have hsys : sysModules ∉ as := fun hm => by
        obtain ⟨o, ho⟩ := Option.isSome_iff_exists.mp hs
        exact hn _ hm (I.bs _ _ (I.ok.mod.kin _ _ ho)).2
      exact repr_of_reads' hr (by decide +kernel) (fun _ => hsys) hg (by have : x1D.depth = 1 := by decide +kernel
                                                                         omega) (fun _ _ e => e) (fun h' u tk hk => ⟨.str _, H, I.kept hk, ⟨_, rfl⟩, q⟩) (by decide +kernel)
end
/-- things that may be written out -/
def Thg (d : PyData) : Prop := (∃ i, d = .int i ∧ Bd 1900 i) ∨ (∃ b, d = .bool b) ∨ d = .none ∨ (∃ x : Str, d = .str x ∧ (reprText x).length ≤ 100) ∨ d = x1D ∨ (PyProof.Rows.isDisplay d = true ∧ Sv 3 d)
section
variable {K : PySem.W.Frag} {p : Option Addr} {R : PyData → Prop}
theorem cl_reprT {d : PyData} (h : Thg d) (r : R (.str d.shown)) : Cl K p (rReprE K) [d] R := fun H vs tr ia Q q => by
  rcases h with ⟨i, rfl, b⟩ | ⟨b, rfl⟩ | rfl | ⟨x, rfl, b⟩ | rfl | ⟨h1, h2⟩
  · exact .inl (.inl (cl_reprIC b r H vs tr ia Q q))
  · exact .inl (.inl (cl_reprBC r H vs tr ia Q q))
  · exact .inl (.inl (cl_reprNC r H vs tr ia Q q))
  · cases ia with
    | cons ix it =>
      cases it
      cases ix
      refine .inr (.inl ⟨x, rfl, b, q _ _ H ?_ (Same.refl H) (.str _)⟩)
      simpa only [PyData.shown] using r
  · cases ia with
    | cons ix it =>
      cases it
      refine .inr (.inr ⟨p, _, rfl, ix, ?_, q _ _ H r (Same.refl H) (.str _)⟩)
      generalize hz : x1D = z at ix
      cases ix with
      | x1 => exact ⟨_, rfl⟩
      | _ => simp [x1D, tyD, clD, wellD, erD, ebD, empD] at hz
  · exact .inl (cl_reprO h1 h2 r H vs tr ia Q q)
end
end J
namespace J
open PySem PySem.Spec PyProof.Rows L2
section
variable {X : Cx} {pos : Pos}
theorem pe_ogK {K : PySem.W.Frag} (h : X.K = K) {e : Expr} {te : TE} {n : Str} (he : PE X e te) (hb : attributeBase e n X.env (eval e X.env) = eval e X.env := by rfl) : PE X (.Attribute e n pos) (tOg K n te) := by subst h; exact pe_og he hb
end
section
variable {K : PySem.W.Frag} {p : Option Addr} {g : Gh p} {n : Nat} {Γ : DEnv} {R : List PyData → Nat → Prop}
theorem lcX_pick {i : Nat} {tt : TT} {te : TE} {m : Nat} {N : Nat} (b : Nat → Bool) (h1 : N ≤ 1000)
    (tst : ∀ j : Nat, j < N → Et K g tt (Γ.set i (some (.int (j : Int)))) m fun c n2 => c = b j ∧ n2 = m) (el : ∀ j : Nat, Ev K g te (Γ.set i (some (.int (j : Int)))) m fun d n3 => d = .int (j : Int) ∧ n3 = m)
    (r : R (((List.range N).filter b).map fun k : Nat => PyData.int (k : Int)) m) : ∃ I, LcX K g i tt te Γ m (rngD N) R I := by
  have hr : (rngD N).length = N := by unfold rngD; rw [List.length_map, List.length_range]
  refine ⟨fun j acc n' => acc = ((List.range j).filter b).map (fun k : Nat => PyData.int (k : Int)) ∧ n' = m, by rw [hr]; exact h1, ⟨rfl, rfl⟩, ?_, ?_⟩
  · rintro j d acc n' hx ⟨rfl, rfl⟩
    obtain ⟨hj, rfl⟩ := rng_get hx
    intro σ H e Q q
    refine tst j hj σ H e Q ?_
    rintro c n2 H' ⟨hb, rfl⟩ f1 g1
    refine q c _ H' ⟨fun z => ?_, fun z => ?_⟩ f1 g1
    · intro σ2 H2 e2 Q2 q2
      refine el j σ2 H2 e2 Q2 ?_
      rintro d n3 v H3 ⟨rfl, rfl⟩ a b' c'
      refine q2 _ _ v H3 ⟨?_, rfl⟩ a b' c'
      rw [List.range_succ, List.filter_append, List.map_append]
      simp [← hb, z]
    · refine ⟨?_, rfl⟩
      rw [List.range_succ, List.filter_append, List.map_append]
      simp [← hb, z]
  · rintro acc n' ⟨rfl, rfl⟩
    rw [hr]
    exact r
end
theorem op_neI1 {K : PySem.W.Frag} {p : Option Addr} {R : PyData → Prop} {a b : Int} (e : a = b) (r : R (.bool false)) : Op K p (rNeD K) (.list [.int a]) (.list [.int b]) R := by
  subst e
  refine op_neD rfl rfl rfl rfl ?_
  have e : PyData.eqv (.list [.int a]) (.list [.int a]) = true := by simp [PyData.eqv, PyData.eqvAll]
  rw [e]; exact r
theorem filt_no (s : Nat) : ∀ n, n ≤ s → (List.range n).filter (fun k => decide (k = s)) = []
  | 0, _ => rfl
  | n + 1, h => by
    rw [List.range_succ, List.filter_append, filt_no s n (by omega)]
    simp [show ¬ n = s by omega]
theorem filt_is (s : Nat) : ∀ n, s < n → (List.range n).filter (fun k => decide (k = s)) = [s]
  | 0, h => absurd h (Nat.not_lt_zero _)
  | n + 1, h => by
    rw [List.range_succ, List.filter_append]
    by_cases e : n = s
    · subst e
      rw [filt_no n n (Nat.le_refl _)]
      simp
    · rw [filt_is s n (by omega)]
      simp [e]
/-- in rows without twice the same, only one place holds x -/
theorem filt_one {l : List Str} (hn : l.Nodup) {s : Nat} {x : Str} (h : l[s]? = some x) {N : Nat} (hN : N = l.length) : (List.range N).filter (fun k => decide (l[k]? = some x)) = [s] := by
  subst hN
  have hs : s < l.length := (List.getElem?_eq_some_iff.mp h).1
  have e : ∀ k ∈ List.range l.length, decide (l[k]? = some x) = decide (k = s) := by
    intro k hk
    have hk' := List.mem_range.mp hk
    refine decide_eq_decide.mpr ⟨fun q => ?_, fun q => by rw [q]; exact h⟩
    have q1 := (List.getElem?_eq_some_iff.mp q).2
    have q2 := (List.getElem?_eq_some_iff.mp h).2
    exact (List.getElem_inj hn).mp (q1.trans q2.symm)
  rw [List.filter_congr e]
  exact filt_is s _ hs
/-! ### the promises -/
def F_given (K : PySem.W.Frag) (xs : List Str) (nm : Str) (ds : List PyData) (d : PyData) : Prop := ∃ x, ds = [x] ∧ d = .list (xs.map fun c => erD (He.ga K c) nm x)
def F_bare (K : PySem.W.Frag) (xs : List Str) (ds : List PyData) (d : PyData) : Prop := ds = [] ∧ d = .list (xs.map fun c => ebD (He.ga K c))
def F_marks (K : PySem.W.Frag) (xs : List Str) (ds : List PyData) (d : PyData) : Prop := ∃ x ∈ sTop :: xs, ∃ e, ds = [e] ∧ IsEr (He.ga K x) e ∧ d = .list (xs.map fun y => .bool (decide (x = y)))
def F_under (K : PySem.W.Frag) (xs : List Str) (ds : List PyData) (d : PyData) : Prop := ∃ x ∈ sTop :: xs, ∃ e, ds = [e] ∧ IsEr (He.ga K x) e ∧ d = .bool true
def F_stand (K : PySem.W.Frag) (xs : List Str) (ds : List PyData) (d : PyData) : Prop := ∃ (ys : List Str) (f : Str → PyData) (s : Nat), ds = [.list (ys.map f), .int (s : Int)] ∧ (∀ y ∈ ys, IsEr (He.ga K y) (f y)) ∧ (∀ i y, ys[i]? = some y → xs[s + i]? = some y) ∧ d = .bool true
def P_thing (_ : List PyData) (d : PyData) : Prop := Thg d
end J
namespace J
open PySem PySem.Spec PyProof.Rows L2
section
variable {K : PySem.W.Frag} {p : Option Addr} {g : Gh p} {n : Nat} {Γ : DEnv} {R : PyData → Nat → Prop} {xs : List Str} {x y : Str} {i : Nat} {e : PyData}
theorem is_cl {t : TA} (q : ErQ1 K xs x) (he : IsEr (He.ga K x) e) (y : Str) (hy : y ∈ xs) (h : Ea K g t Γ n fun ds n1 => ds = [e, clD (He.ga K y)] ∧ R (.bool (decide (x = y))) n1) : Ee K g (tCB (rIsO K) t) Γ n R :=
  cl_isO q.exc (ea_use h fun ds n1 ⟨e1, r⟩ => ⟨⟨_, _, _, e1, he, .inl ⟨_, rfl, rfl⟩, q.kit y hy⟩, r⟩)
theorem is_top {t : TA} (q : ErQ1 K xs x) (he : IsEr (He.ga K x) e) (h : Ea K g t Γ n fun ds n1 => ds = [e, clD (He.ga K sTop)] ∧ R (.bool true) n1) : Ee K g (tCB (rIsO K) t) Γ n R :=
  cl_isO q.exc (ea_use h fun ds n1 ⟨e1, r⟩ => ⟨⟨_, _, _, e1, he, .inl ⟨_, rfl, rfl⟩, q.top⟩, r⟩)
theorem is_ve {t : TA} (q : ErQ1 K xs x) (he : IsEr (He.ga K x) e) (h : Ea K g t Γ n fun ds n1 => ds = [e, tyD "ValueError"] ∧ R (.bool true) n1) : Ee K g (tCB (rIsO K) t) Γ n R :=
  cl_isO q.exc (ea_use h fun ds n1 ⟨e1, r⟩ => ⟨⟨_, _, _, e1, he, .inr ⟨_, rfl, rfl⟩, q.ve⟩, r⟩)
theorem is_no {t : TA} (q : ErQ1 K xs x) (he : IsEr (He.ga K x) e) (y : String) (hy : y ∈ nots) (h : Ea K g t Γ n fun ds n1 => ds = [e, tyD y] ∧ R (.bool false) n1) : Ee K g (tCB (rIsO K) t) Γ n R :=
  cl_isO q.exc (ea_use h fun ds n1 ⟨e1, r⟩ => ⟨⟨_, _, _, e1, he, .inr ⟨_, rfl, rfl⟩, q.no y hy⟩, r⟩)
theorem is_clV (q : ErQ1 K xs x) (he : IsEr (He.ga K x) e) (hy : y ∈ xs) (hv : Γ[i]? = some (some e)) (r : R (.bool (decide (x = y))) n) : Ee K g (tCB (rIsO K) (tCons (L2.tVar i) (tCons (tC (.ref (He.ga K y))) tNil))) Γ n R :=
  is_cl q he y hy (ea_cons (ee_var hv (ea_cons (ee_cl (ea_nil ⟨rfl, r⟩)))))
theorem is_topV (q : ErQ1 K xs x) (he : IsEr (He.ga K x) e) (hv : Γ[i]? = some (some e)) (r : R (.bool true) n) : Ee K g (tCB (rIsO K) (tCons (L2.tVar i) (tCons (tC (.ref (He.ga K ("SteamError" : Str)))) tNil))) Γ n R :=
  is_top q he (ea_cons (ee_var hv (ea_cons (ee_cl (ea_nil ⟨rfl, r⟩)))))
theorem is_veV (q : ErQ1 K xs x) (he : IsEr (He.ga K x) e) (hv : Γ[i]? = some (some e)) (r : R (.bool true) n) : Ee K g (tCB (rIsO K) (tCons (L2.tVar i) (tCons (tC (.ty "ValueError")) tNil))) Γ n R :=
  is_ve q he (ea_cons (ee_var hv (ea_cons (ee_ty (ea_nil ⟨rfl, r⟩)))))
theorem is_noV {y : String} (q : ErQ1 K xs x) (he : IsEr (He.ga K x) e) (hy : y ∈ nots) (hv : Γ[i]? = some (some e)) (r : R (.bool false) n) : Ee K g (tCB (rIsO K) (tCons (L2.tVar i) (tCons (tC (.ty y)) tNil))) Γ n R :=
  is_no q he y hy (ea_cons (ee_var hv (ea_cons (ee_ty (ea_nil ⟨rfl, r⟩)))))
end
end J
namespace J
open PySem PySem.Spec PyProof.Rows L2
section
variable {K : PySem.W.Frag} {p : Option Addr} {Ro : PyData → Prop}
theorem trus_inv {H : Hp} : ∀ {bs : List Bool} {xs : List V}, ImAll K p H xs (bs.map PyData.bool) → xs = bs.map V.bl
  | [], xs, h => by cases h; rfl
  | b :: bs, xs, h => by
    cases h with
    | cons a b => cases a; rw [trus_inv b]; rfl
theorem trus_flat : ∀ bs : List Bool, (bs.map V.bl).all flatV = true
  | [] => rfl
  | _ :: bs => trus_flat bs
theorem inV_trus (b : Bool) : ∀ bs : List Bool, inV (.bl b) (bs.map V.bl) = bs.contains b := by
  intro bs
  induction bs with
  | nil => rfl
  | cons a bs ih =>
    show (eqV (.bl a) (.bl b) || inV (.bl b) (bs.map V.bl)) = _
    rw [ih, List.contains_cons]
    cases a <;> cases b <;> rfl
theorem op_ninTr {b c : Bool} {bs : List Bool} (hb : bs.contains b = c) (r : Ro (.bool (!c))) : Op K p (rIn K true) (.bool b) (.list (bs.map PyData.bool)) Ro := fun H vx vy _ ix iy Q q => by
  cases ix
  cases iy with
  | lst n h a =>
    cases trus_inv a
    refine ⟨_, _, rfl, .inl (SqL.of h), rfl, trus_flat bs, ?_⟩
    show Q (.bl (!(inV (.bl b) (bs.map V.bl)))) H
    rw [inV_trus, hb]
    exact q _ _ H r (Same.refl H) (.bl _)
end
end J
namespace J
open PySem PySem.Spec PyProof.Rows L2
section
variable {X : Cx} {K : PySem.W.Frag}
theorem notInTr (h : X.K = K) : OpR X (compareOp .NotIn) (rIn K true) := by subst h; exact op_notIn_seq
end
end J
local macro_rules | `(tactic| walk_at "jv") => `(tactic| ((with_reducible show J.Ee _ _ (L2.tVar _) _ _ _); refine J.ee_var rfl ?_))
local macro_rules | `(tactic| walk_at "js") => `(tactic| first
  | walk_at "jv"
  | (with_reducible first
    | refine J.es_seq ?_ | refine J.es_asg ?_ | refine J.es_ret ?_ | refine J.es_if ?_ | refine J.es_drop ?_ | refine J.es_par ?_ | refine J.es_par3 ?_ | refine J.es_retN ?_ | refine J.es_next ?_
    | refine J.ee_op ?_ | refine J.ee_un ?_ | refine J.ee_cb ?_ | refine J.ee_tup ?_ | refine J.ee_lst ?_ | refine J.ee_if ?_ | refine J.ea_nil ?_ | refine J.ea_cons ?_
    | refine J.ee_int ?_ | refine J.ee_bl ?_ | refine J.ee_non ?_ | refine J.ee_str ?_ | refine J.ee_ty ?_
    | refine J.et_test ?_ | refine J.et_B ?_ | refine J.et_not ?_ | refine J.et_and ?_ | refine J.et_or ?_ | refine J.et_yes ?_
    | refine J.ee_andV ?_ | refine J.ee_orV ?_ | refine J.ee_notV ?_ | refine J.ee_chain ?_
    | refine J.op_i0 ?_ | refine J.op_b0 ?_ | refine J.op_ix0 ?_ | refine J.op_ix1 ?_ | refine J.op_ix2 ?_ | refine J.op_ix3 ?_ | refine J.op_isB ?_ | refine J.op_notB ?_
    | refine J.op_eqN ?_ | refine J.op_neN ?_ | refine J.op_eqS ?_ | refine J.op_neS ?_ | refine J.op_eq2 ?_ | refine J.op_ne2 ?_ | refine J.un_i ?_
    | refine J.cl_int ?_ | refine J.cl_abs ?_ | refine J.cl_gcd ?_ | refine J.cl_lenT ?_ | refine J.cl_lenL ?_ | refine J.cl_tupL ?_ | refine J.cl_lstT ?_ | refine J.cl_lstL ?_ | refine J.cl_max ?_ | refine J.cl_min ?_
    | refine J.egs_nil ?_ | refine J.egs_cons ?_ | refine J.ee_slT ?_ | refine J.eo_none ?_ | refine J.eo_some ?_
    | refine ⟨_, rfl, ?_⟩)
  | ((with_reducible refine J.eg_name ?_); (try dsimp only [List.set_cons_zero, List.set_cons_succ]))
  | ((with_reducible show J.Eg _ _ (L2.gTup _ _ _) _ _ _ _); refine J.eg_tup rfl ?_)
  | ((with_reducible show (List.length _ ≤ 1000) ∧ _); refine ⟨Nat.le_of_ble_eq_true rfl, ?_⟩)
  | ((with_reducible show (true = true → _) ∧ (true = false → _)); refine ⟨fun _ => ?_, fun h => Bool.noConfusion h⟩)
  | ((with_reducible show (false = true → _) ∧ (false = false → _)); refine ⟨fun h => Bool.noConfusion h, fun _ => ?_⟩)
  | ((with_reducible show ((!true) = true → _) ∧ ((!true) = false → _)); refine ⟨fun h => Bool.noConfusion h, fun _ => ?_⟩)
  | ((with_reducible show ((!false) = true → _) ∧ ((!false) = false → _)); refine ⟨fun _ => ?_, fun h => Bool.noConfusion h⟩)
  | ((with_reducible refine' J.op_mulB ?a ?b ?c ?_); (case a => repeat' walk_at "jb"); (case b => repeat' walk_at "jb"); (case c => decide)))
local macro_rules | `(tactic| walk_at "jb") => `(tactic| ((with_reducible show J.Bd _ _); first
  | assumption
  | (with_reducible first | refine' J.Bd.mul ?_ ?_ | refine' J.Bd.add ?_ ?_ | refine' J.Bd.sub ?_ ?_ | refine' J.Bd.neg ?_)
  | exact J.bd_lit 10 | exact J.bd_lit 40))
local macro_rules | `(tactic| walk_at "jw") => `(tactic| first
  | (with_reducible first | exact J.sw_bool | exact J.sw_none | exact J.swa_nil | refine J.swa_cons ?_ ?_)
  | ((with_reducible refine' J.sw_lst ?_ ?z); (case z => exact Nat.le_of_ble_eq_true rfl))
  | ((with_reducible refine' J.sw_tup ?_ ?z); (case z => exact Nat.le_of_ble_eq_true rfl))
  | ((with_reducible refine' J.sw_int (J.Bd.mono ?a ?b)); (case a => repeat' walk_at "jb"); (case b => decide)))
local macro_rules | `(tactic| walk_at "jr") => `(tactic| ((with_reducible refine J.cl_reprS ?_ ?_ ?_); rfl; (repeat' walk_at "jw")))
local macro_rules | `(tactic| walk_at "jr") => `(tactic| first
  | ((with_reducible refine J.cl_reprSA ?_ ?_ ?_); rfl; (repeat' walk_at "jw"))
  | ((with_reducible refine J.cl_reprIA ?c ?_); (case c => (refine' J.Bd.mono ?a ?b); (case a => repeat' walk_at "jb"); (case b => decide))))
local macro_rules | `(tactic| walk_at "jq") => `(tactic| ((fail_if_success (with_reducible show J.Ee _ _ (L2.tIf _ _ _) _ _ _)); walk_at "js"))
local macro_rules | `(tactic| walk_at "jB") => `(tactic| ((refine' J.Bd.mono ?a ?b); (case a => repeat' walk_at "jb"); (case b => decide)))
local macro_rules | `(tactic| walk_at "fs") => `(tactic| first
  | ((with_reducible show J.Fs _ _ (L2.tAsg (L2.tLst _) _) _ _ _ _); fail)
  | (with_reducible first
    | refine J.fs_seq ?_ | refine J.fs_ret ?_ | refine J.fs_if ?_ | refine J.fs_retN ?_ | refine J.fs_next ?_ | refine J.fgs_nil ?_)
  | ((fail_if_success (with_reducible show J.Fs _ _ (L2.tAsg (L2.tLst _) _) _ _ _ _)); (with_reducible refine J.fs_asg ?_))
  | ((with_reducible refine J.fg_name ?hi ?_); (case hi => decide); (try dsimp only [List.set_cons_zero, List.set_cons_succ]))
  | ((with_reducible refine J.fgs_cons ?hi ?_); (case hi => decide); (try dsimp only [List.set_cons_zero, List.set_cons_succ]))
  | ((with_reducible show J.Fg _ _ (L2.gTup _ _ _) _ _ _ _ _); refine J.fg_tup rfl ?_)
  | ((with_reducible refine J.fs_par ?hi ?hj ?_); (case hi => decide); (case hj => decide))
  | ((with_reducible refine J.fs_par3 ?hi ?hj ?hk ?_); (case hi => decide); (case hj => decide); (case hk => decide))
  | walk_at "js")
local macro_rules | `(tactic| walk_at "fl") => `(tactic| first
  | assumption | exact J.nl_none | exact J.nl_well | (refine J.nl_of ?_; first | assumption | rfl | exact J.nl_ang _ _ _ _ | (simp [J.noLst, J.noLstAll, J.angD])))
local macro_rules | `(tactic| walk_at "fp") => `(tactic| first
  | ((with_reducible show J.Ap _ _ (_ :: _)); refine ⟨by first | exact Or.inl (by decide) | exact Or.inr (by walk_at "fl"), ?_⟩)
  | exact True.intro)
local macro_rules | `(tactic| walk_at "jr") => `(tactic| first
  | ((with_reducible refine J.cl_reprSB ?_ ?_ ?_); rfl; (repeat' walk_at "jw"))
  | (with_reducible refine J.cl_reprBB ?_)
  | ((with_reducible refine J.cl_reprIB ?c ?_); (case c => (refine' J.Bd.mono ?a ?b); (case a => repeat' walk_at "jb"); (case b => decide))))
local macro_rules | `(tactic| walk_at "jr") => `(tactic| first
  | ((with_reducible refine J.cl_reprSC ?_ ?_ ?_); rfl; (repeat' walk_at "jw"))
  | (with_reducible refine J.cl_reprBC ?_)
  | (with_reducible refine J.cl_reprNC ?_)
  | ((with_reducible refine J.cl_reprIC ?c ?_); (case c => (refine' J.Bd.mono ?a ?b); (case a => repeat' walk_at "jb"); (case b => decide))))
namespace J
open PySem PySem.Spec PyProof.Rows L2
section
variable {P : Program} {w : World} {K : PySem.W.Frag} {mg : Str → Option Value} {base : Heap}
abbrev s__law_well : Stmt := top 48
theorem sc__law_well : FnScope ["_law_script", "_law_spot", "_law_mix", "_law_cell", "_law_own", "_law_rest"] ["_law_script", "_law_spot"] (defScope s__law_well) := ⟨rfl, rfl, rfl, by decide +kernel, rfl, by decide +kernel, by decide +kernel⟩
/-- the well for a spot: a new list, from which numbers are drawn -/
def spWell (K : PySem.W.Frag) : Sp := fun vs H Q _ => ∃ (a : Addr) (ns : List Int) (i : Int), vs = [.ref a, .int i] ∧ SqL K H a (ns.map V.int) ∧ ns.length ≤ 63 ∧ 0 ≤ i ∧ i < 100 ∧ ∀ q H', H q = none → Same H H' → WellAt H' q 0 → Q (.ref q) H'
theorem abs_nn (x : Int) : 0 ≤ (if x < 0 then -x else x) := by split <;> omega
theorem cut_ints {ns : List Int} {lo hi : Option Int} : ∀ x ∈ cutV (ns.map V.int) lo hi, ∃ z, x = V.int z := by
  intro x hx
  unfold cutV at hx
  obtain ⟨z, _, rfl⟩ := List.mem_map.mp (List.mem_of_mem_drop (List.mem_of_mem_take hx))
  exact ⟨z, rfl⟩
theorem ok__law_well {f__law_well  : Addr} {fd__law_well  : FuncData} (r : Raw K mg "_law_well" s__law_well f__law_well fd__law_well) (B : Blt mg)  : Cal P w K mg base "_law_well" s__law_well 1 f__law_well fd__law_well ["_law_script", "_law_spot"] (spWell K) := by
  refine ⟨?_, r.mg, r.fn.kp, r.fn.binds (fun _ _ _ _ _ _ us hl => match us, hl with | [_, _], _ => rfl), r.fn⟩
  refine r.fn.ok sc__law_well (fun vs H Q E h => by obtain ⟨a, ns, i, rfl, _⟩ := h; rfl) (fun cdv A outer s H vs Q E hr h => ?_)
  refine ⟨_, (pss_cons (ps_set (i := 2) sc__law_well.nd rfl (by first | exact Or.inl rfl | exact Or.inr rfl) (pe_op L2.op_add pe_int (pe_op op_mulW pe_int (pv 1))))
      (pss_cons (ps_for PassesOwn.never rfl (piL (K := K) rfl (pe_slice (slLK (K := K) rfl) (pv 0) po_none (po_some pe_int))) (pg_name (i := 3) sc__law_well.nd rfl (by first | exact Or.inl rfl | exact Or.inr rfl)) (pss_one (ps_set (i := 2) sc__law_well.nd rfl (by first | exact Or.inl rfl | exact Or.inr rfl) (pe_op op_mod (pe_callTy cr_int (by rfl) B.bInt (by decide +kernel) (pa_cons (pe_op L2.op_add (pe_op L2.op_add (pe_op op_mulW (pv 2) pe_int) (pe_op op_mod (pe_callTy cr_int (by rfl) B.bInt (by decide +kernel) (pa_cons (pv 3) pa_nil)) pe_int)) pe_int) pa_nil)) pe_int))))
      (pss_cons (ps_set (i := 4) sc__law_well.nd rfl (by first | exact Or.inl rfl | exact Or.inr rfl) (pe_ifExp (pt_cmpR L2.op_lt (pv 1) (pe_callB (cr_len (K := K) rfl) (by rfl) B.bLen PySem.boot_len (pa_cons (pv 0) pa_nil)) (nomark _)) (pe_callTy cr_int (by rfl) B.bInt (by decide +kernel) (pa_cons (pe_ix (ixK (K := K) rfl) (pv 0) (pv 1) (fun _ _ => rfl)) pa_nil)) (pv 2)))
      (pss_cons (ps_set (i := 5) sc__law_well.nd rfl (by first | exact Or.inl rfl | exact Or.inr rfl) (pe_ifExp (PW.pt (pw_or (pt_cmpR L2.op_lt (pv 4) pe_int (nomark _)) (pw_or1 (pt_cmpR L2.op_ge (pv 4) (pe_op op_pow pe_int pe_int) (nomark _))))) (pe_callB cr_abs (by rfl) B.bAbs (by decide +kernel) (pa_cons (pv 4) pa_nil)) pe_int))
      (pss_one (ps_ret (pe_lst (pa_cons (pv 5) (pa_cons (pe_op op_mod (pe_callTy cr_int (by rfl) B.bInt (by decide +kernel) (pa_cons (pe_op L2.op_add (pe_op L2.op_add (pe_op op_mulW (pv 2) pe_int) (pe_op op_mulW (pe_op op_mod (pe_callTy cr_int (by rfl) B.bInt (by decide +kernel) (pa_cons (pv 4) pa_nil)) pe_int) pe_int)) pe_int) pa_nil)) pe_int) (pa_cons pe_int pa_nil)))))))))), ?_⟩

  obtain ⟨a, ns, i, rfl, hS, hlen, h0, h1, k⟩ := h
  have bi : Bd 40 i := bd_of_lt 40 h0 (by omega)
  refine ⟨.int i, rfl, 3001, i, rfl, rfl, bd_mul (bd_of_lt (x := 3001) 40 (by decide) (by decide)) bi, 70001, _, rfl, rfl, ?_⟩
  refine ⟨.ref a, rfl, 63, rfl, a, _, rfl, hS, fun q hq => ?_⟩
  have hcs := cut_ints (ns := ns) (lo := none) (hi := some 63)
  generalize cutV (ns.map V.int) none (some 63) = cs at hcs ⊢
  refine ⟨q, rfl, ⟨_, SqL.of upd_same⟩, for_list (K := K) (a := q) (xs := cs) (fun j σ H2 => ∃ (mx : Int) (c : Option V), σ = [some (.ref a), some (.int i), some (.int mx), c, none, none] ∧ Same H H2 ∧ H2 q = some (.lst cs) ∧ 0 ≤ mx ∧ mx < 2147483587)
    ⟨70001 + 3001 * i, none, rfl, new_same hq, upd_same, by omega, by omega⟩ (fun j σ H2 _ ⟨_, _, _, _, e, _⟩ => SqL.of e) ?_ ?_⟩
  · rintro j y σ H2 hj ⟨mx, c, rfl, s2, e2, m0, m1⟩
    obtain ⟨z, rfl⟩ := hcs y (List.mem_of_getElem? hj)
    have bm : Bd 40 mx := bd_of_lt 40 m0 (by omega)
    refine ⟨.int mx, rfl, mx, 52021, rfl, rfl, bd_mul bm (bd_of_lt (x := 52021) 40 (by decide) (by decide)), .int z, rfl, .inl ⟨z, rfl, z, 2147483587, rfl, rfl, (by show (0 : Int) < 2147483587; decide), _, _, rfl, rfl, _, 101, rfl, rfl, .inl ⟨_, rfl, _, 2147483587, rfl, rfl, (by show (0 : Int) < 2147483587; decide), ?_⟩⟩⟩
    exact ⟨_, _, rfl, s2, e2, Int.emod_nonneg _ (by decide), Int.emod_lt_of_pos _ (by decide)⟩
  · rintro σ H2 ⟨mx, c, rfl, s2, e2, m0, m1⟩
    have bm : Bd 40 mx := bd_of_lt 40 m0 (by omega)
    refine ⟨.int i, rfl, .ref a, rfl, a, _, rfl, .inl (s2.seq hS), i, _, rfl, rfl, _, rfl, ?_⟩
    refine ite2 (fun hlt => ?_) (fun hge => ?_)
    · have hlt' : i < (ns.length : Int) := by have := of_decide_eq_true hlt; rw [List.length_map] at this; exact this
      have hat : atI (ns.map V.int) i = some (.int (ns.getD i.toNat 0)) := by
        have e : i = ((i.toNat : Nat) : Int) := (Int.toNat_of_nonneg h0).symm
        have hl : i.toNat < ns.length := by omega
        conv => lhs; rw [e]
        refine atI_nat ?_
        rw [List.getElem?_map, List.getD_eq_getElem?_getD, List.getElem?_eq_getElem hl]
        rfl
      refine ⟨.ref a, rfl, .int i, rfl, .inl ⟨a, _, i, _, rfl, rfl, s2.seq hS, hat, .inl ⟨_, rfl, ?_⟩⟩⟩
      refine ⟨_, rfl, _, 0, rfl, rfl, _, rfl, ?_⟩
      refine ite2 (fun hn => ?_) (fun hn => ?_)
      · refine iteT ?_
        refine ⟨_, rfl, _, rfl, ?_⟩
        refine ⟨_, rfl, .int mx, rfl, mx, 30323, rfl, rfl, bd_mul bm (bd_of_lt (x := 30323) 40 (by decide) (by decide)), _, rfl, .inl ⟨_, rfl, _, 2147483587, rfl, rfl, (by show (0 : Int) < 2147483587; decide), _, 9001, rfl, rfl, bd_mul (bd_of_lt 40 (Int.emod_nonneg _ (by decide)) (Int.lt_trans (Int.emod_lt_of_pos _ (by decide)) (by decide))) (bd_of_lt (x := 9001) 40 (by decide) (by decide)), _, _, rfl, rfl, _, 5, rfl, rfl, .inl ⟨_, rfl, _, 2147483587, rfl, rfl, (by show (0 : Int) < 2147483587; decide), (by show 3 ≤ sizeLine; decide), fun p hp => ?_⟩⟩⟩
        exact k p _ (s2.free hp) (s2.trans (new_same hp)) ⟨_, _, 0, upd_same, abs_nn _, Int.emod_nonneg _ (by decide), Int.emod_lt_of_pos _ (by decide), by decide, by decide⟩
      · refine ⟨_, rfl, 10, 18, rfl, rfl, ⟨by decide, by decide, by decide⟩, _, _, rfl, rfl, _, rfl, ?_⟩
        refine ite2 (fun hn2 => ?_) (fun hn2 => ?_)
        · refine ⟨_, rfl, _, rfl, ?_⟩
          refine ⟨_, rfl, .int mx, rfl, mx, 30323, rfl, rfl, bd_mul bm (bd_of_lt (x := 30323) 40 (by decide) (by decide)), _, rfl, .inl ⟨_, rfl, _, 2147483587, rfl, rfl, (by show (0 : Int) < 2147483587; decide), _, 9001, rfl, rfl, bd_mul (bd_of_lt 40 (Int.emod_nonneg _ (by decide)) (Int.lt_trans (Int.emod_lt_of_pos _ (by decide)) (by decide))) (bd_of_lt (x := 9001) 40 (by decide) (by decide)), _, _, rfl, rfl, _, 5, rfl, rfl, .inl ⟨_, rfl, _, 2147483587, rfl, rfl, (by show (0 : Int) < 2147483587; decide), (by show 3 ≤ sizeLine; decide), fun p hp => ?_⟩⟩⟩
          exact k p _ (s2.free hp) (s2.trans (new_same hp)) ⟨_, _, 0, upd_same, abs_nn _, Int.emod_nonneg _ (by decide), Int.emod_lt_of_pos _ (by decide), by decide, by decide⟩
        · refine ⟨_, rfl, .int mx, rfl, mx, 30323, rfl, rfl, bd_mul bm (bd_of_lt (x := 30323) 40 (by decide) (by decide)), _, rfl, .inl ⟨_, rfl, _, 2147483587, rfl, rfl, (by show (0 : Int) < 2147483587; decide), _, 9001, rfl, rfl, bd_mul (bd_of_lt 40 (Int.emod_nonneg _ (by decide)) (Int.lt_trans (Int.emod_lt_of_pos _ (by decide)) (by decide))) (bd_of_lt (x := 9001) 40 (by decide) (by decide)), _, _, rfl, rfl, _, 5, rfl, rfl, .inl ⟨_, rfl, _, 2147483587, rfl, rfl, (by show (0 : Int) < 2147483587; decide), (by show 3 ≤ sizeLine; decide), fun p hp => ?_⟩⟩⟩
          exact k p _ (s2.free hp) (s2.trans (new_same hp)) ⟨_, _, 0, upd_same, by decide, Int.emod_nonneg _ (by decide), Int.emod_lt_of_pos _ (by decide), by decide, by decide⟩
    · refine ⟨_, rfl, ?_⟩
      refine ⟨_, rfl, _, 0, rfl, rfl, _, rfl, ?_⟩
      refine ite2 (fun hn => ?_) (fun hn => ?_)
      · refine iteT ?_
        refine ⟨_, rfl, _, rfl, ?_⟩
        refine ⟨_, rfl, .int mx, rfl, mx, 30323, rfl, rfl, bd_mul bm (bd_of_lt (x := 30323) 40 (by decide) (by decide)), _, rfl, .inl ⟨_, rfl, _, 2147483587, rfl, rfl, (by show (0 : Int) < 2147483587; decide), _, 9001, rfl, rfl, bd_mul (bd_of_lt 40 (Int.emod_nonneg _ (by decide)) (Int.lt_trans (Int.emod_lt_of_pos _ (by decide)) (by decide))) (bd_of_lt (x := 9001) 40 (by decide) (by decide)), _, _, rfl, rfl, _, 5, rfl, rfl, .inl ⟨_, rfl, _, 2147483587, rfl, rfl, (by show (0 : Int) < 2147483587; decide), (by show 3 ≤ sizeLine; decide), fun p hp => ?_⟩⟩⟩
        exact k p _ (s2.free hp) (s2.trans (new_same hp)) ⟨_, _, 0, upd_same, abs_nn _, Int.emod_nonneg _ (by decide), Int.emod_lt_of_pos _ (by decide), by decide, by decide⟩
      · refine ⟨_, rfl, 10, 18, rfl, rfl, ⟨by decide, by decide, by decide⟩, _, _, rfl, rfl, _, rfl, ?_⟩
        refine ite2 (fun hn2 => ?_) (fun hn2 => ?_)
        · refine ⟨_, rfl, _, rfl, ?_⟩
          refine ⟨_, rfl, .int mx, rfl, mx, 30323, rfl, rfl, bd_mul bm (bd_of_lt (x := 30323) 40 (by decide) (by decide)), _, rfl, .inl ⟨_, rfl, _, 2147483587, rfl, rfl, (by show (0 : Int) < 2147483587; decide), _, 9001, rfl, rfl, bd_mul (bd_of_lt 40 (Int.emod_nonneg _ (by decide)) (Int.lt_trans (Int.emod_lt_of_pos _ (by decide)) (by decide))) (bd_of_lt (x := 9001) 40 (by decide) (by decide)), _, _, rfl, rfl, _, 5, rfl, rfl, .inl ⟨_, rfl, _, 2147483587, rfl, rfl, (by show (0 : Int) < 2147483587; decide), (by show 3 ≤ sizeLine; decide), fun p hp => ?_⟩⟩⟩
          exact k p _ (s2.free hp) (s2.trans (new_same hp)) ⟨_, _, 0, upd_same, abs_nn _, Int.emod_nonneg _ (by decide), Int.emod_lt_of_pos _ (by decide), by decide, by decide⟩
        · refine ⟨_, rfl, .int mx, rfl, mx, 30323, rfl, rfl, bd_mul bm (bd_of_lt (x := 30323) 40 (by decide) (by decide)), _, rfl, .inl ⟨_, rfl, _, 2147483587, rfl, rfl, (by show (0 : Int) < 2147483587; decide), _, 9001, rfl, rfl, bd_mul (bd_of_lt 40 (Int.emod_nonneg _ (by decide)) (Int.lt_trans (Int.emod_lt_of_pos _ (by decide)) (by decide))) (bd_of_lt (x := 9001) 40 (by decide) (by decide)), _, _, rfl, rfl, _, 5, rfl, rfl, .inl ⟨_, rfl, _, 2147483587, rfl, rfl, (by show (0 : Int) < 2147483587; decide), (by show 3 ≤ sizeLine; decide), fun p hp => ?_⟩⟩⟩
          exact k p _ (s2.free hp) (s2.trans (new_same hp)) ⟨_, _, 0, upd_same, by decide, Int.emod_nonneg _ (by decide), Int.emod_lt_of_pos _ (by decide), by decide, by decide⟩
abbrev s__law_draw : Stmt := top 49
theorem sc__law_draw : FnScope ["_law_well_here", "_law_many", "_law_pace", "_law_digit"] ["_law_well_here", "_law_many"] (defScope s__law_draw) := ⟨rfl, rfl, rfl, by decide +kernel, rfl, by decide +kernel, by decide +kernel⟩
def dW (y z : Int) : Int := (y * (y % 8009 + 31013) + 60101 * (z + 1) + 23) % 2147483587
theorem well0 (x y z : Int) : atI [V.int x, V.int y, V.int z] 0 = some (.int x) := atI_nat (j := 0) rfl
theorem well1 (x y z : Int) : atI [V.int x, V.int y, V.int z] 1 = some (.int y) := atI_nat (j := 1) rfl
theorem well2 (x y z : Int) : atI [V.int x, V.int y, V.int z] 2 = some (.int z) := atI_nat (j := 2) rfl
theorem pylong_ok {x m : Int} (h : Bd 1000 m) : Builtin.divisionGoesByPylong x m = false :=
  PyProof.noPylong_of_log2 (Nat.lt_of_lt_of_le (PySem.Flt.log2_lt_of (k := 1000) (by decide) h) (by decide))
theorem ok__law_draw {f__law_draw  : Addr} {fd__law_draw  : FuncData} (r : Raw K mg "_law_draw" s__law_draw f__law_draw fd__law_draw) (B : Blt mg)  : Cal P w K mg base "_law_draw" s__law_draw 1 f__law_draw fd__law_draw ["_law_well_here", "_law_many"] (spW K 2 1 Pre_draw P_draw) := by
  refine ⟨?_, r.mg, r.fn.kp, r.fn.binds (fun _ _ _ _ _ _ us hl => match us, hl with | [_, _], _ => rfl), r.fn⟩
  refine r.fn.ok sc__law_draw (spW_len rfl) (fun cdv A outer s H vs Q E hr h => ?_)
  refine ⟨_, (pss_cons (ps_if (pt_cmpR L2.op_gt (pe_ix (ixK (K := K) rfl) (pv 0) pe_int (fun _ _ => rfl)) pe_int (nomark _)) (pss_cons (ps_asg (pe_callB call_divmodW (by rfl) B.bDivmod (by decide +kernel) (pa_cons (pe_ix (ixK (K := K) rfl) (pv 0) pe_int (fun _ _ => rfl)) (pa_cons (pv 1) pa_nil))) (pgTK (K := K) rfl (pg_tup (n := 2) rfl (pgs_cons (pg_sub (pv 0) pe_int set_list) (pgs_cons (pg_name (i := 3) sc__law_draw.nd rfl (by first | exact Or.inl rfl | exact Or.inr rfl)) pgs_nil)))))
      (pss_one (ps_ret (pv 3)))) pss_nil)
      (pss_cons (ps_asg (pe_op L2.op_add (pe_ix (ixK (K := K) rfl) (pv 0) pe_int (fun _ _ => rfl)) pe_int) (pg_sub (pv 0) pe_int set_list))
      (pss_cons (ps_set (i := 2) sc__law_draw.nd rfl (by first | exact Or.inl rfl | exact Or.inr rfl) (pe_op L2.op_add (pe_op op_mod (pe_callTy cr_int (by rfl) B.bInt (by decide +kernel) (pa_cons (pe_ix (ixK (K := K) rfl) (pv 0) pe_int (fun _ _ => rfl)) pa_nil)) pe_int) pe_int))
      (pss_cons (ps_asg (pe_op op_mod (pe_callTy cr_int (by rfl) B.bInt (by decide +kernel) (pa_cons (pe_op L2.op_add (pe_op L2.op_add (pe_op op_mulW (pe_ix (ixK (K := K) rfl) (pv 0) pe_int (fun _ _ => rfl)) (pv 2)) (pe_op op_mulW pe_int (pe_ix (ixK (K := K) rfl) (pv 0) pe_int (fun _ _ => rfl)))) pe_int) pa_nil)) pe_int) (pg_sub (pv 0) pe_int set_list))
      (pss_one (ps_ret (pe_op op_mod (pe_callTy cr_int (by rfl) B.bInt (by decide +kernel) (pa_cons (pe_op op_fdivW (pe_ix (ixK (K := K) rfl) (pv 0) pe_int (fun _ _ => rfl)) pe_int) pa_nil)) (pv 1)))))))), ?_⟩

  obtain ⟨a, n, ds, hc, ⟨x, y, z, ha, hx, hy, hy2, hz, hzn⟩, hl, ia, ⟨m, rfl, hm, hmb⟩, k⟩ := h
  obtain rfl : vs = [.ref a, .int m] := by
    cases ia with
    | cons i1 i2 =>
      cases i2 with
      | cons i2 i3 =>
        cases i3
        obtain ⟨a', e, rfl⟩ := i1.well_inv rfl
        cases e
        rw [i2.int_inv rfl]
  have fin : ∀ (i : Int) (H' : Hp) (x' y' z' : Int), 0 ≤ i → i < m → FrP (some a) H H' → H' a = some (.lst [.int x', .int y', .int z']) → 0 ≤ x' → 0 ≤ y' → y' < 2147483587 → 0 ≤ z' → z' ≤ (n + 1 : Nat) → Q (.int i) H' :=
    fun i H' x' y' z' h1 h2 f e g1 g2 g3 g4 g5 => k (.int i) _ H' ⟨m, i, rfl, rfl, h1, h2⟩ f ⟨x', y', z', e, g1, g2, g3, g4, g5⟩ (.int i)
  show _
  refine ⟨.ref a, rfl, .inl ⟨a, _, 0, .int x, rfl, rfl, SqL.of ha, well0 x y z, x, 0, rfl, rfl, _, rfl, ?_⟩⟩
  refine ite2 (fun hpos => ?_) (fun hneg => ?_)
  · refine ⟨.ref a, rfl, .inl ⟨a, _, 0, .int x, rfl, rfl, SqL.of ha, well0 x y z, .int m, rfl, x, m, rfl, ⟨hm, pylong_ok hmb⟩, fun q hq => ?_⟩⟩
    have hqa : a ≠ q := ne_of_none ha hq
    refine ⟨q, _, rfl, SqT.of upd_same, rfl, _, _, rfl, .ref a, rfl, a, _, 0, 0, rfl, rfl, (by rw [upd_ne hqa]; exact ha), rfl, _, _, rfl, rfl, _, rfl, ?_⟩
    refine fin (x % m) _ (x / m) y z (Int.emod_nonneg _ (by omega)) (Int.emod_lt_of_pos _ hm) ?_ upd_same (Int.ediv_nonneg hx (by omega)) hy hy2 hz (by omega)
    intro b o nb hb
    rw [upd_ne (fun e => nb (by rw [e])), upd_ne (ne_of_none hb hq)]
    exact hb
  · refine ⟨.ref a, rfl, .inl ⟨a, _, 2, .int z, rfl, rfl, SqL.of ha, well2 x y z, z, 1, rfl, rfl, .ref a, rfl, a, _, 2, 2, rfl, rfl, ha, rfl, ?_⟩⟩
    have h1 : (upd H a (.lst [.int x, .int y, .int (z + 1)])) a = some (.lst [.int x, .int y, .int (z + 1)]) := upd_same
    show tSeq _ _ _ _ (upd H a (.lst [.int x, .int y, .int (z + 1)]))
    refine ⟨.ref a, rfl, .inl ⟨a, _, 1, .int y, rfl, rfl, SqL.of h1, well1 x y (z + 1), .inl ⟨y, rfl, y, 8009, rfl, rfl, (by show (0 : Int) < 8009; decide), y % 8009, 31013, rfl, rfl, ?_⟩⟩⟩
    have hp0 : 0 ≤ y % 8009 := Int.emod_nonneg _ (by decide)
    have hp1 : y % 8009 < 8009 := Int.emod_lt_of_pos _ (by decide)
    have by' : Bd 40 y := bd_of_lt 40 hy (by omega)
    have bp : Bd 40 (y % 8009 + 31013) := bd_of_lt 40 (by omega) (by omega)
    have bz : Bd 40 (z + 1) := bd_of_lt 40 (by omega) (by omega)
    have b3 : Bd 40 60101 := bd_of_lt 40 (by decide) (by decide)
    refine ⟨.ref a, rfl, .inl ⟨a, _, 1, .int y, rfl, rfl, SqL.of h1, well1 x y (z + 1), _, rfl, y, _, rfl, rfl, bd_mul by' bp, .ref a, rfl, .inl ⟨a, _, 2, .int (z + 1), rfl, rfl, SqL.of h1, well2 x y (z + 1), 60101, z + 1, rfl, rfl, bd_mul b3 bz, _, _, rfl, rfl, _, 23, rfl, rfl, .inl ⟨_, rfl, _, 2147483587, rfl, rfl, (by show (0 : Int) < 2147483587; decide), ?_⟩⟩⟩⟩
    have q0 : 0 ≤ dW y z := Int.emod_nonneg _ (by decide)
    have q1 : dW y z < 2147483587 := Int.emod_lt_of_pos _ (by decide)
    refine ⟨.ref a, rfl, a, _, 1, 1, rfl, rfl, h1, rfl, ?_⟩
    have h2 : (upd (upd H a (.lst [.int x, .int y, .int (z + 1)])) a (.lst [.int x, .int (dW y z), .int (z + 1)])) a = some (.lst [.int x, .int (dW y z), .int (z + 1)]) := upd_same
    simp only [List.set_cons_succ, List.set_cons_zero]
    rw [show (y * (y % 8009 + 31013) + 60101 * (z + 1) + 23) % 2147483587 = dW y z from rfl]
    refine ⟨.ref a, rfl, .inl ⟨a, _, 1, .int (dW y z), rfl, rfl, SqL.of h2, well1 x (dW y z) (z + 1), dW y z, 59, rfl, rfl, bd_fdiv (k := 40) (by decide) (bd_of_lt 40 (by decide) (by decide)), .inl ⟨_, rfl, .int m, rfl, _, m, rfl, rfl, hm, ?_⟩⟩⟩
    refine fin _ _ x (dW y z) (z + 1) (Int.emod_nonneg _ (by omega)) (Int.emod_lt_of_pos _ hm) ?_ h2 hx q0 q1 (by omega) (by omega)
    intro b o nb hb
    have nba : b ≠ a := fun e => nb (by rw [e])
    rw [upd_ne nba, upd_ne nba]
    exact hb
abbrev s__law_pick : Stmt := top 50
theorem sc__law_pick : FnScope ["_law_well_here", "_law_some"] ["_law_well_here", "_law_some"] (defScope s__law_pick) := ⟨rfl, rfl, rfl, by decide +kernel, rfl, by decide +kernel, by decide +kernel⟩
theorem ok__law_pick {f__law_pick f__law_draw : Addr} {fd__law_pick fd__law_draw : FuncData} (r : Raw K mg "_law_pick" s__law_pick f__law_pick fd__law_pick) (B : Blt mg) (c__law_draw : Cal P w K mg base "_law_draw" s__law_draw 1 f__law_draw fd__law_draw ["_law_well_here", "_law_many"] (spW K 2 1 Pre_draw P_draw)) : Cal P w K mg base "_law_pick" s__law_pick 2 f__law_pick fd__law_pick ["_law_well_here", "_law_some"] (spW K 2 1 Pre_pick P_pick) := by
  refine ⟨?_, r.mg, r.fn.kp, r.fn.binds (fun _ _ _ _ _ _ us hl => match us, hl with | [_, _], _ => rfl), r.fn⟩
  refine r.fn.ok sc__law_pick (spW_len rfl) (fun cdv A outer s H vs Q E hr h => ?_)
  refine ⟨_, (pss_one (ps_ret (pe_ix (ixK (K := K) rfl) (pv 1) (pe_call c__law_draw.F (hr.mono (by decide)) (by rfl) c__law_draw.mg c__law_draw.kp c__law_draw.b .nil pass0 (pa_cons (pv 0) (pa_cons (pe_callB (cr_len (K := K) rfl) (by rfl) B.bLen PySem.boot_len (pa_cons (pv 1) pa_nil)) pa_nil))) (fun _ _ => rfl)))), ?_⟩
  refine run_W h fun a H0 n ds hc hl hF => ?_

  obtain ⟨es, rfl, hne, hle⟩ := hF
  simp only [startD, List.map_cons, List.map_nil, List.length_cons, List.length_nil, List.cons_append, List.nil_append, List.replicate_succ, List.replicate_zero, Nat.reduceAdd, Nat.reduceSub, Nat.zero_add]
  repeat walk_at "js"
  refine ee_callW ?_
  repeat walk_at "js"
  have hpos : 0 < es.length := List.length_pos_iff.mpr hne
  refine ⟨rfl, hc, ⟨_, rfl, by omega, bd_of_lt 1000 (by omega) (Int.lt_of_le_of_lt (show (es.length : Int) ≤ 1000 by omega) (by decide))⟩, ?_⟩
  rintro _ ⟨m, i, hm, rfl, h0, h1⟩
  have hm' : (es.length : Int) = m := by
    injection hm with hm _
    injection hm
  have hl' : i.toNat < es.length := by omega
  have hat : atI es i = some es[i.toNat] := by
    have e : i = ((i.toNat : Nat) : Int) := (Int.toNat_of_nonneg h0).symm
    conv => lhs; rw [e]
    exact atI_nat (List.getElem?_eq_getElem hl')
  refine op_ixT hat ?_
  exact ⟨⟨es, rfl, List.getElem_mem hl'⟩, Nat.le_refl _⟩
abbrev s__law_number : Stmt := top 51
theorem sc__law_number : FnScope ["_law_well_here", "_law_size"] ["_law_well_here"] (defScope s__law_number) := ⟨rfl, rfl, rfl, by decide +kernel, rfl, by decide +kernel, by decide +kernel⟩
theorem int_inj1 {a b : Int} (h : [PyData.int a] = [PyData.int b]) : a = b := by
  injection h with h _
  injection h
theorem tup_inj1 {a b : List PyData} (h : [PyData.tuple a] = [PyData.tuple b]) : a = b := by
  injection h with h _
  injection h
theorem ok__law_number {f__law_number f__law_pick f__law_draw : Addr} {fd__law_number fd__law_pick fd__law_draw : FuncData} (r : Raw K mg "_law_number" s__law_number f__law_number fd__law_number) (B : Blt mg) (c__law_pick : Cal P w K mg base "_law_pick" s__law_pick 2 f__law_pick fd__law_pick ["_law_well_here", "_law_some"] (spW K 2 1 Pre_pick P_pick)) (c__law_draw : Cal P w K mg base "_law_draw" s__law_draw 1 f__law_draw fd__law_draw ["_law_well_here", "_law_many"] (spW K 2 1 Pre_draw P_draw)) : Cal P w K mg base "_law_number" s__law_number 3 f__law_number fd__law_number ["_law_well_here"] (spW K 1 4 Pre_none P_number) := by
  refine ⟨?_, r.mg, r.fn.kp, r.fn.binds (fun _ _ _ _ _ _ us hl => match us, hl with | [_], _ => rfl), r.fn⟩
  refine r.fn.ok sc__law_number (spW_len rfl) (fun cdv A outer s H vs Q E hr h => ?_)
  refine ⟨_, (pss_cons (ps_set (i := 1) sc__law_number.nd rfl (by first | exact Or.inl rfl | exact Or.inr rfl) (pe_call c__law_pick.F (hr.mono (by decide)) (by rfl) c__law_pick.mg c__law_pick.kp c__law_pick.b .nil pass0 (pa_cons (pv 0) (pa_cons (pe_tup (pa_cons pe_int (pa_cons pe_int (pa_cons pe_int (pa_cons pe_int (pa_cons pe_int (pa_cons pe_int (pa_cons pe_int (pa_cons pe_int pa_nil))))))))) pa_nil))))
      (pss_cons (ps_if (pt_cmpR L2.op_gt (pv 1) pe_int (nomark _)) (pss_one (ps_ret (pe_op L2.op_sub (pe_call c__law_draw.F (hr.mono (by decide)) (by rfl) c__law_draw.mg c__law_draw.kp c__law_draw.b .nil pass0 (pa_cons (pv 0) (pa_cons (pe_op L2.op_add (pe_op op_mulW pe_int (pv 1)) pe_int) pa_nil))) (pv 1)))) pss_nil)
      (pss_one (ps_ret (pe_op op_mulW (pe_op L2.op_add (pe_op op_mulW (pe_call c__law_draw.F (hr.mono (by decide)) (by rfl) c__law_draw.mg c__law_draw.kp c__law_draw.b .nil pass0 (pa_cons (pv 0) (pa_cons pe_int pa_nil))) pe_int) (pe_call c__law_draw.F (hr.mono (by decide)) (by rfl) c__law_draw.mg c__law_draw.kp c__law_draw.b .nil pass0 (pa_cons (pv 0) (pa_cons pe_int pa_nil)))) (pe_op L2.op_sub pe_int (pe_op op_mulW pe_int (pe_call c__law_draw.F (hr.mono (by decide)) (by rfl) c__law_draw.mg c__law_draw.kp c__law_draw.b .nil pass0 (pa_cons (pv 0) (pa_cons pe_int pa_nil)))))))))), ?_⟩
  refine run_W h fun a H0 n ds hc hl hF => ?_

  obtain rfl := hF
  simp only [startD, List.map_cons, List.map_nil, List.length_cons, List.length_nil, List.cons_append, List.nil_append, List.replicate_succ, List.replicate_zero, Nat.reduceAdd, Nat.reduceSub, Nat.zero_add]
  repeat walk_at "js"
  refine ee_callW ?_
  repeat walk_at "js"
  refine ⟨rfl, by omega, ⟨_, rfl, by simp, Nat.le_of_ble_eq_true rfl⟩, ?_⟩
  rintro d ⟨es, he, hd⟩
  rw [← tup_inj1 he] at hd
  obtain ⟨sz, rfl, hs0, hs1⟩ : ∃ sz : Int, d = .int sz ∧ 0 ≤ sz ∧ sz ≤ 400 := by
    simp only [List.mem_cons, List.not_mem_nil, or_false] at hd
    rcases hd with rfl | rfl | rfl | rfl | rfl | rfl | rfl | rfl <;> exact ⟨_, rfl, by decide, by decide⟩
  have bs : Bd 10 sz := bd_of_lt 10 hs0 (by omega)
  repeat walk_at "js"
  refine ⟨fun hb => ?_, fun hb => ?_⟩
  · repeat walk_at "js"
    refine ee_callW ?_
    repeat walk_at "js"
    refine ⟨rfl, by omega, ⟨_, rfl, by omega, bd_of_lt 1000 (by omega) (Int.lt_of_le_of_lt (show 2 * sz + 1 ≤ 801 by omega) (by decide))⟩, ?_⟩
    rintro _ ⟨m, i, hm, rfl, h0, h1⟩
    have hm' := int_inj1 hm
    repeat walk_at "js"
    exact ⟨⟨_, rfl, by unfold Bd; omega⟩, by omega⟩
  · repeat walk_at "js"
    refine ee_callW ?_
    repeat walk_at "js"
    refine ⟨rfl, by omega, ⟨_, rfl, by decide, (bd_lit 40).mono (by decide)⟩, ?_⟩
    rintro _ ⟨m1, i, hm1, rfl, hi0, hi1⟩
    have hm1' := int_inj1 hm1
    have bi : Bd 20 i := bd_of_lt 20 hi0 (by omega)
    repeat walk_at "js"
    refine ee_callW ?_
    repeat walk_at "js"
    refine ⟨rfl, by omega, ⟨_, rfl, by decide, (bd_lit 40).mono (by decide)⟩, ?_⟩
    rintro _ ⟨m2, j, hm2, rfl, hj0, hj1⟩
    have hm2' := int_inj1 hm2
    have bj : Bd 20 j := bd_of_lt 20 hj0 (by omega)
    repeat walk_at "js"
    refine ee_callW ?_
    repeat walk_at "js"
    refine ⟨rfl, by omega, ⟨_, rfl, by decide, (bd_lit 40).mono (by decide)⟩, ?_⟩
    rintro _ ⟨m3, b, hm3, rfl, hb0, hb1⟩
    have hm3' := int_inj1 hm3
    have bb : Bd 2 b := bd_of_lt 2 hb0 (by omega)
    repeat walk_at "js"
    refine ⟨⟨_, rfl, ?_⟩, by omega⟩
    have hb01 : b = 0 ∨ b = 1 := by omega
    unfold Bd
    rcases hb01 with rfl | rfl <;> omega
abbrev s__law_with_given : Stmt := top 52
theorem sc__law_with_given : FnScope ["_law_thing_here", "_law_found"] ["_law_thing_here"] (defScope s__law_with_given) := ⟨rfl, rfl, rfl, by decide +kernel, rfl, by decide +kernel, by decide +kernel⟩
theorem ok__law_with_given {f__law_with_given  : Addr} {fd__law_with_given  : FuncData} (r : Raw K mg "_law_with_given" s__law_with_given f__law_with_given fd__law_with_given) (B : Blt mg) (hE : ErrsA P w K mg base hxn hwn hyn)  : Cal P w K mg base "_law_with_given" s__law_with_given 3 f__law_with_given fd__law_with_given ["_law_thing_here"] (spP K 1 (F_given K hxn sGiven)) := by
  obtain ⟨i_InvalidAngle, fd_InvalidAngle, e_InvalidAngle⟩ := hE.e1 "InvalidAngle" (.tail _ (.tail _ (.tail _ (.tail _ (.head _)))))
  obtain ⟨i_InvalidEnd, fd_InvalidEnd, e_InvalidEnd⟩ := hE.e1 "InvalidEnd" (.tail _ (.tail _ (.tail _ (.tail _ (.tail _ (.tail _ (.tail _ (.tail _ (.tail _ (.tail _ (.tail _ (.head _))))))))))))
  obtain ⟨i_InvalidEngine, fd_InvalidEngine, e_InvalidEngine⟩ := hE.e1 "InvalidEngine" (.tail _ (.tail _ (.tail _ (.tail _ (.tail _ (.tail _ (.tail _ (.tail _ (.tail _ (.tail _ (.tail _ (.tail _ (.tail _ (.tail _ (.tail _ (.tail _ (.tail _ (.tail _ (.tail _ (.tail _ (.tail _ (.head _))))))))))))))))))))))
  obtain ⟨i_InvalidForm, fd_InvalidForm, e_InvalidForm⟩ := hE.e1 "InvalidForm" (.head _)
  obtain ⟨i_InvalidGeared, fd_InvalidGeared, e_InvalidGeared⟩ := hE.e1 "InvalidGeared" (.tail _ (.tail _ (.tail _ (.tail _ (.tail _ (.tail _ (.tail _ (.tail _ (.tail _ (.tail _ (.tail _ (.tail _ (.tail _ (.tail _ (.tail _ (.tail _ (.tail _ (.tail _ (.tail _ (.tail _ (.tail _ (.tail _ (.tail _ (.head _))))))))))))))))))))))))
  obtain ⟨i_InvalidIndex, fd_InvalidIndex, e_InvalidIndex⟩ := hE.e1 "InvalidIndex" (.tail _ (.tail _ (.tail _ (.tail _ (.tail _ (.tail _ (.tail _ (.tail _ (.tail _ (.tail _ (.tail _ (.tail _ (.tail _ (.tail _ (.tail _ (.tail _ (.tail _ (.tail _ (.tail _ (.tail _ (.tail _ (.tail _ (.tail _ (.tail _ (.tail _ (.tail _ (.tail _ (.tail _ (.tail _ (.head _))))))))))))))))))))))))))))))
  obtain ⟨i_InvalidLaps, fd_InvalidLaps, e_InvalidLaps⟩ := hE.e1 "InvalidLaps" (.tail _ (.tail _ (.tail _ (.tail _ (.tail _ (.tail _ (.tail _ (.tail _ (.tail _ (.head _))))))))))
  obtain ⟨i_InvalidLink, fd_InvalidLink, e_InvalidLink⟩ := hE.e1 "InvalidLink" (.tail _ (.tail _ (.tail _ (.tail _ (.tail _ (.tail _ (.tail _ (.tail _ (.tail _ (.tail _ (.tail _ (.tail _ (.tail _ (.tail _ (.tail _ (.tail _ (.tail _ (.tail _ (.head _)))))))))))))))))))
  obtain ⟨i_InvalidLook, fd_InvalidLook, e_InvalidLook⟩ := hE.e1 "InvalidLook" (.tail _ (.tail _ (.tail _ (.tail _ (.tail _ (.tail _ (.tail _ (.tail _ (.tail _ (.tail _ (.tail _ (.tail _ (.tail _ (.tail _ (.tail _ (.tail _ (.tail _ (.tail _ (.tail _ (.tail _ (.tail _ (.tail _ (.tail _ (.tail _ (.tail _ (.head _))))))))))))))))))))))))))
  obtain ⟨i_InvalidLot, fd_InvalidLot, e_InvalidLot⟩ := hE.e1 "InvalidLot" (.tail _ (.tail _ (.tail _ (.tail _ (.tail _ (.tail _ (.tail _ (.tail _ (.tail _ (.tail _ (.tail _ (.tail _ (.tail _ (.tail _ (.tail _ (.tail _ (.tail _ (.tail _ (.tail _ (.tail _ (.head _)))))))))))))))))))))
  obtain ⟨i_InvalidName, fd_InvalidName, e_InvalidName⟩ := hE.e1 "InvalidName" (.tail _ (.tail _ (.tail _ (.tail _ (.tail _ (.tail _ (.tail _ (.tail _ (.tail _ (.tail _ (.tail _ (.tail _ (.tail _ (.tail _ (.tail _ (.tail _ (.tail _ (.tail _ (.tail _ (.tail _ (.tail _ (.tail _ (.tail _ (.tail _ (.tail _ (.tail _ (.tail _ (.head _))))))))))))))))))))))))))))
  obtain ⟨i_InvalidNotch, fd_InvalidNotch, e_InvalidNotch⟩ := hE.e1 "InvalidNotch" (.tail _ (.tail _ (.tail _ (.tail _ (.tail _ (.tail _ (.tail _ (.tail _ (.tail _ (.tail _ (.tail _ (.tail _ (.tail _ (.tail _ (.tail _ (.tail _ (.tail _ (.tail _ (.tail _ (.head _))))))))))))))))))))
  obtain ⟨i_InvalidNumber, fd_InvalidNumber, e_InvalidNumber⟩ := hE.e1 "InvalidNumber" (.tail _ (.tail _ (.head _)))
  obtain ⟨i_InvalidPhrase, fd_InvalidPhrase, e_InvalidPhrase⟩ := hE.e1 "InvalidPhrase" (.tail _ (.tail _ (.tail _ (.tail _ (.tail _ (.tail _ (.tail _ (.tail _ (.tail _ (.tail _ (.tail _ (.tail _ (.tail _ (.tail _ (.tail _ (.tail _ (.tail _ (.tail _ (.tail _ (.tail _ (.tail _ (.tail _ (.tail _ (.tail _ (.tail _ (.tail _ (.tail _ (.tail _ (.tail _ (.tail _ (.head _)))))))))))))))))))))))))))))))
  obtain ⟨i_InvalidPoint, fd_InvalidPoint, e_InvalidPoint⟩ := hE.e1 "InvalidPoint" (.tail _ (.tail _ (.tail _ (.tail _ (.tail _ (.tail _ (.tail _ (.tail _ (.tail _ (.tail _ (.tail _ (.tail _ (.tail _ (.tail _ (.tail _ (.tail _ (.tail _ (.head _))))))))))))))))))
  obtain ⟨i_InvalidPolynomial, fd_InvalidPolynomial, e_InvalidPolynomial⟩ := hE.e1 "InvalidPolynomial" (.tail _ (.tail _ (.tail _ (.tail _ (.tail _ (.tail _ (.tail _ (.tail _ (.tail _ (.tail _ (.tail _ (.tail _ (.tail _ (.tail _ (.tail _ (.tail _ (.head _)))))))))))))))))
  obtain ⟨i_InvalidPort, fd_InvalidPort, e_InvalidPort⟩ := hE.e1 "InvalidPort" (.tail _ (.tail _ (.tail _ (.tail _ (.tail _ (.tail _ (.tail _ (.tail _ (.tail _ (.tail _ (.head _)))))))))))
  obtain ⟨i_InvalidRatio, fd_InvalidRatio, e_InvalidRatio⟩ := hE.e1 "InvalidRatio" (.tail _ (.tail _ (.tail _ (.head _))))
  obtain ⟨i_InvalidRegion, fd_InvalidRegion, e_InvalidRegion⟩ := hE.e1 "InvalidRegion" (.tail _ (.tail _ (.tail _ (.tail _ (.tail _ (.tail _ (.tail _ (.head _))))))))
  obtain ⟨i_InvalidRod, fd_InvalidRod, e_InvalidRod⟩ := hE.e1 "InvalidRod" (.tail _ (.tail _ (.tail _ (.tail _ (.tail _ (.tail _ (.tail _ (.tail _ (.tail _ (.tail _ (.tail _ (.tail _ (.tail _ (.head _))))))))))))))
  obtain ⟨i_InvalidSense, fd_InvalidSense, e_InvalidSense⟩ := hE.e1 "InvalidSense" (.tail _ (.tail _ (.tail _ (.tail _ (.tail _ (.tail _ (.tail _ (.tail _ (.tail _ (.tail _ (.tail _ (.tail _ (.tail _ (.tail _ (.tail _ (.tail _ (.tail _ (.tail _ (.tail _ (.tail _ (.tail _ (.tail _ (.head _)))))))))))))))))))))))
  obtain ⟨i_InvalidShare, fd_InvalidShare, e_InvalidShare⟩ := hE.e1 "InvalidShare" (.tail _ (.tail _ (.tail _ (.tail _ (.tail _ (.tail _ (.tail _ (.tail _ (.tail _ (.tail _ (.tail _ (.tail _ (.tail _ (.tail _ (.head _)))))))))))))))
  obtain ⟨i_InvalidStroke, fd_InvalidStroke, e_InvalidStroke⟩ := hE.e1 "InvalidStroke" (.tail _ (.tail _ (.tail _ (.tail _ (.tail _ (.tail _ (.tail _ (.tail _ (.tail _ (.tail _ (.tail _ (.tail _ (.tail _ (.tail _ (.tail _ (.head _))))))))))))))))
  obtain ⟨i_InvalidThing, fd_InvalidThing, e_InvalidThing⟩ := hE.e1 "InvalidThing" (.tail _ (.tail _ (.tail _ (.tail _ (.tail _ (.tail _ (.tail _ (.tail _ (.tail _ (.tail _ (.tail _ (.tail _ (.tail _ (.tail _ (.tail _ (.tail _ (.tail _ (.tail _ (.tail _ (.tail _ (.tail _ (.tail _ (.tail _ (.tail _ (.tail _ (.tail _ (.head _)))))))))))))))))))))))))))
  obtain ⟨i_InvalidTurn, fd_InvalidTurn, e_InvalidTurn⟩ := hE.e1 "InvalidTurn" (.tail _ (.tail _ (.tail _ (.tail _ (.tail _ (.tail _ (.head _)))))))
  obtain ⟨i_InvalidValve, fd_InvalidValve, e_InvalidValve⟩ := hE.e1 "InvalidValve" (.tail _ (.tail _ (.tail _ (.tail _ (.tail _ (.tail _ (.tail _ (.tail _ (.head _)))))))))
  obtain ⟨i_InvalidVector, fd_InvalidVector, e_InvalidVector⟩ := hE.e1 "InvalidVector" (.tail _ (.head _))
  obtain ⟨i_InvalidWay, fd_InvalidWay, e_InvalidWay⟩ := hE.e1 "InvalidWay" (.tail _ (.tail _ (.tail _ (.tail _ (.tail _ (.head _))))))
  obtain ⟨i_InvalidWish, fd_InvalidWish, e_InvalidWish⟩ := hE.e1 "InvalidWish" (.tail _ (.tail _ (.tail _ (.tail _ (.tail _ (.tail _ (.tail _ (.tail _ (.tail _ (.tail _ (.tail _ (.tail _ (.tail _ (.tail _ (.tail _ (.tail _ (.tail _ (.tail _ (.tail _ (.tail _ (.tail _ (.tail _ (.tail _ (.tail _ (.tail _ (.tail _ (.tail _ (.tail _ (.head _)))))))))))))))))))))))))))))
  obtain ⟨i_InvalidWord, fd_InvalidWord, e_InvalidWord⟩ := hE.e1 "InvalidWord" (.tail _ (.tail _ (.tail _ (.tail _ (.tail _ (.tail _ (.tail _ (.tail _ (.tail _ (.tail _ (.tail _ (.tail _ (.head _)))))))))))))
  obtain ⟨i_InvalidWrong, fd_InvalidWrong, e_InvalidWrong⟩ := hE.e1 "InvalidWrong" (.tail _ (.tail _ (.tail _ (.tail _ (.tail _ (.tail _ (.tail _ (.tail _ (.tail _ (.tail _ (.tail _ (.tail _ (.tail _ (.tail _ (.tail _ (.tail _ (.tail _ (.tail _ (.tail _ (.tail _ (.tail _ (.tail _ (.tail _ (.tail _ (.head _)))))))))))))))))))))))))
  obtain ⟨i_NotAWorkshop, fd_NotAWorkshop, e_NotAWorkshop⟩ := hE.e1 "NotAWorkshop" (.tail _ (.tail _ (.tail _ (.tail _ (.tail _ (.tail _ (.tail _ (.tail _ (.tail _ (.tail _ (.tail _ (.tail _ (.tail _ (.tail _ (.tail _ (.tail _ (.tail _ (.tail _ (.tail _ (.tail _ (.tail _ (.tail _ (.tail _ (.tail _ (.tail _ (.tail _ (.tail _ (.tail _ (.tail _ (.tail _ (.tail _ (.tail _ (.tail _ (.tail _ (.head _)))))))))))))))))))))))))))))))))))
  obtain ⟨i_Same, fd_Same, e_Same⟩ := hE.e1 "Same" (.tail _ (.tail _ (.tail _ (.tail _ (.tail _ (.tail _ (.tail _ (.tail _ (.tail _ (.tail _ (.tail _ (.tail _ (.tail _ (.tail _ (.tail _ (.tail _ (.tail _ (.tail _ (.tail _ (.tail _ (.tail _ (.tail _ (.tail _ (.tail _ (.tail _ (.tail _ (.tail _ (.tail _ (.tail _ (.tail _ (.tail _ (.tail _ (.head _)))))))))))))))))))))))))))))))))
  obtain ⟨i_UnknownName, fd_UnknownName, e_UnknownName⟩ := hE.e1 "UnknownName" (.tail _ (.tail _ (.tail _ (.tail _ (.tail _ (.tail _ (.tail _ (.tail _ (.tail _ (.tail _ (.tail _ (.tail _ (.tail _ (.tail _ (.tail _ (.tail _ (.tail _ (.tail _ (.tail _ (.tail _ (.tail _ (.tail _ (.tail _ (.tail _ (.tail _ (.tail _ (.tail _ (.tail _ (.tail _ (.tail _ (.tail _ (.tail _ (.tail _ (.head _))))))))))))))))))))))))))))))))))
  obtain ⟨i_Unlike, fd_Unlike, e_Unlike⟩ := hE.e1 "Unlike" (.tail _ (.tail _ (.tail _ (.tail _ (.tail _ (.tail _ (.tail _ (.tail _ (.tail _ (.tail _ (.tail _ (.tail _ (.tail _ (.tail _ (.tail _ (.tail _ (.tail _ (.tail _ (.tail _ (.tail _ (.tail _ (.tail _ (.tail _ (.tail _ (.tail _ (.tail _ (.tail _ (.tail _ (.tail _ (.tail _ (.tail _ (.head _))))))))))))))))))))))))))))))))
  refine ⟨?_, r.mg, r.fn.kp, r.fn.binds (fun _ _ _ _ _ _ us hl => match us, hl with | [_], _ => rfl), r.fn⟩
  refine r.fn.ok sc__law_with_given (spP_len rfl) (fun cdv A outer s H vs Q E hr h => ?_)
  refine ⟨_, (pss_cons (ps_set (i := 1) sc__law_with_given.nd rfl (by first | exact Or.inl rfl | exact Or.inr rfl) (pe_lst pa_nil))
      (pss_cons (ps_set (i := 1) sc__law_with_given.nd rfl (by first | exact Or.inl rfl | exact Or.inr rfl) (pe_op L2.op_cat (pv 1) (pe_lst (pa_cons (pe_mk1 e_InvalidForm.o e_InvalidForm.iC e_InvalidForm.tI e_InvalidForm.F (hr.mono (by decide)) e_InvalidForm.b pass0 (by rfl) e_InvalidForm.mg (pa_cons (pv 0) pa_nil)) (pa_cons (pe_mk1 e_InvalidVector.o e_InvalidVector.iC e_InvalidVector.tI e_InvalidVector.F (hr.mono (by decide)) e_InvalidVector.b pass0 (by rfl) e_InvalidVector.mg (pa_cons (pv 0) pa_nil)) (pa_cons (pe_mk1 e_InvalidNumber.o e_InvalidNumber.iC e_InvalidNumber.tI e_InvalidNumber.F (hr.mono (by decide)) e_InvalidNumber.b pass0 (by rfl) e_InvalidNumber.mg (pa_cons (pv 0) pa_nil)) (pa_cons (pe_mk1 e_InvalidRatio.o e_InvalidRatio.iC e_InvalidRatio.tI e_InvalidRatio.F (hr.mono (by decide)) e_InvalidRatio.b pass0 (by rfl) e_InvalidRatio.mg (pa_cons (pv 0) pa_nil)) pa_nil)))))))
      (pss_cons (ps_set (i := 1) sc__law_with_given.nd rfl (by first | exact Or.inl rfl | exact Or.inr rfl) (pe_op L2.op_cat (pv 1) (pe_lst (pa_cons (pe_mk1 e_InvalidAngle.o e_InvalidAngle.iC e_InvalidAngle.tI e_InvalidAngle.F (hr.mono (by decide)) e_InvalidAngle.b pass0 (by rfl) e_InvalidAngle.mg (pa_cons (pv 0) pa_nil)) (pa_cons (pe_mk1 e_InvalidWay.o e_InvalidWay.iC e_InvalidWay.tI e_InvalidWay.F (hr.mono (by decide)) e_InvalidWay.b pass0 (by rfl) e_InvalidWay.mg (pa_cons (pv 0) pa_nil)) (pa_cons (pe_mk1 e_InvalidTurn.o e_InvalidTurn.iC e_InvalidTurn.tI e_InvalidTurn.F (hr.mono (by decide)) e_InvalidTurn.b pass0 (by rfl) e_InvalidTurn.mg (pa_cons (pv 0) pa_nil)) (pa_cons (pe_mk1 e_InvalidRegion.o e_InvalidRegion.iC e_InvalidRegion.tI e_InvalidRegion.F (hr.mono (by decide)) e_InvalidRegion.b pass0 (by rfl) e_InvalidRegion.mg (pa_cons (pv 0) pa_nil)) pa_nil)))))))
      (pss_cons (ps_set (i := 1) sc__law_with_given.nd rfl (by first | exact Or.inl rfl | exact Or.inr rfl) (pe_op L2.op_cat (pv 1) (pe_lst (pa_cons (pe_mk1 e_InvalidValve.o e_InvalidValve.iC e_InvalidValve.tI e_InvalidValve.F (hr.mono (by decide)) e_InvalidValve.b pass0 (by rfl) e_InvalidValve.mg (pa_cons (pv 0) pa_nil)) (pa_cons (pe_mk1 e_InvalidLaps.o e_InvalidLaps.iC e_InvalidLaps.tI e_InvalidLaps.F (hr.mono (by decide)) e_InvalidLaps.b pass0 (by rfl) e_InvalidLaps.mg (pa_cons (pv 0) pa_nil)) (pa_cons (pe_mk1 e_InvalidPort.o e_InvalidPort.iC e_InvalidPort.tI e_InvalidPort.F (hr.mono (by decide)) e_InvalidPort.b pass0 (by rfl) e_InvalidPort.mg (pa_cons (pv 0) pa_nil)) (pa_cons (pe_mk1 e_InvalidEnd.o e_InvalidEnd.iC e_InvalidEnd.tI e_InvalidEnd.F (hr.mono (by decide)) e_InvalidEnd.b pass0 (by rfl) e_InvalidEnd.mg (pa_cons (pv 0) pa_nil)) pa_nil)))))))
      (pss_cons (ps_set (i := 1) sc__law_with_given.nd rfl (by first | exact Or.inl rfl | exact Or.inr rfl) (pe_op L2.op_cat (pv 1) (pe_lst (pa_cons (pe_mk1 e_InvalidWord.o e_InvalidWord.iC e_InvalidWord.tI e_InvalidWord.F (hr.mono (by decide)) e_InvalidWord.b pass0 (by rfl) e_InvalidWord.mg (pa_cons (pv 0) pa_nil)) (pa_cons (pe_mk1 e_InvalidRod.o e_InvalidRod.iC e_InvalidRod.tI e_InvalidRod.F (hr.mono (by decide)) e_InvalidRod.b pass0 (by rfl) e_InvalidRod.mg (pa_cons (pv 0) pa_nil)) (pa_cons (pe_mk1 e_InvalidShare.o e_InvalidShare.iC e_InvalidShare.tI e_InvalidShare.F (hr.mono (by decide)) e_InvalidShare.b pass0 (by rfl) e_InvalidShare.mg (pa_cons (pv 0) pa_nil)) (pa_cons (pe_mk1 e_InvalidStroke.o e_InvalidStroke.iC e_InvalidStroke.tI e_InvalidStroke.F (hr.mono (by decide)) e_InvalidStroke.b pass0 (by rfl) e_InvalidStroke.mg (pa_cons (pv 0) pa_nil)) pa_nil)))))))
      (pss_cons (ps_set (i := 1) sc__law_with_given.nd rfl (by first | exact Or.inl rfl | exact Or.inr rfl) (pe_op L2.op_cat (pv 1) (pe_lst (pa_cons (pe_mk1 e_InvalidPolynomial.o e_InvalidPolynomial.iC e_InvalidPolynomial.tI e_InvalidPolynomial.F (hr.mono (by decide)) e_InvalidPolynomial.b pass0 (by rfl) e_InvalidPolynomial.mg (pa_cons (pv 0) pa_nil)) (pa_cons (pe_mk1 e_InvalidPoint.o e_InvalidPoint.iC e_InvalidPoint.tI e_InvalidPoint.F (hr.mono (by decide)) e_InvalidPoint.b pass0 (by rfl) e_InvalidPoint.mg (pa_cons (pv 0) pa_nil)) (pa_cons (pe_mk1 e_InvalidLink.o e_InvalidLink.iC e_InvalidLink.tI e_InvalidLink.F (hr.mono (by decide)) e_InvalidLink.b pass0 (by rfl) e_InvalidLink.mg (pa_cons (pv 0) pa_nil)) (pa_cons (pe_mk1 e_InvalidNotch.o e_InvalidNotch.iC e_InvalidNotch.tI e_InvalidNotch.F (hr.mono (by decide)) e_InvalidNotch.b pass0 (by rfl) e_InvalidNotch.mg (pa_cons (pv 0) pa_nil)) pa_nil)))))))
      (pss_cons (ps_set (i := 1) sc__law_with_given.nd rfl (by first | exact Or.inl rfl | exact Or.inr rfl) (pe_op L2.op_cat (pv 1) (pe_lst (pa_cons (pe_mk1 e_InvalidLot.o e_InvalidLot.iC e_InvalidLot.tI e_InvalidLot.F (hr.mono (by decide)) e_InvalidLot.b pass0 (by rfl) e_InvalidLot.mg (pa_cons (pv 0) pa_nil)) (pa_cons (pe_mk1 e_InvalidEngine.o e_InvalidEngine.iC e_InvalidEngine.tI e_InvalidEngine.F (hr.mono (by decide)) e_InvalidEngine.b pass0 (by rfl) e_InvalidEngine.mg (pa_cons (pv 0) pa_nil)) (pa_cons (pe_mk1 e_InvalidSense.o e_InvalidSense.iC e_InvalidSense.tI e_InvalidSense.F (hr.mono (by decide)) e_InvalidSense.b pass0 (by rfl) e_InvalidSense.mg (pa_cons (pv 0) pa_nil)) (pa_cons (pe_mk1 e_InvalidGeared.o e_InvalidGeared.iC e_InvalidGeared.tI e_InvalidGeared.F (hr.mono (by decide)) e_InvalidGeared.b pass0 (by rfl) e_InvalidGeared.mg (pa_cons (pv 0) pa_nil)) pa_nil)))))))
      (pss_cons (ps_set (i := 1) sc__law_with_given.nd rfl (by first | exact Or.inl rfl | exact Or.inr rfl) (pe_op L2.op_cat (pv 1) (pe_lst (pa_cons (pe_mk1 e_InvalidWrong.o e_InvalidWrong.iC e_InvalidWrong.tI e_InvalidWrong.F (hr.mono (by decide)) e_InvalidWrong.b pass0 (by rfl) e_InvalidWrong.mg (pa_cons (pv 0) pa_nil)) (pa_cons (pe_mk1 e_InvalidLook.o e_InvalidLook.iC e_InvalidLook.tI e_InvalidLook.F (hr.mono (by decide)) e_InvalidLook.b pass0 (by rfl) e_InvalidLook.mg (pa_cons (pv 0) pa_nil)) (pa_cons (pe_mk1 e_InvalidThing.o e_InvalidThing.iC e_InvalidThing.tI e_InvalidThing.F (hr.mono (by decide)) e_InvalidThing.b pass0 (by rfl) e_InvalidThing.mg (pa_cons (pv 0) pa_nil)) (pa_cons (pe_mk1 e_InvalidName.o e_InvalidName.iC e_InvalidName.tI e_InvalidName.F (hr.mono (by decide)) e_InvalidName.b pass0 (by rfl) e_InvalidName.mg (pa_cons (pv 0) pa_nil)) pa_nil)))))))
      (pss_cons (ps_set (i := 1) sc__law_with_given.nd rfl (by first | exact Or.inl rfl | exact Or.inr rfl) (pe_op L2.op_cat (pv 1) (pe_lst (pa_cons (pe_mk1 e_InvalidWish.o e_InvalidWish.iC e_InvalidWish.tI e_InvalidWish.F (hr.mono (by decide)) e_InvalidWish.b pass0 (by rfl) e_InvalidWish.mg (pa_cons (pv 0) pa_nil)) (pa_cons (pe_mk1 e_InvalidIndex.o e_InvalidIndex.iC e_InvalidIndex.tI e_InvalidIndex.F (hr.mono (by decide)) e_InvalidIndex.b pass0 (by rfl) e_InvalidIndex.mg (pa_cons (pv 0) pa_nil)) (pa_cons (pe_mk1 e_InvalidPhrase.o e_InvalidPhrase.iC e_InvalidPhrase.tI e_InvalidPhrase.F (hr.mono (by decide)) e_InvalidPhrase.b pass0 (by rfl) e_InvalidPhrase.mg (pa_cons (pv 0) pa_nil)) (pa_cons (pe_mk1 e_Unlike.o e_Unlike.iC e_Unlike.tI e_Unlike.F (hr.mono (by decide)) e_Unlike.b pass0 (by rfl) e_Unlike.mg (pa_cons (pv 0) pa_nil)) (pa_cons (pe_mk1 e_Same.o e_Same.iC e_Same.tI e_Same.F (hr.mono (by decide)) e_Same.b pass0 (by rfl) e_Same.mg (pa_cons (pv 0) pa_nil)) pa_nil))))))))
      (pss_cons (ps_set (i := 1) sc__law_with_given.nd rfl (by first | exact Or.inl rfl | exact Or.inr rfl) (pe_op L2.op_cat (pv 1) (pe_lst (pa_cons (pe_mk1 e_UnknownName.o e_UnknownName.iC e_UnknownName.tI e_UnknownName.F (hr.mono (by decide)) e_UnknownName.b pass0 (by rfl) e_UnknownName.mg (pa_cons (pv 0) pa_nil)) (pa_cons (pe_mk1 e_NotAWorkshop.o e_NotAWorkshop.iC e_NotAWorkshop.tI e_NotAWorkshop.F (hr.mono (by decide)) e_NotAWorkshop.b pass0 (by rfl) e_NotAWorkshop.mg (pa_cons (pv 0) pa_nil)) pa_nil)))))
      (pss_one (ps_ret (pv 1))))))))))))), ?_⟩
  refine run_P h fun p g ds d hl hF => ?_

  obtain ⟨x, rfl, rfl⟩ := hF
  simp only [startD, List.map_cons, List.map_nil, List.length_cons, List.length_nil, List.cons_append, List.nil_append, List.replicate_succ, List.replicate_zero, Nat.reduceAdd, Nat.reduceSub, Nat.zero_add]
  repeat (first | walk_at "js" | (with_reducible refine J.ee_mk1 ?_) | (with_reducible refine J.ee_mk0 ?_) | (with_reducible refine J.op_catL (Nat.le_of_ble_eq_true rfl) ?_))
  rfl
abbrev s__law_with_given_named : Stmt := top 53
theorem sc__law_with_given_named : FnScope ["_law_thing_here", "_law_found"] ["_law_thing_here"] (defScope s__law_with_given_named) := ⟨rfl, rfl, rfl, by decide +kernel, rfl, by decide +kernel, by decide +kernel⟩
theorem ok__law_with_given_named {f__law_with_given_named  : Addr} {fd__law_with_given_named  : FuncData} (r : Raw K mg "_law_with_given_named" s__law_with_given_named f__law_with_given_named fd__law_with_given_named) (B : Blt mg) (hE : ErrsA P w K mg base hxn hwn hyn)  : Cal P w K mg base "_law_with_given_named" s__law_with_given_named 3 f__law_with_given_named fd__law_with_given_named ["_law_thing_here"] (spP K 1 (F_given K hxn sGiven)) := by
  obtain ⟨i_InvalidAngle, fd_InvalidAngle, e_InvalidAngle⟩ := hE.e1 "InvalidAngle" (.tail _ (.tail _ (.tail _ (.tail _ (.head _)))))
  obtain ⟨i_InvalidEnd, fd_InvalidEnd, e_InvalidEnd⟩ := hE.e1 "InvalidEnd" (.tail _ (.tail _ (.tail _ (.tail _ (.tail _ (.tail _ (.tail _ (.tail _ (.tail _ (.tail _ (.tail _ (.head _))))))))))))
  obtain ⟨i_InvalidEngine, fd_InvalidEngine, e_InvalidEngine⟩ := hE.e1 "InvalidEngine" (.tail _ (.tail _ (.tail _ (.tail _ (.tail _ (.tail _ (.tail _ (.tail _ (.tail _ (.tail _ (.tail _ (.tail _ (.tail _ (.tail _ (.tail _ (.tail _ (.tail _ (.tail _ (.tail _ (.tail _ (.tail _ (.head _))))))))))))))))))))))
  obtain ⟨i_InvalidForm, fd_InvalidForm, e_InvalidForm⟩ := hE.e1 "InvalidForm" (.head _)
  obtain ⟨i_InvalidGeared, fd_InvalidGeared, e_InvalidGeared⟩ := hE.e1 "InvalidGeared" (.tail _ (.tail _ (.tail _ (.tail _ (.tail _ (.tail _ (.tail _ (.tail _ (.tail _ (.tail _ (.tail _ (.tail _ (.tail _ (.tail _ (.tail _ (.tail _ (.tail _ (.tail _ (.tail _ (.tail _ (.tail _ (.tail _ (.tail _ (.head _))))))))))))))))))))))))
  obtain ⟨i_InvalidIndex, fd_InvalidIndex, e_InvalidIndex⟩ := hE.e1 "InvalidIndex" (.tail _ (.tail _ (.tail _ (.tail _ (.tail _ (.tail _ (.tail _ (.tail _ (.tail _ (.tail _ (.tail _ (.tail _ (.tail _ (.tail _ (.tail _ (.tail _ (.tail _ (.tail _ (.tail _ (.tail _ (.tail _ (.tail _ (.tail _ (.tail _ (.tail _ (.tail _ (.tail _ (.tail _ (.tail _ (.head _))))))))))))))))))))))))))))))
  obtain ⟨i_InvalidLaps, fd_InvalidLaps, e_InvalidLaps⟩ := hE.e1 "InvalidLaps" (.tail _ (.tail _ (.tail _ (.tail _ (.tail _ (.tail _ (.tail _ (.tail _ (.tail _ (.head _))))))))))
  obtain ⟨i_InvalidLink, fd_InvalidLink, e_InvalidLink⟩ := hE.e1 "InvalidLink" (.tail _ (.tail _ (.tail _ (.tail _ (.tail _ (.tail _ (.tail _ (.tail _ (.tail _ (.tail _ (.tail _ (.tail _ (.tail _ (.tail _ (.tail _ (.tail _ (.tail _ (.tail _ (.head _)))))))))))))))))))
  obtain ⟨i_InvalidLook, fd_InvalidLook, e_InvalidLook⟩ := hE.e1 "InvalidLook" (.tail _ (.tail _ (.tail _ (.tail _ (.tail _ (.tail _ (.tail _ (.tail _ (.tail _ (.tail _ (.tail _ (.tail _ (.tail _ (.tail _ (.tail _ (.tail _ (.tail _ (.tail _ (.tail _ (.tail _ (.tail _ (.tail _ (.tail _ (.tail _ (.tail _ (.head _))))))))))))))))))))))))))
  obtain ⟨i_InvalidLot, fd_InvalidLot, e_InvalidLot⟩ := hE.e1 "InvalidLot" (.tail _ (.tail _ (.tail _ (.tail _ (.tail _ (.tail _ (.tail _ (.tail _ (.tail _ (.tail _ (.tail _ (.tail _ (.tail _ (.tail _ (.tail _ (.tail _ (.tail _ (.tail _ (.tail _ (.tail _ (.head _)))))))))))))))))))))
  obtain ⟨i_InvalidName, fd_InvalidName, e_InvalidName⟩ := hE.e1 "InvalidName" (.tail _ (.tail _ (.tail _ (.tail _ (.tail _ (.tail _ (.tail _ (.tail _ (.tail _ (.tail _ (.tail _ (.tail _ (.tail _ (.tail _ (.tail _ (.tail _ (.tail _ (.tail _ (.tail _ (.tail _ (.tail _ (.tail _ (.tail _ (.tail _ (.tail _ (.tail _ (.tail _ (.head _))))))))))))))))))))))))))))
  obtain ⟨i_InvalidNotch, fd_InvalidNotch, e_InvalidNotch⟩ := hE.e1 "InvalidNotch" (.tail _ (.tail _ (.tail _ (.tail _ (.tail _ (.tail _ (.tail _ (.tail _ (.tail _ (.tail _ (.tail _ (.tail _ (.tail _ (.tail _ (.tail _ (.tail _ (.tail _ (.tail _ (.tail _ (.head _))))))))))))))))))))
  obtain ⟨i_InvalidNumber, fd_InvalidNumber, e_InvalidNumber⟩ := hE.e1 "InvalidNumber" (.tail _ (.tail _ (.head _)))
  obtain ⟨i_InvalidPhrase, fd_InvalidPhrase, e_InvalidPhrase⟩ := hE.e1 "InvalidPhrase" (.tail _ (.tail _ (.tail _ (.tail _ (.tail _ (.tail _ (.tail _ (.tail _ (.tail _ (.tail _ (.tail _ (.tail _ (.tail _ (.tail _ (.tail _ (.tail _ (.tail _ (.tail _ (.tail _ (.tail _ (.tail _ (.tail _ (.tail _ (.tail _ (.tail _ (.tail _ (.tail _ (.tail _ (.tail _ (.tail _ (.head _)))))))))))))))))))))))))))))))
  obtain ⟨i_InvalidPoint, fd_InvalidPoint, e_InvalidPoint⟩ := hE.e1 "InvalidPoint" (.tail _ (.tail _ (.tail _ (.tail _ (.tail _ (.tail _ (.tail _ (.tail _ (.tail _ (.tail _ (.tail _ (.tail _ (.tail _ (.tail _ (.tail _ (.tail _ (.tail _ (.head _))))))))))))))))))
  obtain ⟨i_InvalidPolynomial, fd_InvalidPolynomial, e_InvalidPolynomial⟩ := hE.e1 "InvalidPolynomial" (.tail _ (.tail _ (.tail _ (.tail _ (.tail _ (.tail _ (.tail _ (.tail _ (.tail _ (.tail _ (.tail _ (.tail _ (.tail _ (.tail _ (.tail _ (.tail _ (.head _)))))))))))))))))
  obtain ⟨i_InvalidPort, fd_InvalidPort, e_InvalidPort⟩ := hE.e1 "InvalidPort" (.tail _ (.tail _ (.tail _ (.tail _ (.tail _ (.tail _ (.tail _ (.tail _ (.tail _ (.tail _ (.head _)))))))))))
  obtain ⟨i_InvalidRatio, fd_InvalidRatio, e_InvalidRatio⟩ := hE.e1 "InvalidRatio" (.tail _ (.tail _ (.tail _ (.head _))))
  obtain ⟨i_InvalidRegion, fd_InvalidRegion, e_InvalidRegion⟩ := hE.e1 "InvalidRegion" (.tail _ (.tail _ (.tail _ (.tail _ (.tail _ (.tail _ (.tail _ (.head _))))))))
  obtain ⟨i_InvalidRod, fd_InvalidRod, e_InvalidRod⟩ := hE.e1 "InvalidRod" (.tail _ (.tail _ (.tail _ (.tail _ (.tail _ (.tail _ (.tail _ (.tail _ (.tail _ (.tail _ (.tail _ (.tail _ (.tail _ (.head _))))))))))))))
  obtain ⟨i_InvalidSense, fd_InvalidSense, e_InvalidSense⟩ := hE.e1 "InvalidSense" (.tail _ (.tail _ (.tail _ (.tail _ (.tail _ (.tail _ (.tail _ (.tail _ (.tail _ (.tail _ (.tail _ (.tail _ (.tail _ (.tail _ (.tail _ (.tail _ (.tail _ (.tail _ (.tail _ (.tail _ (.tail _ (.tail _ (.head _)))))))))))))))))))))))
  obtain ⟨i_InvalidShare, fd_InvalidShare, e_InvalidShare⟩ := hE.e1 "InvalidShare" (.tail _ (.tail _ (.tail _ (.tail _ (.tail _ (.tail _ (.tail _ (.tail _ (.tail _ (.tail _ (.tail _ (.tail _ (.tail _ (.tail _ (.head _)))))))))))))))
  obtain ⟨i_InvalidStroke, fd_InvalidStroke, e_InvalidStroke⟩ := hE.e1 "InvalidStroke" (.tail _ (.tail _ (.tail _ (.tail _ (.tail _ (.tail _ (.tail _ (.tail _ (.tail _ (.tail _ (.tail _ (.tail _ (.tail _ (.tail _ (.tail _ (.head _))))))))))))))))
  obtain ⟨i_InvalidThing, fd_InvalidThing, e_InvalidThing⟩ := hE.e1 "InvalidThing" (.tail _ (.tail _ (.tail _ (.tail _ (.tail _ (.tail _ (.tail _ (.tail _ (.tail _ (.tail _ (.tail _ (.tail _ (.tail _ (.tail _ (.tail _ (.tail _ (.tail _ (.tail _ (.tail _ (.tail _ (.tail _ (.tail _ (.tail _ (.tail _ (.tail _ (.tail _ (.head _)))))))))))))))))))))))))))
  obtain ⟨i_InvalidTurn, fd_InvalidTurn, e_InvalidTurn⟩ := hE.e1 "InvalidTurn" (.tail _ (.tail _ (.tail _ (.tail _ (.tail _ (.tail _ (.head _)))))))
  obtain ⟨i_InvalidValve, fd_InvalidValve, e_InvalidValve⟩ := hE.e1 "InvalidValve" (.tail _ (.tail _ (.tail _ (.tail _ (.tail _ (.tail _ (.tail _ (.tail _ (.head _)))))))))
  obtain ⟨i_InvalidVector, fd_InvalidVector, e_InvalidVector⟩ := hE.e1 "InvalidVector" (.tail _ (.head _))
  obtain ⟨i_InvalidWay, fd_InvalidWay, e_InvalidWay⟩ := hE.e1 "InvalidWay" (.tail _ (.tail _ (.tail _ (.tail _ (.tail _ (.head _))))))
  obtain ⟨i_InvalidWish, fd_InvalidWish, e_InvalidWish⟩ := hE.e1 "InvalidWish" (.tail _ (.tail _ (.tail _ (.tail _ (.tail _ (.tail _ (.tail _ (.tail _ (.tail _ (.tail _ (.tail _ (.tail _ (.tail _ (.tail _ (.tail _ (.tail _ (.tail _ (.tail _ (.tail _ (.tail _ (.tail _ (.tail _ (.tail _ (.tail _ (.tail _ (.tail _ (.tail _ (.tail _ (.head _)))))))))))))))))))))))))))))
  obtain ⟨i_InvalidWord, fd_InvalidWord, e_InvalidWord⟩ := hE.e1 "InvalidWord" (.tail _ (.tail _ (.tail _ (.tail _ (.tail _ (.tail _ (.tail _ (.tail _ (.tail _ (.tail _ (.tail _ (.tail _ (.head _)))))))))))))
  obtain ⟨i_InvalidWrong, fd_InvalidWrong, e_InvalidWrong⟩ := hE.e1 "InvalidWrong" (.tail _ (.tail _ (.tail _ (.tail _ (.tail _ (.tail _ (.tail _ (.tail _ (.tail _ (.tail _ (.tail _ (.tail _ (.tail _ (.tail _ (.tail _ (.tail _ (.tail _ (.tail _ (.tail _ (.tail _ (.tail _ (.tail _ (.tail _ (.tail _ (.head _)))))))))))))))))))))))))
  obtain ⟨i_NotAWorkshop, fd_NotAWorkshop, e_NotAWorkshop⟩ := hE.e1 "NotAWorkshop" (.tail _ (.tail _ (.tail _ (.tail _ (.tail _ (.tail _ (.tail _ (.tail _ (.tail _ (.tail _ (.tail _ (.tail _ (.tail _ (.tail _ (.tail _ (.tail _ (.tail _ (.tail _ (.tail _ (.tail _ (.tail _ (.tail _ (.tail _ (.tail _ (.tail _ (.tail _ (.tail _ (.tail _ (.tail _ (.tail _ (.tail _ (.tail _ (.tail _ (.tail _ (.head _)))))))))))))))))))))))))))))))))))
  obtain ⟨i_Same, fd_Same, e_Same⟩ := hE.e1 "Same" (.tail _ (.tail _ (.tail _ (.tail _ (.tail _ (.tail _ (.tail _ (.tail _ (.tail _ (.tail _ (.tail _ (.tail _ (.tail _ (.tail _ (.tail _ (.tail _ (.tail _ (.tail _ (.tail _ (.tail _ (.tail _ (.tail _ (.tail _ (.tail _ (.tail _ (.tail _ (.tail _ (.tail _ (.tail _ (.tail _ (.tail _ (.tail _ (.head _)))))))))))))))))))))))))))))))))
  obtain ⟨i_UnknownName, fd_UnknownName, e_UnknownName⟩ := hE.e1 "UnknownName" (.tail _ (.tail _ (.tail _ (.tail _ (.tail _ (.tail _ (.tail _ (.tail _ (.tail _ (.tail _ (.tail _ (.tail _ (.tail _ (.tail _ (.tail _ (.tail _ (.tail _ (.tail _ (.tail _ (.tail _ (.tail _ (.tail _ (.tail _ (.tail _ (.tail _ (.tail _ (.tail _ (.tail _ (.tail _ (.tail _ (.tail _ (.tail _ (.tail _ (.head _))))))))))))))))))))))))))))))))))
  obtain ⟨i_Unlike, fd_Unlike, e_Unlike⟩ := hE.e1 "Unlike" (.tail _ (.tail _ (.tail _ (.tail _ (.tail _ (.tail _ (.tail _ (.tail _ (.tail _ (.tail _ (.tail _ (.tail _ (.tail _ (.tail _ (.tail _ (.tail _ (.tail _ (.tail _ (.tail _ (.tail _ (.tail _ (.tail _ (.tail _ (.tail _ (.tail _ (.tail _ (.tail _ (.tail _ (.tail _ (.tail _ (.tail _ (.head _))))))))))))))))))))))))))))))))
  refine ⟨?_, r.mg, r.fn.kp, r.fn.binds (fun _ _ _ _ _ _ us hl => match us, hl with | [_], _ => rfl), r.fn⟩
  refine r.fn.ok sc__law_with_given_named (spP_len rfl) (fun cdv A outer s H vs Q E hr h => ?_)
  refine ⟨_, (pss_cons (ps_set (i := 1) sc__law_with_given_named.nd rfl (by first | exact Or.inl rfl | exact Or.inr rfl) (pe_lst pa_nil))
      (pss_cons (ps_set (i := 1) sc__law_with_given_named.nd rfl (by first | exact Or.inl rfl | exact Or.inr rfl) (pe_op L2.op_cat (pv 1) (pe_lst (pa_cons (pe_mk1K e_InvalidForm.o e_InvalidForm.iC e_InvalidForm.tI e_InvalidForm.F (hr.mono (by decide)) e_InvalidForm.kb pass0 (by rfl) e_InvalidForm.mg (pk_cons (pv 0) pk_nil)) (pa_cons (pe_mk1K e_InvalidVector.o e_InvalidVector.iC e_InvalidVector.tI e_InvalidVector.F (hr.mono (by decide)) e_InvalidVector.kb pass0 (by rfl) e_InvalidVector.mg (pk_cons (pv 0) pk_nil)) (pa_cons (pe_mk1K e_InvalidNumber.o e_InvalidNumber.iC e_InvalidNumber.tI e_InvalidNumber.F (hr.mono (by decide)) e_InvalidNumber.kb pass0 (by rfl) e_InvalidNumber.mg (pk_cons (pv 0) pk_nil)) pa_nil))))))
      (pss_cons (ps_set (i := 1) sc__law_with_given_named.nd rfl (by first | exact Or.inl rfl | exact Or.inr rfl) (pe_op L2.op_cat (pv 1) (pe_lst (pa_cons (pe_mk1K e_InvalidRatio.o e_InvalidRatio.iC e_InvalidRatio.tI e_InvalidRatio.F (hr.mono (by decide)) e_InvalidRatio.kb pass0 (by rfl) e_InvalidRatio.mg (pk_cons (pv 0) pk_nil)) (pa_cons (pe_mk1K e_InvalidAngle.o e_InvalidAngle.iC e_InvalidAngle.tI e_InvalidAngle.F (hr.mono (by decide)) e_InvalidAngle.kb pass0 (by rfl) e_InvalidAngle.mg (pk_cons (pv 0) pk_nil)) (pa_cons (pe_mk1K e_InvalidWay.o e_InvalidWay.iC e_InvalidWay.tI e_InvalidWay.F (hr.mono (by decide)) e_InvalidWay.kb pass0 (by rfl) e_InvalidWay.mg (pk_cons (pv 0) pk_nil)) pa_nil))))))
      (pss_cons (ps_set (i := 1) sc__law_with_given_named.nd rfl (by first | exact Or.inl rfl | exact Or.inr rfl) (pe_op L2.op_cat (pv 1) (pe_lst (pa_cons (pe_mk1K e_InvalidTurn.o e_InvalidTurn.iC e_InvalidTurn.tI e_InvalidTurn.F (hr.mono (by decide)) e_InvalidTurn.kb pass0 (by rfl) e_InvalidTurn.mg (pk_cons (pv 0) pk_nil)) (pa_cons (pe_mk1K e_InvalidRegion.o e_InvalidRegion.iC e_InvalidRegion.tI e_InvalidRegion.F (hr.mono (by decide)) e_InvalidRegion.kb pass0 (by rfl) e_InvalidRegion.mg (pk_cons (pv 0) pk_nil)) (pa_cons (pe_mk1K e_InvalidValve.o e_InvalidValve.iC e_InvalidValve.tI e_InvalidValve.F (hr.mono (by decide)) e_InvalidValve.kb pass0 (by rfl) e_InvalidValve.mg (pk_cons (pv 0) pk_nil)) pa_nil))))))
      (pss_cons (ps_set (i := 1) sc__law_with_given_named.nd rfl (by first | exact Or.inl rfl | exact Or.inr rfl) (pe_op L2.op_cat (pv 1) (pe_lst (pa_cons (pe_mk1K e_InvalidLaps.o e_InvalidLaps.iC e_InvalidLaps.tI e_InvalidLaps.F (hr.mono (by decide)) e_InvalidLaps.kb pass0 (by rfl) e_InvalidLaps.mg (pk_cons (pv 0) pk_nil)) (pa_cons (pe_mk1K e_InvalidPort.o e_InvalidPort.iC e_InvalidPort.tI e_InvalidPort.F (hr.mono (by decide)) e_InvalidPort.kb pass0 (by rfl) e_InvalidPort.mg (pk_cons (pv 0) pk_nil)) (pa_cons (pe_mk1K e_InvalidEnd.o e_InvalidEnd.iC e_InvalidEnd.tI e_InvalidEnd.F (hr.mono (by decide)) e_InvalidEnd.kb pass0 (by rfl) e_InvalidEnd.mg (pk_cons (pv 0) pk_nil)) pa_nil))))))
      (pss_cons (ps_set (i := 1) sc__law_with_given_named.nd rfl (by first | exact Or.inl rfl | exact Or.inr rfl) (pe_op L2.op_cat (pv 1) (pe_lst (pa_cons (pe_mk1K e_InvalidWord.o e_InvalidWord.iC e_InvalidWord.tI e_InvalidWord.F (hr.mono (by decide)) e_InvalidWord.kb pass0 (by rfl) e_InvalidWord.mg (pk_cons (pv 0) pk_nil)) (pa_cons (pe_mk1K e_InvalidRod.o e_InvalidRod.iC e_InvalidRod.tI e_InvalidRod.F (hr.mono (by decide)) e_InvalidRod.kb pass0 (by rfl) e_InvalidRod.mg (pk_cons (pv 0) pk_nil)) (pa_cons (pe_mk1K e_InvalidShare.o e_InvalidShare.iC e_InvalidShare.tI e_InvalidShare.F (hr.mono (by decide)) e_InvalidShare.kb pass0 (by rfl) e_InvalidShare.mg (pk_cons (pv 0) pk_nil)) pa_nil))))))
      (pss_cons (ps_set (i := 1) sc__law_with_given_named.nd rfl (by first | exact Or.inl rfl | exact Or.inr rfl) (pe_op L2.op_cat (pv 1) (pe_lst (pa_cons (pe_mk1K e_InvalidStroke.o e_InvalidStroke.iC e_InvalidStroke.tI e_InvalidStroke.F (hr.mono (by decide)) e_InvalidStroke.kb pass0 (by rfl) e_InvalidStroke.mg (pk_cons (pv 0) pk_nil)) (pa_cons (pe_mk1K e_InvalidPolynomial.o e_InvalidPolynomial.iC e_InvalidPolynomial.tI e_InvalidPolynomial.F (hr.mono (by decide)) e_InvalidPolynomial.kb pass0 (by rfl) e_InvalidPolynomial.mg (pk_cons (pv 0) pk_nil)) (pa_cons (pe_mk1K e_InvalidPoint.o e_InvalidPoint.iC e_InvalidPoint.tI e_InvalidPoint.F (hr.mono (by decide)) e_InvalidPoint.kb pass0 (by rfl) e_InvalidPoint.mg (pk_cons (pv 0) pk_nil)) pa_nil))))))
      (pss_cons (ps_set (i := 1) sc__law_with_given_named.nd rfl (by first | exact Or.inl rfl | exact Or.inr rfl) (pe_op L2.op_cat (pv 1) (pe_lst (pa_cons (pe_mk1K e_InvalidLink.o e_InvalidLink.iC e_InvalidLink.tI e_InvalidLink.F (hr.mono (by decide)) e_InvalidLink.kb pass0 (by rfl) e_InvalidLink.mg (pk_cons (pv 0) pk_nil)) (pa_cons (pe_mk1K e_InvalidNotch.o e_InvalidNotch.iC e_InvalidNotch.tI e_InvalidNotch.F (hr.mono (by decide)) e_InvalidNotch.kb pass0 (by rfl) e_InvalidNotch.mg (pk_cons (pv 0) pk_nil)) (pa_cons (pe_mk1K e_InvalidLot.o e_InvalidLot.iC e_InvalidLot.tI e_InvalidLot.F (hr.mono (by decide)) e_InvalidLot.kb pass0 (by rfl) e_InvalidLot.mg (pk_cons (pv 0) pk_nil)) pa_nil))))))
      (pss_cons (ps_set (i := 1) sc__law_with_given_named.nd rfl (by first | exact Or.inl rfl | exact Or.inr rfl) (pe_op L2.op_cat (pv 1) (pe_lst (pa_cons (pe_mk1K e_InvalidEngine.o e_InvalidEngine.iC e_InvalidEngine.tI e_InvalidEngine.F (hr.mono (by decide)) e_InvalidEngine.kb pass0 (by rfl) e_InvalidEngine.mg (pk_cons (pv 0) pk_nil)) (pa_cons (pe_mk1K e_InvalidSense.o e_InvalidSense.iC e_InvalidSense.tI e_InvalidSense.F (hr.mono (by decide)) e_InvalidSense.kb pass0 (by rfl) e_InvalidSense.mg (pk_cons (pv 0) pk_nil)) (pa_cons (pe_mk1K e_InvalidGeared.o e_InvalidGeared.iC e_InvalidGeared.tI e_InvalidGeared.F (hr.mono (by decide)) e_InvalidGeared.kb pass0 (by rfl) e_InvalidGeared.mg (pk_cons (pv 0) pk_nil)) pa_nil))))))
      (pss_cons (ps_set (i := 1) sc__law_with_given_named.nd rfl (by first | exact Or.inl rfl | exact Or.inr rfl) (pe_op L2.op_cat (pv 1) (pe_lst (pa_cons (pe_mk1K e_InvalidWrong.o e_InvalidWrong.iC e_InvalidWrong.tI e_InvalidWrong.F (hr.mono (by decide)) e_InvalidWrong.kb pass0 (by rfl) e_InvalidWrong.mg (pk_cons (pv 0) pk_nil)) (pa_cons (pe_mk1K e_InvalidLook.o e_InvalidLook.iC e_InvalidLook.tI e_InvalidLook.F (hr.mono (by decide)) e_InvalidLook.kb pass0 (by rfl) e_InvalidLook.mg (pk_cons (pv 0) pk_nil)) (pa_cons (pe_mk1K e_InvalidThing.o e_InvalidThing.iC e_InvalidThing.tI e_InvalidThing.F (hr.mono (by decide)) e_InvalidThing.kb pass0 (by rfl) e_InvalidThing.mg (pk_cons (pv 0) pk_nil)) pa_nil))))))
      (pss_cons (ps_set (i := 1) sc__law_with_given_named.nd rfl (by first | exact Or.inl rfl | exact Or.inr rfl) (pe_op L2.op_cat (pv 1) (pe_lst (pa_cons (pe_mk1K e_InvalidName.o e_InvalidName.iC e_InvalidName.tI e_InvalidName.F (hr.mono (by decide)) e_InvalidName.kb pass0 (by rfl) e_InvalidName.mg (pk_cons (pv 0) pk_nil)) (pa_cons (pe_mk1K e_InvalidWish.o e_InvalidWish.iC e_InvalidWish.tI e_InvalidWish.F (hr.mono (by decide)) e_InvalidWish.kb pass0 (by rfl) e_InvalidWish.mg (pk_cons (pv 0) pk_nil)) (pa_cons (pe_mk1K e_InvalidIndex.o e_InvalidIndex.iC e_InvalidIndex.tI e_InvalidIndex.F (hr.mono (by decide)) e_InvalidIndex.kb pass0 (by rfl) e_InvalidIndex.mg (pk_cons (pv 0) pk_nil)) pa_nil))))))
      (pss_cons (ps_set (i := 1) sc__law_with_given_named.nd rfl (by first | exact Or.inl rfl | exact Or.inr rfl) (pe_op L2.op_cat (pv 1) (pe_lst (pa_cons (pe_mk1K e_InvalidPhrase.o e_InvalidPhrase.iC e_InvalidPhrase.tI e_InvalidPhrase.F (hr.mono (by decide)) e_InvalidPhrase.kb pass0 (by rfl) e_InvalidPhrase.mg (pk_cons (pv 0) pk_nil)) (pa_cons (pe_mk1K e_Unlike.o e_Unlike.iC e_Unlike.tI e_Unlike.F (hr.mono (by decide)) e_Unlike.kb pass0 (by rfl) e_Unlike.mg (pk_cons (pv 0) pk_nil)) (pa_cons (pe_mk1K e_Same.o e_Same.iC e_Same.tI e_Same.F (hr.mono (by decide)) e_Same.kb pass0 (by rfl) e_Same.mg (pk_cons (pv 0) pk_nil)) pa_nil))))))
      (pss_cons (ps_set (i := 1) sc__law_with_given_named.nd rfl (by first | exact Or.inl rfl | exact Or.inr rfl) (pe_op L2.op_cat (pv 1) (pe_lst (pa_cons (pe_mk1K e_UnknownName.o e_UnknownName.iC e_UnknownName.tI e_UnknownName.F (hr.mono (by decide)) e_UnknownName.kb pass0 (by rfl) e_UnknownName.mg (pk_cons (pv 0) pk_nil)) (pa_cons (pe_mk1K e_NotAWorkshop.o e_NotAWorkshop.iC e_NotAWorkshop.tI e_NotAWorkshop.F (hr.mono (by decide)) e_NotAWorkshop.kb pass0 (by rfl) e_NotAWorkshop.mg (pk_cons (pv 0) pk_nil)) pa_nil)))))
      (pss_one (ps_ret (pv 1)))))))))))))))), ?_⟩
  refine run_P h fun p g ds d hl hF => ?_

  obtain ⟨x, rfl, rfl⟩ := hF
  simp only [startD, List.map_cons, List.map_nil, List.length_cons, List.length_nil, List.cons_append, List.nil_append, List.replicate_succ, List.replicate_zero, Nat.reduceAdd, Nat.reduceSub, Nat.zero_add]
  repeat (first | walk_at "js" | (with_reducible refine J.ee_mk1 ?_) | (with_reducible refine J.ee_mk0 ?_) | (with_reducible refine J.op_catL (Nat.le_of_ble_eq_true rfl) ?_))
  rfl
abbrev s__law_with_index : Stmt := top 54
theorem sc__law_with_index : FnScope ["_law_thing_here", "_law_found"] ["_law_thing_here"] (defScope s__law_with_index) := ⟨rfl, rfl, rfl, by decide +kernel, rfl, by decide +kernel, by decide +kernel⟩
theorem ok__law_with_index {f__law_with_index  : Addr} {fd__law_with_index  : FuncData} (r : Raw K mg "_law_with_index" s__law_with_index f__law_with_index fd__law_with_index) (B : Blt mg) (hE : ErrsA P w K mg base hxn hwn hyn)  : Cal P w K mg base "_law_with_index" s__law_with_index 3 f__law_with_index fd__law_with_index ["_law_thing_here"] (spP K 1 (F_given K hwn sIndex)) := by
  obtain ⟨i_Broken, fd_Broken, e_Broken⟩ := hE.e2 "Broken" (.tail _ (.tail _ (.tail _ (.tail _ (.tail _ (.head _))))))
  obtain ⟨i_InUse, fd_InUse, e_InUse⟩ := hE.e2 "InUse" (.tail _ (.tail _ (.tail _ (.tail _ (.head _)))))
  obtain ⟨i_InvalidFindings, fd_InvalidFindings, e_InvalidFindings⟩ := hE.e2 "InvalidFindings" (.tail _ (.tail _ (.tail _ (.head _))))
  obtain ⟨i_InvalidLooks, fd_InvalidLooks, e_InvalidLooks⟩ := hE.e2 "InvalidLooks" (.tail _ (.tail _ (.head _)))
  obtain ⟨i_InvalidSightings, fd_InvalidSightings, e_InvalidSightings⟩ := hE.e2 "InvalidSightings" (.head _)
  obtain ⟨i_InvalidWrongs, fd_InvalidWrongs, e_InvalidWrongs⟩ := hE.e2 "InvalidWrongs" (.tail _ (.head _))
  refine ⟨?_, r.mg, r.fn.kp, r.fn.binds (fun _ _ _ _ _ _ us hl => match us, hl with | [_], _ => rfl), r.fn⟩
  refine r.fn.ok sc__law_with_index (spP_len rfl) (fun cdv A outer s H vs Q E hr h => ?_)
  refine ⟨_, (pss_cons (ps_set (i := 1) sc__law_with_index.nd rfl (by first | exact Or.inl rfl | exact Or.inr rfl) (pe_lst pa_nil))
      (pss_cons (ps_set (i := 1) sc__law_with_index.nd rfl (by first | exact Or.inl rfl | exact Or.inr rfl) (pe_op L2.op_cat (pv 1) (pe_lst (pa_cons (pe_mk1 e_InvalidSightings.o e_InvalidSightings.iC e_InvalidSightings.tI e_InvalidSightings.F (hr.mono (by decide)) e_InvalidSightings.b pass0 (by rfl) e_InvalidSightings.mg (pa_cons (pv 0) pa_nil)) (pa_cons (pe_mk1 e_InvalidWrongs.o e_InvalidWrongs.iC e_InvalidWrongs.tI e_InvalidWrongs.F (hr.mono (by decide)) e_InvalidWrongs.b pass0 (by rfl) e_InvalidWrongs.mg (pa_cons (pv 0) pa_nil)) (pa_cons (pe_mk1 e_InvalidLooks.o e_InvalidLooks.iC e_InvalidLooks.tI e_InvalidLooks.F (hr.mono (by decide)) e_InvalidLooks.b pass0 (by rfl) e_InvalidLooks.mg (pa_cons (pv 0) pa_nil)) (pa_cons (pe_mk1 e_InvalidFindings.o e_InvalidFindings.iC e_InvalidFindings.tI e_InvalidFindings.F (hr.mono (by decide)) e_InvalidFindings.b pass0 (by rfl) e_InvalidFindings.mg (pa_cons (pv 0) pa_nil)) pa_nil)))))))
      (pss_cons (ps_set (i := 1) sc__law_with_index.nd rfl (by first | exact Or.inl rfl | exact Or.inr rfl) (pe_op L2.op_cat (pv 1) (pe_lst (pa_cons (pe_mk1 e_InUse.o e_InUse.iC e_InUse.tI e_InUse.F (hr.mono (by decide)) e_InUse.b pass0 (by rfl) e_InUse.mg (pa_cons (pv 0) pa_nil)) (pa_cons (pe_mk1 e_Broken.o e_Broken.iC e_Broken.tI e_Broken.F (hr.mono (by decide)) e_Broken.b pass0 (by rfl) e_Broken.mg (pa_cons (pv 0) pa_nil)) pa_nil)))))
      (pss_one (ps_ret (pv 1)))))), ?_⟩
  refine run_P h fun p g ds d hl hF => ?_

  obtain ⟨x, rfl, rfl⟩ := hF
  simp only [startD, List.map_cons, List.map_nil, List.length_cons, List.length_nil, List.cons_append, List.nil_append, List.replicate_succ, List.replicate_zero, Nat.reduceAdd, Nat.reduceSub, Nat.zero_add]
  repeat (first | walk_at "js" | (with_reducible refine J.ee_mk1 ?_) | (with_reducible refine J.ee_mk0 ?_) | (with_reducible refine J.op_catL (Nat.le_of_ble_eq_true rfl) ?_))
  rfl
abbrev s__law_with_index_named : Stmt := top 55
theorem sc__law_with_index_named : FnScope ["_law_thing_here", "_law_found"] ["_law_thing_here"] (defScope s__law_with_index_named) := ⟨rfl, rfl, rfl, by decide +kernel, rfl, by decide +kernel, by decide +kernel⟩
theorem ok__law_with_index_named {f__law_with_index_named  : Addr} {fd__law_with_index_named  : FuncData} (r : Raw K mg "_law_with_index_named" s__law_with_index_named f__law_with_index_named fd__law_with_index_named) (B : Blt mg) (hE : ErrsA P w K mg base hxn hwn hyn)  : Cal P w K mg base "_law_with_index_named" s__law_with_index_named 3 f__law_with_index_named fd__law_with_index_named ["_law_thing_here"] (spP K 1 (F_given K hwn sIndex)) := by
  obtain ⟨i_Broken, fd_Broken, e_Broken⟩ := hE.e2 "Broken" (.tail _ (.tail _ (.tail _ (.tail _ (.tail _ (.head _))))))
  obtain ⟨i_InUse, fd_InUse, e_InUse⟩ := hE.e2 "InUse" (.tail _ (.tail _ (.tail _ (.tail _ (.head _)))))
  obtain ⟨i_InvalidFindings, fd_InvalidFindings, e_InvalidFindings⟩ := hE.e2 "InvalidFindings" (.tail _ (.tail _ (.tail _ (.head _))))
  obtain ⟨i_InvalidLooks, fd_InvalidLooks, e_InvalidLooks⟩ := hE.e2 "InvalidLooks" (.tail _ (.tail _ (.head _)))
  obtain ⟨i_InvalidSightings, fd_InvalidSightings, e_InvalidSightings⟩ := hE.e2 "InvalidSightings" (.head _)
  obtain ⟨i_InvalidWrongs, fd_InvalidWrongs, e_InvalidWrongs⟩ := hE.e2 "InvalidWrongs" (.tail _ (.head _))
  refine ⟨?_, r.mg, r.fn.kp, r.fn.binds (fun _ _ _ _ _ _ us hl => match us, hl with | [_], _ => rfl), r.fn⟩
  refine r.fn.ok sc__law_with_index_named (spP_len rfl) (fun cdv A outer s H vs Q E hr h => ?_)
  refine ⟨_, (pss_cons (ps_set (i := 1) sc__law_with_index_named.nd rfl (by first | exact Or.inl rfl | exact Or.inr rfl) (pe_lst pa_nil))
      (pss_cons (ps_set (i := 1) sc__law_with_index_named.nd rfl (by first | exact Or.inl rfl | exact Or.inr rfl) (pe_op L2.op_cat (pv 1) (pe_lst (pa_cons (pe_mk1K e_InvalidSightings.o e_InvalidSightings.iC e_InvalidSightings.tI e_InvalidSightings.F (hr.mono (by decide)) e_InvalidSightings.kb pass0 (by rfl) e_InvalidSightings.mg (pk_cons (pv 0) pk_nil)) (pa_cons (pe_mk1K e_InvalidWrongs.o e_InvalidWrongs.iC e_InvalidWrongs.tI e_InvalidWrongs.F (hr.mono (by decide)) e_InvalidWrongs.kb pass0 (by rfl) e_InvalidWrongs.mg (pk_cons (pv 0) pk_nil)) (pa_cons (pe_mk1K e_InvalidLooks.o e_InvalidLooks.iC e_InvalidLooks.tI e_InvalidLooks.F (hr.mono (by decide)) e_InvalidLooks.kb pass0 (by rfl) e_InvalidLooks.mg (pk_cons (pv 0) pk_nil)) pa_nil))))))
      (pss_cons (ps_set (i := 1) sc__law_with_index_named.nd rfl (by first | exact Or.inl rfl | exact Or.inr rfl) (pe_op L2.op_cat (pv 1) (pe_lst (pa_cons (pe_mk1K e_InvalidFindings.o e_InvalidFindings.iC e_InvalidFindings.tI e_InvalidFindings.F (hr.mono (by decide)) e_InvalidFindings.kb pass0 (by rfl) e_InvalidFindings.mg (pk_cons (pv 0) pk_nil)) (pa_cons (pe_mk1K e_InUse.o e_InUse.iC e_InUse.tI e_InUse.F (hr.mono (by decide)) e_InUse.kb pass0 (by rfl) e_InUse.mg (pk_cons (pv 0) pk_nil)) (pa_cons (pe_mk1K e_Broken.o e_Broken.iC e_Broken.tI e_Broken.F (hr.mono (by decide)) e_Broken.kb pass0 (by rfl) e_Broken.mg (pk_cons (pv 0) pk_nil)) pa_nil))))))
      (pss_one (ps_ret (pv 1)))))), ?_⟩
  refine run_P h fun p g ds d hl hF => ?_

  obtain ⟨x, rfl, rfl⟩ := hF
  simp only [startD, List.map_cons, List.map_nil, List.length_cons, List.length_nil, List.cons_append, List.nil_append, List.replicate_succ, List.replicate_zero, Nat.reduceAdd, Nat.reduceSub, Nat.zero_add]
  repeat (first | walk_at "js" | (with_reducible refine J.ee_mk1 ?_) | (with_reducible refine J.ee_mk0 ?_) | (with_reducible refine J.op_catL (Nat.le_of_ble_eq_true rfl) ?_))
  rfl
abbrev s__law_bare : Stmt := top 56
theorem sc__law_bare : FnScope [] [] (defScope s__law_bare) := ⟨rfl, rfl, rfl, by decide +kernel, rfl, by decide +kernel, by decide +kernel⟩
theorem ok__law_bare {f__law_bare  : Addr} {fd__law_bare  : FuncData} (r : Raw K mg "_law_bare" s__law_bare f__law_bare fd__law_bare) (B : Blt mg) (hE : ErrsA P w K mg base hxn hwn hyn)  : Cal P w K mg base "_law_bare" s__law_bare 3 f__law_bare fd__law_bare [] (spP K 0 (F_bare K hyn)) := by
  obtain ⟨i_NoAngle, fd_NoAngle, e_NoAngle⟩ := hE.e0 "NoAngle" (.head _)
  obtain ⟨i_NoFit, fd_NoFit, e_NoFit⟩ := hE.e0 "NoFit" (.tail _ (.head _))
  obtain ⟨i_NothingToUndo, fd_NothingToUndo, e_NothingToUndo⟩ := hE.e0 "NothingToUndo" (.tail _ (.tail _ (.tail _ (.head _))))
  obtain ⟨i_Nought, fd_Nought, e_Nought⟩ := hE.e0 "Nought" (.tail _ (.tail _ (.head _)))
  refine ⟨?_, r.mg, r.fn.kp, r.fn.binds (fun _ _ _ _ _ _ us hl => match us, hl with | [], _ => rfl), r.fn⟩
  refine r.fn.ok sc__law_bare (spP_len rfl) (fun cdv A outer s H vs Q E hr h => ?_)
  refine ⟨_, (pss_one (ps_ret (pe_lst (pa_cons (pe_mk0 e_NoAngle.o e_NoAngle.iC e_NoAngle.tI e_NoAngle.F (hr.mono (by decide)) e_NoAngle.b pass0 (by rfl) e_NoAngle.mg) (pa_cons (pe_mk0 e_NoFit.o e_NoFit.iC e_NoFit.tI e_NoFit.F (hr.mono (by decide)) e_NoFit.b pass0 (by rfl) e_NoFit.mg) (pa_cons (pe_mk0 e_Nought.o e_Nought.iC e_Nought.tI e_Nought.F (hr.mono (by decide)) e_Nought.b pass0 (by rfl) e_Nought.mg) (pa_cons (pe_mk0 e_NothingToUndo.o e_NothingToUndo.iC e_NothingToUndo.tI e_NothingToUndo.F (hr.mono (by decide)) e_NothingToUndo.b pass0 (by rfl) e_NothingToUndo.mg) pa_nil))))))), ?_⟩
  refine run_P h fun p g ds d hl hF => ?_

  obtain ⟨rfl, rfl⟩ := hF
  simp only [startD, List.map_cons, List.map_nil, List.length_cons, List.length_nil, List.cons_append, List.nil_append, List.replicate_succ, List.replicate_zero, Nat.reduceAdd, Nat.reduceSub, Nat.zero_add]
  repeat (first | walk_at "js" | (with_reducible refine J.ee_mk1 ?_) | (with_reducible refine J.ee_mk0 ?_) | (with_reducible refine J.op_catL (Nat.le_of_ble_eq_true rfl) ?_))
  rfl
abbrev s__law_marks : Stmt := top 57
theorem sc__law_marks : FnScope ["_law_e", "_law_found"] ["_law_e"] (defScope s__law_marks) := ⟨rfl, rfl, rfl, by decide +kernel, rfl, by decide +kernel, by decide +kernel⟩
/-- all error classes, as the law names them -/
def hAL : List Str := hxn ++ hwn ++ hyn
theorem ok__law_marks {f__law_marks  : Addr} {fd__law_marks  : FuncData} (r : Raw K mg "_law_marks" s__law_marks f__law_marks fd__law_marks) (B : Blt mg) (hE : ErrsA P w K mg base hxn hwn hyn)  : Cal P w K mg base "_law_marks" s__law_marks 3 f__law_marks fd__law_marks ["_law_e"] (spP K 1 (F_marks K hAL)) := by
  obtain ⟨i_Broken, fd_Broken, e_Broken⟩ := hE.e2 "Broken" (.tail _ (.tail _ (.tail _ (.tail _ (.tail _ (.head _))))))
  obtain ⟨i_InUse, fd_InUse, e_InUse⟩ := hE.e2 "InUse" (.tail _ (.tail _ (.tail _ (.tail _ (.head _)))))
  obtain ⟨i_InvalidAngle, fd_InvalidAngle, e_InvalidAngle⟩ := hE.e1 "InvalidAngle" (.tail _ (.tail _ (.tail _ (.tail _ (.head _)))))
  obtain ⟨i_InvalidEnd, fd_InvalidEnd, e_InvalidEnd⟩ := hE.e1 "InvalidEnd" (.tail _ (.tail _ (.tail _ (.tail _ (.tail _ (.tail _ (.tail _ (.tail _ (.tail _ (.tail _ (.tail _ (.head _))))))))))))
  obtain ⟨i_InvalidEngine, fd_InvalidEngine, e_InvalidEngine⟩ := hE.e1 "InvalidEngine" (.tail _ (.tail _ (.tail _ (.tail _ (.tail _ (.tail _ (.tail _ (.tail _ (.tail _ (.tail _ (.tail _ (.tail _ (.tail _ (.tail _ (.tail _ (.tail _ (.tail _ (.tail _ (.tail _ (.tail _ (.tail _ (.head _))))))))))))))))))))))
  obtain ⟨i_InvalidFindings, fd_InvalidFindings, e_InvalidFindings⟩ := hE.e2 "InvalidFindings" (.tail _ (.tail _ (.tail _ (.head _))))
  obtain ⟨i_InvalidForm, fd_InvalidForm, e_InvalidForm⟩ := hE.e1 "InvalidForm" (.head _)
  obtain ⟨i_InvalidGeared, fd_InvalidGeared, e_InvalidGeared⟩ := hE.e1 "InvalidGeared" (.tail _ (.tail _ (.tail _ (.tail _ (.tail _ (.tail _ (.tail _ (.tail _ (.tail _ (.tail _ (.tail _ (.tail _ (.tail _ (.tail _ (.tail _ (.tail _ (.tail _ (.tail _ (.tail _ (.tail _ (.tail _ (.tail _ (.tail _ (.head _))))))))))))))))))))))))
  obtain ⟨i_InvalidIndex, fd_InvalidIndex, e_InvalidIndex⟩ := hE.e1 "InvalidIndex" (.tail _ (.tail _ (.tail _ (.tail _ (.tail _ (.tail _ (.tail _ (.tail _ (.tail _ (.tail _ (.tail _ (.tail _ (.tail _ (.tail _ (.tail _ (.tail _ (.tail _ (.tail _ (.tail _ (.tail _ (.tail _ (.tail _ (.tail _ (.tail _ (.tail _ (.tail _ (.tail _ (.tail _ (.tail _ (.head _))))))))))))))))))))))))))))))
  obtain ⟨i_InvalidLaps, fd_InvalidLaps, e_InvalidLaps⟩ := hE.e1 "InvalidLaps" (.tail _ (.tail _ (.tail _ (.tail _ (.tail _ (.tail _ (.tail _ (.tail _ (.tail _ (.head _))))))))))
  obtain ⟨i_InvalidLink, fd_InvalidLink, e_InvalidLink⟩ := hE.e1 "InvalidLink" (.tail _ (.tail _ (.tail _ (.tail _ (.tail _ (.tail _ (.tail _ (.tail _ (.tail _ (.tail _ (.tail _ (.tail _ (.tail _ (.tail _ (.tail _ (.tail _ (.tail _ (.tail _ (.head _)))))))))))))))))))
  obtain ⟨i_InvalidLook, fd_InvalidLook, e_InvalidLook⟩ := hE.e1 "InvalidLook" (.tail _ (.tail _ (.tail _ (.tail _ (.tail _ (.tail _ (.tail _ (.tail _ (.tail _ (.tail _ (.tail _ (.tail _ (.tail _ (.tail _ (.tail _ (.tail _ (.tail _ (.tail _ (.tail _ (.tail _ (.tail _ (.tail _ (.tail _ (.tail _ (.tail _ (.head _))))))))))))))))))))))))))
  obtain ⟨i_InvalidLooks, fd_InvalidLooks, e_InvalidLooks⟩ := hE.e2 "InvalidLooks" (.tail _ (.tail _ (.head _)))
  obtain ⟨i_InvalidLot, fd_InvalidLot, e_InvalidLot⟩ := hE.e1 "InvalidLot" (.tail _ (.tail _ (.tail _ (.tail _ (.tail _ (.tail _ (.tail _ (.tail _ (.tail _ (.tail _ (.tail _ (.tail _ (.tail _ (.tail _ (.tail _ (.tail _ (.tail _ (.tail _ (.tail _ (.tail _ (.head _)))))))))))))))))))))
  obtain ⟨i_InvalidName, fd_InvalidName, e_InvalidName⟩ := hE.e1 "InvalidName" (.tail _ (.tail _ (.tail _ (.tail _ (.tail _ (.tail _ (.tail _ (.tail _ (.tail _ (.tail _ (.tail _ (.tail _ (.tail _ (.tail _ (.tail _ (.tail _ (.tail _ (.tail _ (.tail _ (.tail _ (.tail _ (.tail _ (.tail _ (.tail _ (.tail _ (.tail _ (.tail _ (.head _))))))))))))))))))))))))))))
  obtain ⟨i_InvalidNotch, fd_InvalidNotch, e_InvalidNotch⟩ := hE.e1 "InvalidNotch" (.tail _ (.tail _ (.tail _ (.tail _ (.tail _ (.tail _ (.tail _ (.tail _ (.tail _ (.tail _ (.tail _ (.tail _ (.tail _ (.tail _ (.tail _ (.tail _ (.tail _ (.tail _ (.tail _ (.head _))))))))))))))))))))
  obtain ⟨i_InvalidNumber, fd_InvalidNumber, e_InvalidNumber⟩ := hE.e1 "InvalidNumber" (.tail _ (.tail _ (.head _)))
  obtain ⟨i_InvalidPhrase, fd_InvalidPhrase, e_InvalidPhrase⟩ := hE.e1 "InvalidPhrase" (.tail _ (.tail _ (.tail _ (.tail _ (.tail _ (.tail _ (.tail _ (.tail _ (.tail _ (.tail _ (.tail _ (.tail _ (.tail _ (.tail _ (.tail _ (.tail _ (.tail _ (.tail _ (.tail _ (.tail _ (.tail _ (.tail _ (.tail _ (.tail _ (.tail _ (.tail _ (.tail _ (.tail _ (.tail _ (.tail _ (.head _)))))))))))))))))))))))))))))))
  obtain ⟨i_InvalidPoint, fd_InvalidPoint, e_InvalidPoint⟩ := hE.e1 "InvalidPoint" (.tail _ (.tail _ (.tail _ (.tail _ (.tail _ (.tail _ (.tail _ (.tail _ (.tail _ (.tail _ (.tail _ (.tail _ (.tail _ (.tail _ (.tail _ (.tail _ (.tail _ (.head _))))))))))))))))))
  obtain ⟨i_InvalidPolynomial, fd_InvalidPolynomial, e_InvalidPolynomial⟩ := hE.e1 "InvalidPolynomial" (.tail _ (.tail _ (.tail _ (.tail _ (.tail _ (.tail _ (.tail _ (.tail _ (.tail _ (.tail _ (.tail _ (.tail _ (.tail _ (.tail _ (.tail _ (.tail _ (.head _)))))))))))))))))
  obtain ⟨i_InvalidPort, fd_InvalidPort, e_InvalidPort⟩ := hE.e1 "InvalidPort" (.tail _ (.tail _ (.tail _ (.tail _ (.tail _ (.tail _ (.tail _ (.tail _ (.tail _ (.tail _ (.head _)))))))))))
  obtain ⟨i_InvalidRatio, fd_InvalidRatio, e_InvalidRatio⟩ := hE.e1 "InvalidRatio" (.tail _ (.tail _ (.tail _ (.head _))))
  obtain ⟨i_InvalidRegion, fd_InvalidRegion, e_InvalidRegion⟩ := hE.e1 "InvalidRegion" (.tail _ (.tail _ (.tail _ (.tail _ (.tail _ (.tail _ (.tail _ (.head _))))))))
  obtain ⟨i_InvalidRod, fd_InvalidRod, e_InvalidRod⟩ := hE.e1 "InvalidRod" (.tail _ (.tail _ (.tail _ (.tail _ (.tail _ (.tail _ (.tail _ (.tail _ (.tail _ (.tail _ (.tail _ (.tail _ (.tail _ (.head _))))))))))))))
  obtain ⟨i_InvalidSense, fd_InvalidSense, e_InvalidSense⟩ := hE.e1 "InvalidSense" (.tail _ (.tail _ (.tail _ (.tail _ (.tail _ (.tail _ (.tail _ (.tail _ (.tail _ (.tail _ (.tail _ (.tail _ (.tail _ (.tail _ (.tail _ (.tail _ (.tail _ (.tail _ (.tail _ (.tail _ (.tail _ (.tail _ (.head _)))))))))))))))))))))))
  obtain ⟨i_InvalidShare, fd_InvalidShare, e_InvalidShare⟩ := hE.e1 "InvalidShare" (.tail _ (.tail _ (.tail _ (.tail _ (.tail _ (.tail _ (.tail _ (.tail _ (.tail _ (.tail _ (.tail _ (.tail _ (.tail _ (.tail _ (.head _)))))))))))))))
  obtain ⟨i_InvalidSightings, fd_InvalidSightings, e_InvalidSightings⟩ := hE.e2 "InvalidSightings" (.head _)
  obtain ⟨i_InvalidStroke, fd_InvalidStroke, e_InvalidStroke⟩ := hE.e1 "InvalidStroke" (.tail _ (.tail _ (.tail _ (.tail _ (.tail _ (.tail _ (.tail _ (.tail _ (.tail _ (.tail _ (.tail _ (.tail _ (.tail _ (.tail _ (.tail _ (.head _))))))))))))))))
  obtain ⟨i_InvalidThing, fd_InvalidThing, e_InvalidThing⟩ := hE.e1 "InvalidThing" (.tail _ (.tail _ (.tail _ (.tail _ (.tail _ (.tail _ (.tail _ (.tail _ (.tail _ (.tail _ (.tail _ (.tail _ (.tail _ (.tail _ (.tail _ (.tail _ (.tail _ (.tail _ (.tail _ (.tail _ (.tail _ (.tail _ (.tail _ (.tail _ (.tail _ (.tail _ (.head _)))))))))))))))))))))))))))
  obtain ⟨i_InvalidTurn, fd_InvalidTurn, e_InvalidTurn⟩ := hE.e1 "InvalidTurn" (.tail _ (.tail _ (.tail _ (.tail _ (.tail _ (.tail _ (.head _)))))))
  obtain ⟨i_InvalidValve, fd_InvalidValve, e_InvalidValve⟩ := hE.e1 "InvalidValve" (.tail _ (.tail _ (.tail _ (.tail _ (.tail _ (.tail _ (.tail _ (.tail _ (.head _)))))))))
  obtain ⟨i_InvalidVector, fd_InvalidVector, e_InvalidVector⟩ := hE.e1 "InvalidVector" (.tail _ (.head _))
  obtain ⟨i_InvalidWay, fd_InvalidWay, e_InvalidWay⟩ := hE.e1 "InvalidWay" (.tail _ (.tail _ (.tail _ (.tail _ (.tail _ (.head _))))))
  obtain ⟨i_InvalidWish, fd_InvalidWish, e_InvalidWish⟩ := hE.e1 "InvalidWish" (.tail _ (.tail _ (.tail _ (.tail _ (.tail _ (.tail _ (.tail _ (.tail _ (.tail _ (.tail _ (.tail _ (.tail _ (.tail _ (.tail _ (.tail _ (.tail _ (.tail _ (.tail _ (.tail _ (.tail _ (.tail _ (.tail _ (.tail _ (.tail _ (.tail _ (.tail _ (.tail _ (.tail _ (.head _)))))))))))))))))))))))))))))
  obtain ⟨i_InvalidWord, fd_InvalidWord, e_InvalidWord⟩ := hE.e1 "InvalidWord" (.tail _ (.tail _ (.tail _ (.tail _ (.tail _ (.tail _ (.tail _ (.tail _ (.tail _ (.tail _ (.tail _ (.tail _ (.head _)))))))))))))
  obtain ⟨i_InvalidWrong, fd_InvalidWrong, e_InvalidWrong⟩ := hE.e1 "InvalidWrong" (.tail _ (.tail _ (.tail _ (.tail _ (.tail _ (.tail _ (.tail _ (.tail _ (.tail _ (.tail _ (.tail _ (.tail _ (.tail _ (.tail _ (.tail _ (.tail _ (.tail _ (.tail _ (.tail _ (.tail _ (.tail _ (.tail _ (.tail _ (.tail _ (.head _)))))))))))))))))))))))))
  obtain ⟨i_InvalidWrongs, fd_InvalidWrongs, e_InvalidWrongs⟩ := hE.e2 "InvalidWrongs" (.tail _ (.head _))
  obtain ⟨i_NoAngle, fd_NoAngle, e_NoAngle⟩ := hE.e0 "NoAngle" (.head _)
  obtain ⟨i_NoFit, fd_NoFit, e_NoFit⟩ := hE.e0 "NoFit" (.tail _ (.head _))
  obtain ⟨i_NotAWorkshop, fd_NotAWorkshop, e_NotAWorkshop⟩ := hE.e1 "NotAWorkshop" (.tail _ (.tail _ (.tail _ (.tail _ (.tail _ (.tail _ (.tail _ (.tail _ (.tail _ (.tail _ (.tail _ (.tail _ (.tail _ (.tail _ (.tail _ (.tail _ (.tail _ (.tail _ (.tail _ (.tail _ (.tail _ (.tail _ (.tail _ (.tail _ (.tail _ (.tail _ (.tail _ (.tail _ (.tail _ (.tail _ (.tail _ (.tail _ (.tail _ (.tail _ (.head _)))))))))))))))))))))))))))))))))))
  obtain ⟨i_NothingToUndo, fd_NothingToUndo, e_NothingToUndo⟩ := hE.e0 "NothingToUndo" (.tail _ (.tail _ (.tail _ (.head _))))
  obtain ⟨i_Nought, fd_Nought, e_Nought⟩ := hE.e0 "Nought" (.tail _ (.tail _ (.head _)))
  obtain ⟨i_Same, fd_Same, e_Same⟩ := hE.e1 "Same" (.tail _ (.tail _ (.tail _ (.tail _ (.tail _ (.tail _ (.tail _ (.tail _ (.tail _ (.tail _ (.tail _ (.tail _ (.tail _ (.tail _ (.tail _ (.tail _ (.tail _ (.tail _ (.tail _ (.tail _ (.tail _ (.tail _ (.tail _ (.tail _ (.tail _ (.tail _ (.tail _ (.tail _ (.tail _ (.tail _ (.tail _ (.tail _ (.head _)))))))))))))))))))))))))))))))))
  obtain ⟨i_UnknownName, fd_UnknownName, e_UnknownName⟩ := hE.e1 "UnknownName" (.tail _ (.tail _ (.tail _ (.tail _ (.tail _ (.tail _ (.tail _ (.tail _ (.tail _ (.tail _ (.tail _ (.tail _ (.tail _ (.tail _ (.tail _ (.tail _ (.tail _ (.tail _ (.tail _ (.tail _ (.tail _ (.tail _ (.tail _ (.tail _ (.tail _ (.tail _ (.tail _ (.tail _ (.tail _ (.tail _ (.tail _ (.tail _ (.tail _ (.head _))))))))))))))))))))))))))))))))))
  obtain ⟨i_Unlike, fd_Unlike, e_Unlike⟩ := hE.e1 "Unlike" (.tail _ (.tail _ (.tail _ (.tail _ (.tail _ (.tail _ (.tail _ (.tail _ (.tail _ (.tail _ (.tail _ (.tail _ (.tail _ (.tail _ (.tail _ (.tail _ (.tail _ (.tail _ (.tail _ (.tail _ (.tail _ (.tail _ (.tail _ (.tail _ (.tail _ (.tail _ (.tail _ (.tail _ (.tail _ (.tail _ (.tail _ (.head _))))))))))))))))))))))))))))))))
  refine ⟨?_, r.mg, r.fn.kp, r.fn.binds (fun _ _ _ _ _ _ us hl => match us, hl with | [_], _ => rfl), r.fn⟩
  refine r.fn.ok sc__law_marks (spP_len rfl) (fun cdv A outer s H vs Q E hr h => ?_)
  refine ⟨_, (pss_cons (ps_set (i := 1) sc__law_marks.nd rfl (by first | exact Or.inl rfl | exact Or.inr rfl) (pe_lst pa_nil))
      (pss_cons (ps_set (i := 1) sc__law_marks.nd rfl (by first | exact Or.inl rfl | exact Or.inr rfl) (pe_op L2.op_cat (pv 1) (pe_lst (pa_cons (pe_callB (call_isOK (K := K) rfl) (by rfl) B.bIsi (by decide +kernel) (pa_cons (pv 0) (pa_cons (pe_glob (by rfl) e_InvalidForm.mg (show RelV (V.ref (He.ga K "InvalidForm")) (Value.ref (He.ga K "InvalidForm")) from rfl)) pa_nil))) (pa_cons (pe_callB (call_isOK (K := K) rfl) (by rfl) B.bIsi (by decide +kernel) (pa_cons (pv 0) (pa_cons (pe_glob (by rfl) e_InvalidVector.mg (show RelV (V.ref (He.ga K "InvalidVector")) (Value.ref (He.ga K "InvalidVector")) from rfl)) pa_nil))) (pa_cons (pe_callB (call_isOK (K := K) rfl) (by rfl) B.bIsi (by decide +kernel) (pa_cons (pv 0) (pa_cons (pe_glob (by rfl) e_InvalidNumber.mg (show RelV (V.ref (He.ga K "InvalidNumber")) (Value.ref (He.ga K "InvalidNumber")) from rfl)) pa_nil))) pa_nil))))))
      (pss_cons (ps_set (i := 1) sc__law_marks.nd rfl (by first | exact Or.inl rfl | exact Or.inr rfl) (pe_op L2.op_cat (pv 1) (pe_lst (pa_cons (pe_callB (call_isOK (K := K) rfl) (by rfl) B.bIsi (by decide +kernel) (pa_cons (pv 0) (pa_cons (pe_glob (by rfl) e_InvalidRatio.mg (show RelV (V.ref (He.ga K "InvalidRatio")) (Value.ref (He.ga K "InvalidRatio")) from rfl)) pa_nil))) (pa_cons (pe_callB (call_isOK (K := K) rfl) (by rfl) B.bIsi (by decide +kernel) (pa_cons (pv 0) (pa_cons (pe_glob (by rfl) e_InvalidAngle.mg (show RelV (V.ref (He.ga K "InvalidAngle")) (Value.ref (He.ga K "InvalidAngle")) from rfl)) pa_nil))) (pa_cons (pe_callB (call_isOK (K := K) rfl) (by rfl) B.bIsi (by decide +kernel) (pa_cons (pv 0) (pa_cons (pe_glob (by rfl) e_InvalidWay.mg (show RelV (V.ref (He.ga K "InvalidWay")) (Value.ref (He.ga K "InvalidWay")) from rfl)) pa_nil))) pa_nil))))))
      (pss_cons (ps_set (i := 1) sc__law_marks.nd rfl (by first | exact Or.inl rfl | exact Or.inr rfl) (pe_op L2.op_cat (pv 1) (pe_lst (pa_cons (pe_callB (call_isOK (K := K) rfl) (by rfl) B.bIsi (by decide +kernel) (pa_cons (pv 0) (pa_cons (pe_glob (by rfl) e_InvalidTurn.mg (show RelV (V.ref (He.ga K "InvalidTurn")) (Value.ref (He.ga K "InvalidTurn")) from rfl)) pa_nil))) (pa_cons (pe_callB (call_isOK (K := K) rfl) (by rfl) B.bIsi (by decide +kernel) (pa_cons (pv 0) (pa_cons (pe_glob (by rfl) e_InvalidRegion.mg (show RelV (V.ref (He.ga K "InvalidRegion")) (Value.ref (He.ga K "InvalidRegion")) from rfl)) pa_nil))) (pa_cons (pe_callB (call_isOK (K := K) rfl) (by rfl) B.bIsi (by decide +kernel) (pa_cons (pv 0) (pa_cons (pe_glob (by rfl) e_InvalidValve.mg (show RelV (V.ref (He.ga K "InvalidValve")) (Value.ref (He.ga K "InvalidValve")) from rfl)) pa_nil))) pa_nil))))))
      (pss_cons (ps_set (i := 1) sc__law_marks.nd rfl (by first | exact Or.inl rfl | exact Or.inr rfl) (pe_op L2.op_cat (pv 1) (pe_lst (pa_cons (pe_callB (call_isOK (K := K) rfl) (by rfl) B.bIsi (by decide +kernel) (pa_cons (pv 0) (pa_cons (pe_glob (by rfl) e_InvalidLaps.mg (show RelV (V.ref (He.ga K "InvalidLaps")) (Value.ref (He.ga K "InvalidLaps")) from rfl)) pa_nil))) (pa_cons (pe_callB (call_isOK (K := K) rfl) (by rfl) B.bIsi (by decide +kernel) (pa_cons (pv 0) (pa_cons (pe_glob (by rfl) e_InvalidPort.mg (show RelV (V.ref (He.ga K "InvalidPort")) (Value.ref (He.ga K "InvalidPort")) from rfl)) pa_nil))) (pa_cons (pe_callB (call_isOK (K := K) rfl) (by rfl) B.bIsi (by decide +kernel) (pa_cons (pv 0) (pa_cons (pe_glob (by rfl) e_InvalidEnd.mg (show RelV (V.ref (He.ga K "InvalidEnd")) (Value.ref (He.ga K "InvalidEnd")) from rfl)) pa_nil))) pa_nil))))))
      (pss_cons (ps_set (i := 1) sc__law_marks.nd rfl (by first | exact Or.inl rfl | exact Or.inr rfl) (pe_op L2.op_cat (pv 1) (pe_lst (pa_cons (pe_callB (call_isOK (K := K) rfl) (by rfl) B.bIsi (by decide +kernel) (pa_cons (pv 0) (pa_cons (pe_glob (by rfl) e_InvalidWord.mg (show RelV (V.ref (He.ga K "InvalidWord")) (Value.ref (He.ga K "InvalidWord")) from rfl)) pa_nil))) (pa_cons (pe_callB (call_isOK (K := K) rfl) (by rfl) B.bIsi (by decide +kernel) (pa_cons (pv 0) (pa_cons (pe_glob (by rfl) e_InvalidRod.mg (show RelV (V.ref (He.ga K "InvalidRod")) (Value.ref (He.ga K "InvalidRod")) from rfl)) pa_nil))) (pa_cons (pe_callB (call_isOK (K := K) rfl) (by rfl) B.bIsi (by decide +kernel) (pa_cons (pv 0) (pa_cons (pe_glob (by rfl) e_InvalidShare.mg (show RelV (V.ref (He.ga K "InvalidShare")) (Value.ref (He.ga K "InvalidShare")) from rfl)) pa_nil))) pa_nil))))))
      (pss_cons (ps_set (i := 1) sc__law_marks.nd rfl (by first | exact Or.inl rfl | exact Or.inr rfl) (pe_op L2.op_cat (pv 1) (pe_lst (pa_cons (pe_callB (call_isOK (K := K) rfl) (by rfl) B.bIsi (by decide +kernel) (pa_cons (pv 0) (pa_cons (pe_glob (by rfl) e_InvalidStroke.mg (show RelV (V.ref (He.ga K "InvalidStroke")) (Value.ref (He.ga K "InvalidStroke")) from rfl)) pa_nil))) (pa_cons (pe_callB (call_isOK (K := K) rfl) (by rfl) B.bIsi (by decide +kernel) (pa_cons (pv 0) (pa_cons (pe_glob (by rfl) e_InvalidPolynomial.mg (show RelV (V.ref (He.ga K "InvalidPolynomial")) (Value.ref (He.ga K "InvalidPolynomial")) from rfl)) pa_nil))) pa_nil)))))
      (pss_cons (ps_set (i := 1) sc__law_marks.nd rfl (by first | exact Or.inl rfl | exact Or.inr rfl) (pe_op L2.op_cat (pv 1) (pe_lst (pa_cons (pe_callB (call_isOK (K := K) rfl) (by rfl) B.bIsi (by decide +kernel) (pa_cons (pv 0) (pa_cons (pe_glob (by rfl) e_InvalidPoint.mg (show RelV (V.ref (He.ga K "InvalidPoint")) (Value.ref (He.ga K "InvalidPoint")) from rfl)) pa_nil))) (pa_cons (pe_callB (call_isOK (K := K) rfl) (by rfl) B.bIsi (by decide +kernel) (pa_cons (pv 0) (pa_cons (pe_glob (by rfl) e_InvalidLink.mg (show RelV (V.ref (He.ga K "InvalidLink")) (Value.ref (He.ga K "InvalidLink")) from rfl)) pa_nil))) (pa_cons (pe_callB (call_isOK (K := K) rfl) (by rfl) B.bIsi (by decide +kernel) (pa_cons (pv 0) (pa_cons (pe_glob (by rfl) e_InvalidNotch.mg (show RelV (V.ref (He.ga K "InvalidNotch")) (Value.ref (He.ga K "InvalidNotch")) from rfl)) pa_nil))) pa_nil))))))
      (pss_cons (ps_set (i := 1) sc__law_marks.nd rfl (by first | exact Or.inl rfl | exact Or.inr rfl) (pe_op L2.op_cat (pv 1) (pe_lst (pa_cons (pe_callB (call_isOK (K := K) rfl) (by rfl) B.bIsi (by decide +kernel) (pa_cons (pv 0) (pa_cons (pe_glob (by rfl) e_InvalidLot.mg (show RelV (V.ref (He.ga K "InvalidLot")) (Value.ref (He.ga K "InvalidLot")) from rfl)) pa_nil))) (pa_cons (pe_callB (call_isOK (K := K) rfl) (by rfl) B.bIsi (by decide +kernel) (pa_cons (pv 0) (pa_cons (pe_glob (by rfl) e_InvalidEngine.mg (show RelV (V.ref (He.ga K "InvalidEngine")) (Value.ref (He.ga K "InvalidEngine")) from rfl)) pa_nil))) (pa_cons (pe_callB (call_isOK (K := K) rfl) (by rfl) B.bIsi (by decide +kernel) (pa_cons (pv 0) (pa_cons (pe_glob (by rfl) e_InvalidSense.mg (show RelV (V.ref (He.ga K "InvalidSense")) (Value.ref (He.ga K "InvalidSense")) from rfl)) pa_nil))) pa_nil))))))
      (pss_cons (ps_set (i := 1) sc__law_marks.nd rfl (by first | exact Or.inl rfl | exact Or.inr rfl) (pe_op L2.op_cat (pv 1) (pe_lst (pa_cons (pe_callB (call_isOK (K := K) rfl) (by rfl) B.bIsi (by decide +kernel) (pa_cons (pv 0) (pa_cons (pe_glob (by rfl) e_InvalidGeared.mg (show RelV (V.ref (He.ga K "InvalidGeared")) (Value.ref (He.ga K "InvalidGeared")) from rfl)) pa_nil))) (pa_cons (pe_callB (call_isOK (K := K) rfl) (by rfl) B.bIsi (by decide +kernel) (pa_cons (pv 0) (pa_cons (pe_glob (by rfl) e_InvalidWrong.mg (show RelV (V.ref (He.ga K "InvalidWrong")) (Value.ref (He.ga K "InvalidWrong")) from rfl)) pa_nil))) (pa_cons (pe_callB (call_isOK (K := K) rfl) (by rfl) B.bIsi (by decide +kernel) (pa_cons (pv 0) (pa_cons (pe_glob (by rfl) e_InvalidLook.mg (show RelV (V.ref (He.ga K "InvalidLook")) (Value.ref (He.ga K "InvalidLook")) from rfl)) pa_nil))) pa_nil))))))
      (pss_cons (ps_set (i := 1) sc__law_marks.nd rfl (by first | exact Or.inl rfl | exact Or.inr rfl) (pe_op L2.op_cat (pv 1) (pe_lst (pa_cons (pe_callB (call_isOK (K := K) rfl) (by rfl) B.bIsi (by decide +kernel) (pa_cons (pv 0) (pa_cons (pe_glob (by rfl) e_InvalidThing.mg (show RelV (V.ref (He.ga K "InvalidThing")) (Value.ref (He.ga K "InvalidThing")) from rfl)) pa_nil))) (pa_cons (pe_callB (call_isOK (K := K) rfl) (by rfl) B.bIsi (by decide +kernel) (pa_cons (pv 0) (pa_cons (pe_glob (by rfl) e_InvalidName.mg (show RelV (V.ref (He.ga K "InvalidName")) (Value.ref (He.ga K "InvalidName")) from rfl)) pa_nil))) (pa_cons (pe_callB (call_isOK (K := K) rfl) (by rfl) B.bIsi (by decide +kernel) (pa_cons (pv 0) (pa_cons (pe_glob (by rfl) e_InvalidWish.mg (show RelV (V.ref (He.ga K "InvalidWish")) (Value.ref (He.ga K "InvalidWish")) from rfl)) pa_nil))) pa_nil))))))
      (pss_cons (ps_set (i := 1) sc__law_marks.nd rfl (by first | exact Or.inl rfl | exact Or.inr rfl) (pe_op L2.op_cat (pv 1) (pe_lst (pa_cons (pe_callB (call_isOK (K := K) rfl) (by rfl) B.bIsi (by decide +kernel) (pa_cons (pv 0) (pa_cons (pe_glob (by rfl) e_InvalidIndex.mg (show RelV (V.ref (He.ga K "InvalidIndex")) (Value.ref (He.ga K "InvalidIndex")) from rfl)) pa_nil))) (pa_cons (pe_callB (call_isOK (K := K) rfl) (by rfl) B.bIsi (by decide +kernel) (pa_cons (pv 0) (pa_cons (pe_glob (by rfl) e_InvalidPhrase.mg (show RelV (V.ref (He.ga K "InvalidPhrase")) (Value.ref (He.ga K "InvalidPhrase")) from rfl)) pa_nil))) (pa_cons (pe_callB (call_isOK (K := K) rfl) (by rfl) B.bIsi (by decide +kernel) (pa_cons (pv 0) (pa_cons (pe_glob (by rfl) e_Unlike.mg (show RelV (V.ref (He.ga K "Unlike")) (Value.ref (He.ga K "Unlike")) from rfl)) pa_nil))) pa_nil))))))
      (pss_cons (ps_set (i := 1) sc__law_marks.nd rfl (by first | exact Or.inl rfl | exact Or.inr rfl) (pe_op L2.op_cat (pv 1) (pe_lst (pa_cons (pe_callB (call_isOK (K := K) rfl) (by rfl) B.bIsi (by decide +kernel) (pa_cons (pv 0) (pa_cons (pe_glob (by rfl) e_Same.mg (show RelV (V.ref (He.ga K "Same")) (Value.ref (He.ga K "Same")) from rfl)) pa_nil))) (pa_cons (pe_callB (call_isOK (K := K) rfl) (by rfl) B.bIsi (by decide +kernel) (pa_cons (pv 0) (pa_cons (pe_glob (by rfl) e_UnknownName.mg (show RelV (V.ref (He.ga K "UnknownName")) (Value.ref (He.ga K "UnknownName")) from rfl)) pa_nil))) (pa_cons (pe_callB (call_isOK (K := K) rfl) (by rfl) B.bIsi (by decide +kernel) (pa_cons (pv 0) (pa_cons (pe_glob (by rfl) e_NotAWorkshop.mg (show RelV (V.ref (He.ga K "NotAWorkshop")) (Value.ref (He.ga K "NotAWorkshop")) from rfl)) pa_nil))) pa_nil))))))
      (pss_cons (ps_set (i := 1) sc__law_marks.nd rfl (by first | exact Or.inl rfl | exact Or.inr rfl) (pe_op L2.op_cat (pv 1) (pe_lst (pa_cons (pe_callB (call_isOK (K := K) rfl) (by rfl) B.bIsi (by decide +kernel) (pa_cons (pv 0) (pa_cons (pe_glob (by rfl) e_InvalidSightings.mg (show RelV (V.ref (He.ga K "InvalidSightings")) (Value.ref (He.ga K "InvalidSightings")) from rfl)) pa_nil))) (pa_cons (pe_callB (call_isOK (K := K) rfl) (by rfl) B.bIsi (by decide +kernel) (pa_cons (pv 0) (pa_cons (pe_glob (by rfl) e_InvalidWrongs.mg (show RelV (V.ref (He.ga K "InvalidWrongs")) (Value.ref (He.ga K "InvalidWrongs")) from rfl)) pa_nil))) (pa_cons (pe_callB (call_isOK (K := K) rfl) (by rfl) B.bIsi (by decide +kernel) (pa_cons (pv 0) (pa_cons (pe_glob (by rfl) e_InvalidLooks.mg (show RelV (V.ref (He.ga K "InvalidLooks")) (Value.ref (He.ga K "InvalidLooks")) from rfl)) pa_nil))) pa_nil))))))
      (pss_cons (ps_set (i := 1) sc__law_marks.nd rfl (by first | exact Or.inl rfl | exact Or.inr rfl) (pe_op L2.op_cat (pv 1) (pe_lst (pa_cons (pe_callB (call_isOK (K := K) rfl) (by rfl) B.bIsi (by decide +kernel) (pa_cons (pv 0) (pa_cons (pe_glob (by rfl) e_InvalidFindings.mg (show RelV (V.ref (He.ga K "InvalidFindings")) (Value.ref (He.ga K "InvalidFindings")) from rfl)) pa_nil))) (pa_cons (pe_callB (call_isOK (K := K) rfl) (by rfl) B.bIsi (by decide +kernel) (pa_cons (pv 0) (pa_cons (pe_glob (by rfl) e_InUse.mg (show RelV (V.ref (He.ga K "InUse")) (Value.ref (He.ga K "InUse")) from rfl)) pa_nil))) (pa_cons (pe_callB (call_isOK (K := K) rfl) (by rfl) B.bIsi (by decide +kernel) (pa_cons (pv 0) (pa_cons (pe_glob (by rfl) e_Broken.mg (show RelV (V.ref (He.ga K "Broken")) (Value.ref (He.ga K "Broken")) from rfl)) pa_nil))) pa_nil))))))
      (pss_cons (ps_set (i := 1) sc__law_marks.nd rfl (by first | exact Or.inl rfl | exact Or.inr rfl) (pe_op L2.op_cat (pv 1) (pe_lst (pa_cons (pe_callB (call_isOK (K := K) rfl) (by rfl) B.bIsi (by decide +kernel) (pa_cons (pv 0) (pa_cons (pe_glob (by rfl) e_NoAngle.mg (show RelV (V.ref (He.ga K "NoAngle")) (Value.ref (He.ga K "NoAngle")) from rfl)) pa_nil))) (pa_cons (pe_callB (call_isOK (K := K) rfl) (by rfl) B.bIsi (by decide +kernel) (pa_cons (pv 0) (pa_cons (pe_glob (by rfl) e_NoFit.mg (show RelV (V.ref (He.ga K "NoFit")) (Value.ref (He.ga K "NoFit")) from rfl)) pa_nil))) (pa_cons (pe_callB (call_isOK (K := K) rfl) (by rfl) B.bIsi (by decide +kernel) (pa_cons (pv 0) (pa_cons (pe_glob (by rfl) e_Nought.mg (show RelV (V.ref (He.ga K "Nought")) (Value.ref (He.ga K "Nought")) from rfl)) pa_nil))) pa_nil))))))
      (pss_cons (ps_set (i := 1) sc__law_marks.nd rfl (by first | exact Or.inl rfl | exact Or.inr rfl) (pe_op L2.op_cat (pv 1) (pe_lst (pa_cons (pe_callB (call_isOK (K := K) rfl) (by rfl) B.bIsi (by decide +kernel) (pa_cons (pv 0) (pa_cons (pe_glob (by rfl) e_NothingToUndo.mg (show RelV (V.ref (He.ga K "NothingToUndo")) (Value.ref (He.ga K "NothingToUndo")) from rfl)) pa_nil))) pa_nil))))
      (pss_one (ps_ret (pv 1)))))))))))))))))))), ?_⟩
  refine run_P h fun p g ds d hl hF => ?_

  obtain ⟨x, hx, e, rfl, he, rfl⟩ := hF
  have q := hE.q x hx
  simp only [startD, List.map_cons, List.map_nil, List.length_cons, List.length_nil, List.cons_append, List.nil_append, List.replicate_succ, List.replicate_zero, Nat.reduceAdd, Nat.reduceSub, Nat.zero_add]
  repeat (first | (with_reducible refine J.is_clV q he (by decide +kernel) rfl ?_) | walk_at "js" | (with_reducible refine J.op_catL (Nat.le_of_ble_eq_true rfl) ?_))
  rfl
abbrev s__law_is_under : Stmt := top 58
theorem sc__law_is_under : FnScope ["_law_e"] ["_law_e"] (defScope s__law_is_under) := ⟨rfl, rfl, rfl, by decide +kernel, rfl, by decide +kernel, by decide +kernel⟩
theorem ok__law_is_under {f__law_is_under  : Addr} {fd__law_is_under  : FuncData} (r : Raw K mg "_law_is_under" s__law_is_under f__law_is_under fd__law_is_under) (B : Blt mg) (hE : ErrsA P w K mg base hxn hwn hyn) (hValueError : mg "ValueError" = none) (hLookupError : mg "LookupError" = none) (hArithmeticError : mg "ArithmeticError" = none) (hTypeError : mg "TypeError" = none) (hRuntimeError : mg "RuntimeError" = none)  : Cal P w K mg base "_law_is_under" s__law_is_under 3 f__law_is_under fd__law_is_under ["_law_e"] (spP K 1 (F_under K hAL)) := by
  refine ⟨?_, r.mg, r.fn.kp, r.fn.binds (fun _ _ _ _ _ _ us hl => match us, hl with | [_], _ => rfl), r.fn⟩
  refine r.fn.ok sc__law_is_under (spP_len rfl) (fun cdv A outer s H vs Q E hr h => ?_)
  refine ⟨_, (pss_cons (ps_if (PW.pt (pw_or (pt_not (pt_val (pe_callB (call_isOK (K := K) rfl) (by rfl) B.bIsi (by decide +kernel) (pa_cons (pv 0) (pa_cons (pe_glob (by rfl) hE.top (show RelV (V.ref (He.ga K "SteamError")) (Value.ref (He.ga K "SteamError")) from rfl)) pa_nil))))) (pw_or1 (pt_not (pt_val (pe_callB (call_isOK (K := K) rfl) (by rfl) B.bIsi (by decide +kernel) (pa_cons (pv 0) (pa_cons (pe_bltn (v := .ty "ValueError") (by rfl) hValueError (by decide +kernel) rfl) pa_nil)))))))) (pss_one (ps_ret pe_bl)) pss_nil)
      (pss_cons (ps_if (PW.pt (pw_or (pt_val (pe_callB (call_isOK (K := K) rfl) (by rfl) B.bIsi (by decide +kernel) (pa_cons (pv 0) (pa_cons (pe_bltn (v := .ty "LookupError") (by rfl) hLookupError (by decide +kernel) rfl) pa_nil)))) (pw_or1 (pt_val (pe_callB (call_isOK (K := K) rfl) (by rfl) B.bIsi (by decide +kernel) (pa_cons (pv 0) (pa_cons (pe_bltn (v := .ty "ArithmeticError") (by rfl) hArithmeticError (by decide +kernel) rfl) pa_nil))))))) (pss_one (ps_ret pe_bl)) pss_nil)
      (pss_one (ps_ret (pe_and (pe_not (pe_callB (call_isOK (K := K) rfl) (by rfl) B.bIsi (by decide +kernel) (pa_cons (pv 0) (pa_cons (pe_bltn (v := .ty "TypeError") (by rfl) hTypeError (by decide +kernel) rfl) pa_nil)))) (pe_one (pe_not (pe_callB (call_isOK (K := K) rfl) (by rfl) B.bIsi (by decide +kernel) (pa_cons (pv 0) (pa_cons (pe_bltn (v := .ty "RuntimeError") (by rfl) hRuntimeError (by decide +kernel) rfl) pa_nil)))))))))), ?_⟩
  refine run_P h fun p g ds d hl hF => ?_

  obtain ⟨x, hx, e, rfl, he, rfl⟩ := hF
  have q := hE.q x hx
  simp only [startD, List.map_cons, List.map_nil, List.length_cons, List.length_nil, List.cons_append, List.nil_append, List.replicate_succ, List.replicate_zero, Nat.reduceAdd, Nat.reduceSub, Nat.zero_add]
  repeat (first | (with_reducible refine J.is_topV q he rfl ?_) | (with_reducible refine J.is_veV q he rfl ?_) | (with_reducible refine J.is_noV q he (by decide) rfl ?_) | walk_at "js")
  rfl
abbrev s__law_stand : Stmt := top 59
theorem sc__law_stand : FnScope ["_law_errors", "_law_start", "_law_at", "_law_marks_here", "_law_k"] ["_law_errors", "_law_start"] (defScope s__law_stand) := ⟨rfl, rfl, rfl, by decide +kernel, rfl, by decide +kernel, by decide +kernel⟩
theorem ok__law_stand {f__law_stand f__law_marks f__law_is_under : Addr} {fd__law_stand fd__law_marks fd__law_is_under : FuncData} (r : Raw K mg "_law_stand" s__law_stand f__law_stand fd__law_stand) (B : Blt mg) (c__law_marks : Cal P w K mg base "_law_marks" s__law_marks 3 f__law_marks fd__law_marks ["_law_e"] (spP K 1 (F_marks K hAL))) (c__law_is_under : Cal P w K mg base "_law_is_under" s__law_is_under 3 f__law_is_under fd__law_is_under ["_law_e"] (spP K 1 (F_under K hAL))) : Cal P w K mg base "_law_stand" s__law_stand 4 f__law_stand fd__law_stand ["_law_errors", "_law_start"] (spP K 2 (F_stand K hAL)) := by
  refine ⟨?_, r.mg, r.fn.kp, r.fn.binds (fun _ _ _ _ _ _ us hl => match us, hl with | [_, _], _ => rfl), r.fn⟩
  refine r.fn.ok sc__law_stand (spP_len rfl) (fun cdv A outer s H vs Q E hr h => ?_)
  refine ⟨_, (pss_cons (ps_for PassesOwn.never rfl (pi_range1 (by rfl) B.bRange (pa_cons (pe_callB (cr_len (K := K) rfl) (by rfl) B.bLen PySem.boot_len (pa_cons (pv 0) pa_nil)) pa_nil)) (pg_name (i := 2) sc__law_stand.nd rfl (by first | exact Or.inl rfl | exact Or.inr rfl)) (pss_cons (ps_set (i := 3) sc__law_stand.nd rfl (by first | exact Or.inl rfl | exact Or.inr rfl) (pe_call c__law_marks.F (hr.mono (by decide)) (by rfl) c__law_marks.mg c__law_marks.kp c__law_marks.b .nil pass0 (pa_cons (pe_ix (ixK (K := K) rfl) (pv 0) (pv 2) (fun _ _ => rfl)) pa_nil)))
      (pss_one (ps_if (PW.pt (pw_or (pt_cmpR (neDK (K := K) rfl hr.units) (pe_lc (own := [("_law_k", 4)]) (g := gName 4) rfl sc__law_stand.nd (pi_range1 (by rfl) B.bRange (pa_cons (pe_callB (cr_len (K := K) rfl) (by rfl) B.bLen PySem.boot_len (pa_cons (pv 3) pa_nil)) pa_nil)) (blkOk_by (N := ["_law_errors", "_law_start", "_law_at", "_law_marks_here", "_law_k"]) (sc := defScope s__law_stand) (by decide +kernel)) (fun _ _ _ _ _ => pg_name (i := 4) sc__law_stand.nd rfl (by first | exact Or.inl rfl | exact Or.inr rfl)) (fun _ _ _ _ _ => pts_one (pt_cmpR op_notBl (pe_ix (ixK (K := K) rfl) (pv 3) (pv 4) (fun _ _ => rfl)) pe_bl (nomark _))) (fun _ _ _ _ _ => (pv 4))) (pe_lst (pa_cons (pe_op L2.op_add (pv 1) (pv 2)) pa_nil)) (nomark _)) (pw_or1 (pt_not (pt_val (pe_call c__law_is_under.F (hr.mono (by decide)) (by rfl) c__law_is_under.mg c__law_is_under.kp c__law_is_under.b .nil pass0 (pa_cons (pe_ix (ixK (K := K) rfl) (pv 0) (pv 2) (fun _ _ => rfl)) pa_nil))))))) (pss_one (ps_ret pe_bl)) pss_nil))))
      (pss_one (ps_ret pe_bl))), ?_⟩
  refine run_P h fun p g ds d hl hF => ?_

  obtain ⟨ys, f, s, rfl, hy, hs, rfl⟩ := hF
  have hL : hAL.length = 45 := rfl
  have hnd : hAL.Nodup := by decide +kernel
  have hlen : ys.length ≤ 45 := by
    rcases Nat.eq_zero_or_pos ys.length with h0 | h0
    · omega
    · have hk := hs (ys.length - 1) ys[ys.length - 1] (List.getElem?_eq_getElem (by omega))
      have := (List.getElem?_eq_some_iff.mp hk).1
      rw [hL] at this
      omega
  simp only [startD, List.map_cons, List.map_nil, List.length_cons, List.length_nil, List.cons_append, List.nil_append, List.replicate_succ, List.replicate_zero, Nat.reduceAdd, Nat.reduceSub, Nat.zero_add]
  repeat walk_at "js"
  refine es_forR ?_
  repeat walk_at "js"
  have hml : (ys.map f).length = ys.length := List.length_map _
  refine ⟨by omega, by omega, fun j Γ' n' => n' = 0 ∧ ∃ z2 z3 z4, Γ' = [some (.list (ys.map f)), some (.int (s : Int)), z2, z3, z4], ⟨rfl, _, _, _, rfl⟩, ?_, ?_⟩
  · rintro j Γ' n' hj ⟨rfl, z2, z3, z4, rfl⟩
    have hj2 : j < ys.length := by
      have hj' : j < (ys.map f).length := hj
      omega
    have hyj : ys[j]? = some ys[j] := List.getElem?_eq_getElem hj2
    have hym : ys[j] ∈ ys := List.getElem_mem hj2
    have hxs := hs j _ hyj
    have hxm : ys[j] ∈ sTop :: hAL := List.mem_cons_of_mem _ (List.mem_of_getElem? hxs)
    have hat : (ys.map f)[j]? = some (f ys[j]) := by rw [List.getElem?_map, hyj]; rfl
    generalize ys[j] = y at *
    repeat walk_at "js"
    refine ee_call ?_
    repeat walk_at "js"
    refine op_ixL (atI_nat hat) ?_
    repeat walk_at "js"
    refine ⟨rfl, _, ⟨y, hxm, f y, rfl, hy y hym, rfl⟩, ?_⟩
    repeat walk_at "js"
    have hm2 : (hAL.map fun y2 => PyData.bool (decide (y = y2))).length = 45 := rfl
    refine ef_ee (ef_lcR ?_)
    repeat walk_at "js"
    refine ⟨by rw [hm2]; decide, by rw [hm2]; decide, ?_⟩
    refine lcX_pick (N := 45) (fun k => decide (hAL[k]? = some y)) (by decide) (fun k hk => ?_) (fun k => ev_nl ?_) ?_
    · dsimp only [List.set_cons_zero, List.set_cons_succ]
      have hk' : k < hAL.length := by rw [hL]; exact hk
      have hkk : hAL[k]? = some hAL[k] := List.getElem?_eq_getElem hk'
      generalize hAL[k] = y2 at *
      have hak : (hAL.map fun y2 => PyData.bool (decide (y = y2)))[k]? = some (.bool (decide (y = y2))) := by rw [List.getElem?_map, hkk]; rfl
      rw [hkk]
      repeat walk_at "js"
      refine op_ixL (atI_nat hak) ?_
      repeat walk_at "js"
      refine ⟨?_, rfl⟩
      by_cases e : y = y2
      · subst e; simp
      · have e2 : ¬ y2 = y := fun z => e z.symm
        simp [e, e2]
    · repeat walk_at "js"
      exact ⟨rfl, rfl, rfl⟩
    rw [filt_one hnd hxs hL.symm]
    repeat walk_at "js"
    refine op_neI1 (by omega) ?_
    repeat walk_at "js"
    refine ee_call ?_
    repeat walk_at "js"
    refine op_ixL (atI_nat hat) ?_
    repeat walk_at "js"
    refine ⟨rfl, _, ⟨y, hxm, f y, rfl, hy y hym, rfl⟩, ?_⟩
    repeat walk_at "js"
    exact ⟨rfl, _, _, _, rfl⟩
  rintro Γ' n' ⟨rfl, z2, z3, z4, rfl⟩
  repeat walk_at "js"
  rfl
abbrev s__law_thing : Stmt := top 60
theorem sc__law_thing : FnScope ["_law_well_here", "_law_some"] ["_law_well_here"] (defScope s__law_thing) := ⟨rfl, rfl, rfl, by decide +kernel, rfl, by decide +kernel, by decide +kernel⟩
def thgs : List PyData := [.none, .bool true, .bool false, .int 0, .int (-1), .str "", .str "crank", .tuple [], .tuple [.int 1, .tuple [.int 3, .int 4]], .list [], .list [.int 1, .list [.int 2]], x1D, .tuple [.tuple [.int 0, .int 1], .none], .str "a b"]
theorem thg_of {d : PyData} (h : d ∈ thgs) : Thg d := by
  have I : ∀ i : Int, Bd 1900 i → Thg (.int i) := fun i h => .inl ⟨i, rfl, h⟩
  have S : ∀ x : Str, (reprText x).length ≤ 100 → Thg (.str x) := fun x h => .inr (.inr (.inr (.inl ⟨x, rfl, h⟩)))
  have D : ∀ d : PyData, PyProof.Rows.isDisplay d = true → Sv 3 d → Thg d := fun d h1 h2 => .inr (.inr (.inr (.inr (.inr ⟨h1, h2⟩))))
  unfold thgs at h
  simp only [List.mem_cons, List.not_mem_nil, or_false] at h
  rcases h with rfl | rfl | rfl | rfl | rfl | rfl | rfl | rfl | rfl | rfl | rfl | rfl | rfl | rfl
  · exact .inr (.inr (.inl rfl))
  · exact .inr (.inl ⟨_, rfl⟩)
  · exact .inr (.inl ⟨_, rfl⟩)
  · exact I 0 (bd_lit 1900)
  · exact I (-1) (bd_lit 1900)
  · exact S "" (by decide +kernel)
  · exact S "crank" (by decide +kernel)
  · exact D _ rfl (sv_tup sva_nil (by decide))
  · exact D _ rfl (sv_tup (sva_cons (sv_sw (by repeat' walk_at "jw") rfl) (sva_cons (sv_tup (sva_cons (sv_sw (by repeat' walk_at "jw") rfl) (sva_cons (sv_sw (by repeat' walk_at "jw") rfl) sva_nil)) (by decide)) sva_nil)) (by decide))
  · exact D _ rfl (sv_lst sva_nil (by decide))
  · exact D _ rfl (sv_lst (sva_cons (sv_sw (by repeat' walk_at "jw") rfl) (sva_cons (sv_lst (sva_cons (sv_sw (by repeat' walk_at "jw") rfl) sva_nil) (by decide)) sva_nil)) (by decide))
  · exact .inr (.inr (.inr (.inr (.inl rfl))))
  · exact D _ rfl (sv_tup (sva_cons (sv_tup (sva_cons (sv_sw (by repeat' walk_at "jw") rfl) (sva_cons (sv_sw (by repeat' walk_at "jw") rfl) sva_nil)) (by decide)) (sva_cons (sv_sw sw_none rfl) sva_nil)) (by decide))
  · exact S "a b" (by decide +kernel)
theorem ok__law_thing {f__law_thing f__law_number f__law_pick f__law_draw : Addr} {fd__law_thing fd__law_number fd__law_pick fd__law_draw : FuncData} (r : Raw K mg "_law_thing" s__law_thing f__law_thing fd__law_thing) (B : Blt mg) (c__law_number : Cal P w K mg base "_law_number" s__law_number 3 f__law_number fd__law_number ["_law_well_here"] (spW K 1 4 Pre_none P_number)) (c__law_pick : Cal P w K mg base "_law_pick" s__law_pick 2 f__law_pick fd__law_pick ["_law_well_here", "_law_some"] (spW K 2 1 Pre_pick P_pick)) (c__law_draw : Cal P w K mg base "_law_draw" s__law_draw 1 f__law_draw fd__law_draw ["_law_well_here", "_law_many"] (spW K 2 1 Pre_draw P_draw)) : Cal P w K mg base "_law_thing" s__law_thing 4 f__law_thing fd__law_thing ["_law_well_here"] (spW K 1 12 Pre_none P_thing) := by
  refine ⟨?_, r.mg, r.fn.kp, r.fn.binds (fun _ _ _ _ _ _ us hl => match us, hl with | [_], _ => rfl), r.fn⟩
  refine r.fn.ok sc__law_thing (spW_len rfl) (fun cdv A outer s H vs Q E hr h => ?_)
  refine ⟨_, (pss_cons (ps_set (i := 1) sc__law_thing.nd rfl (by first | exact Or.inl rfl | exact Or.inr rfl) (pe_tup (pa_cons pe_non (pa_cons pe_bl (pa_cons pe_bl (pa_cons pe_int (pa_cons (pe_un un_neg pe_int) (pa_cons pe_str (pa_cons pe_str (pa_cons (pe_tup pa_nil) (pa_cons (pe_tup (pa_cons pe_int (pa_cons (pe_tup (pa_cons pe_int (pa_cons pe_int pa_nil))) pa_nil))) (pa_cons (pe_lst pa_nil) (pa_cons (pe_lst (pa_cons pe_int (pa_cons (pe_lst (pa_cons pe_int pa_nil)) pa_nil))) (pa_cons (pe_disp (pps_cons pe_str pe_int pps_nil) rfl rfl (by decide) (by decide)) (pa_cons (pe_tup (pa_cons (pe_tup (pa_cons pe_int (pa_cons pe_int pa_nil))) (pa_cons pe_non pa_nil))) (pa_cons pe_str pa_nil))))))))))))))))
      (pss_one (ps_ret (pe_ifExp (pt_cmpR L2.op_eq (pe_call c__law_draw.F (hr.mono (by decide)) (by rfl) c__law_draw.mg c__law_draw.kp c__law_draw.b .nil pass0 (pa_cons (pv 0) (pa_cons pe_int pa_nil))) pe_int (nomark _)) (pe_call c__law_number.F (hr.mono (by decide)) (by rfl) c__law_number.mg c__law_number.kp c__law_number.b .nil pass0 (pa_cons (pv 0) pa_nil)) (pe_call c__law_pick.F (hr.mono (by decide)) (by rfl) c__law_pick.mg c__law_pick.kp c__law_pick.b .nil pass0 (pa_cons (pv 0) (pa_cons (pv 1) pa_nil))))))), ?_⟩
  refine run_W h fun a H0 n ds hc hl hF => ?_

  obtain rfl := hF
  simp only [startD, List.map_cons, List.map_nil, List.length_cons, List.length_nil, List.cons_append, List.nil_append, List.replicate_succ, List.replicate_zero, Nat.reduceAdd, Nat.reduceSub, Nat.zero_add]
  repeat (first | walk_at "js" | (with_reducible refine J.ee_x1 ?_))
  refine ee_callW ?_
  repeat (first | walk_at "js" | (with_reducible refine J.ee_x1 ?_))
  refine ⟨rfl, by omega, ⟨3, rfl, by decide, bd_lit 1000⟩, ?_⟩
  rintro _ ⟨m0, i0, hm0, rfl, l0, u0⟩
  obtain rfl := int_inj1 hm0
  repeat (first | walk_at "js" | (with_reducible refine J.ee_x1 ?_))
  refine ⟨fun h0 => ?_, fun h0 => ?_⟩
  · repeat (first | walk_at "js" | (with_reducible refine J.ee_x1 ?_))
    refine ee_callW ?_
    repeat (first | walk_at "js" | (with_reducible refine J.ee_x1 ?_))
    refine ⟨rfl, by omega, rfl, ?_⟩
    rintro _ ⟨i, rfl, hi⟩
    repeat (first | walk_at "js" | (with_reducible refine J.ee_x1 ?_))
    exact ⟨.inl ⟨i, rfl, hi.mono (by decide)⟩, by omega⟩
  · repeat (first | walk_at "js" | (with_reducible refine J.ee_x1 ?_))
    refine ee_callW ?_
    repeat (first | walk_at "js" | (with_reducible refine J.ee_x1 ?_))
    refine ⟨rfl, by omega, ⟨_, rfl, by simp, Nat.le_of_ble_eq_true rfl⟩, ?_⟩
    rintro d1 ⟨es1, he1, hd1⟩
    rw [← tup_inj1 he1] at hd1
    repeat (first | walk_at "js" | (with_reducible refine J.ee_x1 ?_))
    exact ⟨thg_of hd1, by omega⟩
abbrev s__law_right : Stmt := top 61
theorem sc__law_right : FnScope ["_law_well_here", "_law_base", "_law_thing_here", "_law_other", "_law_first", "_law_second", "_law_third", "_law_fourth", "_law_e"] ["_law_well_here"] (defScope s__law_right) := ⟨rfl, rfl, rfl, by decide +kernel, rfl, by decide +kernel, by decide +kernel⟩
theorem al1 {i : Nat} {y : Str} (h : hxn[i]? = some y) : hAL[0 + i]? = some y := by
  have e : ∀ i, i < 35 → hAL[0 + i]? = hxn[i]? := by decide +kernel
  rw [e i (List.getElem?_eq_some_iff.mp h).1]; exact h
theorem al2 {i : Nat} {y : Str} (h : hwn[i]? = some y) : hAL[35 + i]? = some y := by
  have e : ∀ i, i < 6 → hAL[35 + i]? = hwn[i]? := by decide +kernel
  rw [e i (List.getElem?_eq_some_iff.mp h).1]; exact h
theorem al3 {i : Nat} {y : Str} (h : hyn[i]? = some y) : hAL[41 + i]? = some y := by
  have e : ∀ i, i < 4 → hAL[41 + i]? = hyn[i]? := by decide +kernel
  rw [e i (List.getElem?_eq_some_iff.mp h).1]; exact h
theorem ok__law_right {f__law_right f__law_thing f__law_with_given f__law_with_given_named f__law_with_index f__law_with_index_named f__law_stand f__law_is_under f__law_marks f__law_bare f__law_draw : Addr} {fd__law_right fd__law_thing fd__law_with_given fd__law_with_given_named fd__law_with_index fd__law_with_index_named fd__law_stand fd__law_is_under fd__law_marks fd__law_bare fd__law_draw : FuncData} (r : Raw K mg "_law_right" s__law_right f__law_right fd__law_right) (B : Blt mg) (hsys : sysB K = true) (hE : ErrsA P w K mg base hxn hwn hyn) (c__law_thing : Cal P w K mg base "_law_thing" s__law_thing 4 f__law_thing fd__law_thing ["_law_well_here"] (spW K 1 12 Pre_none P_thing)) (c__law_with_given : Cal P w K mg base "_law_with_given" s__law_with_given 3 f__law_with_given fd__law_with_given ["_law_thing_here"] (spP K 1 (F_given K hxn sGiven))) (c__law_with_given_named : Cal P w K mg base "_law_with_given_named" s__law_with_given_named 3 f__law_with_given_named fd__law_with_given_named ["_law_thing_here"] (spP K 1 (F_given K hxn sGiven))) (c__law_with_index : Cal P w K mg base "_law_with_index" s__law_with_index 3 f__law_with_index fd__law_with_index ["_law_thing_here"] (spP K 1 (F_given K hwn sIndex))) (c__law_with_index_named : Cal P w K mg base "_law_with_index_named" s__law_with_index_named 3 f__law_with_index_named fd__law_with_index_named ["_law_thing_here"] (spP K 1 (F_given K hwn sIndex))) (c__law_stand : Cal P w K mg base "_law_stand" s__law_stand 4 f__law_stand fd__law_stand ["_law_errors", "_law_start"] (spP K 2 (F_stand K hAL))) (c__law_is_under : Cal P w K mg base "_law_is_under" s__law_is_under 3 f__law_is_under fd__law_is_under ["_law_e"] (spP K 1 (F_under K hAL))) (c__law_marks : Cal P w K mg base "_law_marks" s__law_marks 3 f__law_marks fd__law_marks ["_law_e"] (spP K 1 (F_marks K hAL))) (c__law_bare : Cal P w K mg base "_law_bare" s__law_bare 3 f__law_bare fd__law_bare [] (spP K 0 (F_bare K hyn))) (c__law_draw : Cal P w K mg base "_law_draw" s__law_draw 1 f__law_draw fd__law_draw ["_law_well_here", "_law_many"] (spW K 2 1 Pre_draw P_draw)) : CalG P w K mg base "_law_right" s__law_right 5 f__law_right fd__law_right ["_law_well_here"] (spW K 1 900 Pre_none P_true) := by
  refine ⟨?_, r.mg, r.fn.kp, r.fn.binds (fun _ _ _ _ _ _ us hl => match us, hl with | [_], _ => rfl)⟩
  refine okG r.fn sc__law_right (spW_len rfl) (fun cdv A outer s H vs Q E hA hr h => ?_)
  refine ⟨_, (pss_cons (ps_asg (pe_tup (pa_cons (pe_call c__law_thing.F (hr.mono (by decide)) (by rfl) c__law_thing.mg c__law_thing.kp c__law_thing.b .nil pass0 (pa_cons (pv 0) pa_nil)) (pa_cons (pe_call c__law_thing.F (hr.mono (by decide)) (by rfl) c__law_thing.mg c__law_thing.kp c__law_thing.b .nil pass0 (pa_cons (pv 0) pa_nil)) pa_nil))) (pgTK (K := K) rfl (pg_tup (n := 2) rfl (pgs_cons (pg_name (i := 2) sc__law_right.nd rfl (by first | exact Or.inl rfl | exact Or.inr rfl)) (pgs_cons (pg_name (i := 3) sc__law_right.nd rfl (by first | exact Or.inl rfl | exact Or.inr rfl)) pgs_nil)))))
      (pss_cons (ps_par (i := 4) (j := 5) rfl sc__law_right.nd rfl rfl (by decide) rfl rfl (pa_cons (pe_call c__law_with_given.F (hr.mono (by decide)) (by rfl) c__law_with_given.mg c__law_with_given.kp c__law_with_given.b .nil pass0 (pa_cons (pv 2) pa_nil)) (pa_cons (pe_call c__law_with_given_named.F (hr.mono (by decide)) (by rfl) c__law_with_given_named.mg c__law_with_given_named.kp c__law_with_given_named.b .nil pass0 (pa_cons (pv 3) pa_nil)) pa_nil)) rfl)
      (pss_cons (ps_par (i := 6) (j := 7) rfl sc__law_right.nd rfl rfl (by decide) rfl rfl (pa_cons (pe_call c__law_with_index.F (hr.mono (by decide)) (by rfl) c__law_with_index.mg c__law_with_index.kp c__law_with_index.b .nil pass0 (pa_cons (pv 3) pa_nil)) (pa_cons (pe_call c__law_with_index_named.F (hr.mono (by decide)) (by rfl) c__law_with_index_named.mg c__law_with_index_named.kp c__law_with_index_named.b .nil pass0 (pa_cons (pv 2) pa_nil)) pa_nil)) rfl)
      (pss_cons (ps_if (PW.pt (pw_or (pt_cmpR (neDK (K := K) rfl hr.units) (pe_lc (own := [("_law_e", 8)]) (g := gName 8) rfl sc__law_right.nd (piL (K := K) rfl (pv 4)) (blkOk_by (N := ["_law_well_here", "_law_base", "_law_thing_here", "_law_other", "_law_first", "_law_second", "_law_third", "_law_fourth", "_law_e"]) (sc := defScope s__law_right) (by decide +kernel)) (fun _ _ _ _ _ => pg_name (i := 8) sc__law_right.nd rfl (by first | exact Or.inl rfl | exact Or.inr rfl)) (fun _ _ _ _ _ => pts_one (pt_cmpR L2.op_ne (pe_callB (cr_reprE hsys (K := K) rfl hA hr.units) (by rfl) B.bRepr (by decide +kernel) (pa_cons (pe_ogK (K := K) rfl (pv 8)) pa_nil)) (pe_callB (cr_reprE hsys (K := K) rfl hA hr.units) (by rfl) B.bRepr (by decide +kernel) (pa_cons (pv 2) pa_nil)) (nomark _))) (fun _ _ _ _ _ => (pe_ogK (K := K) rfl (pv 8)))) (pe_lst pa_nil) (nomark _)) (pw_or1 (pt_cmpR L2.op_ne (pe_callB (cr_len (K := K) rfl) (by rfl) B.bLen PySem.boot_len (pa_cons (pv 4) pa_nil)) pe_int (nomark _))))) (pss_one (ps_ret pe_bl)) pss_nil)
      (pss_cons (ps_if (pt_cmpR (neDK (K := K) rfl hr.units) (pe_lc (own := [("_law_e", 8)]) (g := gName 8) rfl sc__law_right.nd (piL (K := K) rfl (pv 5)) (blkOk_by (N := ["_law_well_here", "_law_base", "_law_thing_here", "_law_other", "_law_first", "_law_second", "_law_third", "_law_fourth", "_law_e"]) (sc := defScope s__law_right) (by decide +kernel)) (fun _ _ _ _ _ => pg_name (i := 8) sc__law_right.nd rfl (by first | exact Or.inl rfl | exact Or.inr rfl)) (fun _ _ _ _ _ => pts_one (pt_cmpR L2.op_ne (pe_callB (cr_reprE hsys (K := K) rfl hA hr.units) (by rfl) B.bRepr (by decide +kernel) (pa_cons (pe_ogK (K := K) rfl (pv 8)) pa_nil)) (pe_callB (cr_reprE hsys (K := K) rfl hA hr.units) (by rfl) B.bRepr (by decide +kernel) (pa_cons (pv 3) pa_nil)) (nomark _))) (fun _ _ _ _ _ => (pe_ogK (K := K) rfl (pv 8)))) (pe_lst pa_nil) (nomark _)) (pss_one (ps_ret pe_bl)) pss_nil)
      (pss_cons (ps_if (pt_cmpR (neDK (K := K) rfl hr.units) (pe_lc (own := [("_law_e", 8)]) (g := gName 8) rfl sc__law_right.nd (piL (K := K) rfl (pv 6)) (blkOk_by (N := ["_law_well_here", "_law_base", "_law_thing_here", "_law_other", "_law_first", "_law_second", "_law_third", "_law_fourth", "_law_e"]) (sc := defScope s__law_right) (by decide +kernel)) (fun _ _ _ _ _ => pg_name (i := 8) sc__law_right.nd rfl (by first | exact Or.inl rfl | exact Or.inr rfl)) (fun _ _ _ _ _ => pts_one (pt_cmpR L2.op_ne (pe_callB (cr_reprE hsys (K := K) rfl hA hr.units) (by rfl) B.bRepr (by decide +kernel) (pa_cons (pe_ogK (K := K) rfl (pv 8)) pa_nil)) (pe_callB (cr_reprE hsys (K := K) rfl hA hr.units) (by rfl) B.bRepr (by decide +kernel) (pa_cons (pv 3) pa_nil)) (nomark _))) (fun _ _ _ _ _ => (pe_ogK (K := K) rfl (pv 8)))) (pe_lst pa_nil) (nomark _)) (pss_one (ps_ret pe_bl)) pss_nil)
      (pss_cons (ps_if (pt_cmpR (neDK (K := K) rfl hr.units) (pe_lc (own := [("_law_e", 8)]) (g := gName 8) rfl sc__law_right.nd (piL (K := K) rfl (pv 7)) (blkOk_by (N := ["_law_well_here", "_law_base", "_law_thing_here", "_law_other", "_law_first", "_law_second", "_law_third", "_law_fourth", "_law_e"]) (sc := defScope s__law_right) (by decide +kernel)) (fun _ _ _ _ _ => pg_name (i := 8) sc__law_right.nd rfl (by first | exact Or.inl rfl | exact Or.inr rfl)) (fun _ _ _ _ _ => pts_one (pt_cmpR L2.op_ne (pe_callB (cr_reprE hsys (K := K) rfl hA hr.units) (by rfl) B.bRepr (by decide +kernel) (pa_cons (pe_ogK (K := K) rfl (pv 8)) pa_nil)) (pe_callB (cr_reprE hsys (K := K) rfl hA hr.units) (by rfl) B.bRepr (by decide +kernel) (pa_cons (pv 2) pa_nil)) (nomark _))) (fun _ _ _ _ _ => (pe_ogK (K := K) rfl (pv 8)))) (pe_lst pa_nil) (nomark _)) (pss_one (ps_ret pe_bl)) pss_nil)
      (pss_cons (ps_if (pt_not (pt_val (pe_call c__law_stand.F (hr.mono (by decide)) (by rfl) c__law_stand.mg c__law_stand.kp c__law_stand.b .nil pass0 (pa_cons (pe_ifExp (pt_cmpR L2.op_eq (pe_call c__law_draw.F (hr.mono (by decide)) (by rfl) c__law_draw.mg c__law_draw.kp c__law_draw.b .nil pass0 (pa_cons (pv 0) (pa_cons pe_int pa_nil))) pe_int (nomark _)) (pv 4) (pv 5)) (pa_cons pe_int pa_nil))))) (pss_one (ps_ret pe_bl)) pss_nil)
      (pss_cons (ps_if (PW.pt (pw_or (pt_not (pt_val (pe_call c__law_stand.F (hr.mono (by decide)) (by rfl) c__law_stand.mg c__law_stand.kp c__law_stand.b .nil pass0 (pa_cons (pe_ifExp (pt_cmpR L2.op_eq (pe_call c__law_draw.F (hr.mono (by decide)) (by rfl) c__law_draw.mg c__law_draw.kp c__law_draw.b .nil pass0 (pa_cons (pv 0) (pa_cons pe_int pa_nil))) pe_int (nomark _)) (pv 6) (pv 7)) (pa_cons pe_int pa_nil))))) (pw_or1 (pt_not (pt_val (pe_call c__law_stand.F (hr.mono (by decide)) (by rfl) c__law_stand.mg c__law_stand.kp c__law_stand.b .nil pass0 (pa_cons (pe_call0 c__law_bare.F (hr.mono (by decide)) (by rfl) c__law_bare.mg c__law_bare.kp c__law_bare.b .nil pass0) (pa_cons pe_int pa_nil)))))))) (pss_one (ps_ret pe_bl)) pss_nil)
      (pss_cons (ps_set (i := 1) sc__law_right.nd rfl (by first | exact Or.inl rfl | exact Or.inr rfl) (pe_mkB PySem.F.excBase_ValueError hE.ex hE.top hE.kp (by rfl)))
      (pss_one (ps_ret (pe_and (pe_cmpR (notInTr (K := K) rfl) pe_bl (pe_call c__law_marks.F (hr.mono (by decide)) (by rfl) c__law_marks.mg c__law_marks.kp c__law_marks.b .nil pass0 (pa_cons (pv 1) pa_nil)) rfl) (pe_one (pe_call c__law_is_under.F (hr.mono (by decide)) (by rfl) c__law_is_under.mg c__law_is_under.kp c__law_is_under.b .nil pass0 (pa_cons (pv 1) pa_nil)))))))))))))))), ?_⟩
  refine run_W h fun a H0 n ds hc hl hF => ?_

  obtain rfl := hF
  simp only [startD, List.map_cons, List.map_nil, List.length_cons, List.length_nil, List.cons_append, List.nil_append, List.replicate_succ, List.replicate_zero, Nat.reduceAdd, Nat.reduceSub, Nat.zero_add]
  repeat walk_at "js"
  refine ee_callW ?_
  repeat walk_at "js"
  refine ⟨rfl, by omega, rfl, ?_⟩
  intro x hx
  repeat walk_at "js"
  refine ee_callW ?_
  repeat walk_at "js"
  refine ⟨rfl, by omega, rfl, ?_⟩
  intro y hy
  repeat walk_at "js"
  refine ee_call ?_
  repeat walk_at "js"
  refine ⟨rfl, _, ⟨x, rfl, rfl⟩, ?_⟩
  repeat walk_at "js"
  refine ee_call ?_
  repeat walk_at "js"
  refine ⟨rfl, _, ⟨y, rfl, rfl⟩, ?_⟩
  repeat walk_at "js"
  refine ⟨_, _, rfl, ?_⟩
  repeat walk_at "js"
  refine ee_call ?_
  repeat walk_at "js"
  refine ⟨rfl, _, ⟨y, rfl, rfl⟩, ?_⟩
  repeat walk_at "js"
  refine ee_call ?_
  repeat walk_at "js"
  refine ⟨rfl, _, ⟨x, rfl, rfl⟩, ?_⟩
  repeat walk_at "js"
  refine ⟨_, _, rfl, ?_⟩
  repeat walk_at "js"
  refine ee_lcL ?_
  repeat walk_at "js"
  refine lcI_none (by rw [List.length_map]; decide) ?_ ?_
  · intro z hz
    obtain ⟨c, hc, rfl⟩ := List.mem_map.mp hz
    have q := hE.q c (.tail _ (List.mem_append_left _ (List.mem_append_left _ hc)))
    dsimp only [List.set_cons_zero, List.set_cons_succ]
    repeat walk_at "js"
    refine ee_og q.xf (hE.hg c (List.mem_append_left _ (List.mem_append_left _ hc))) ?_
    repeat walk_at "js"
    refine cl_reprT hx ?_
    repeat walk_at "js"
    refine cl_reprT hx ?_
    repeat walk_at "js"
    exact ⟨by simp, rfl⟩
  repeat walk_at "js"
  refine op_neNil ?_
  repeat walk_at "js"
  have d35 : ((hxn.map fun c => erD (He.ga K c) sGiven x).length : Int) = 35 := rfl
  rw [d35]
  refine ⟨fun h => absurd h (by decide), fun _ => ?_⟩
  dsimp only [List.set_cons_zero, List.set_cons_succ]
  repeat walk_at "js"
  refine ee_lcL ?_
  repeat walk_at "js"
  refine lcI_none (by rw [List.length_map]; decide) ?_ ?_
  · intro z hz
    obtain ⟨c, hc, rfl⟩ := List.mem_map.mp hz
    have q := hE.q c (.tail _ (List.mem_append_left _ (List.mem_append_left _ hc)))
    dsimp only [List.set_cons_zero, List.set_cons_succ]
    repeat walk_at "js"
    refine ee_og q.xf (hE.hg c (List.mem_append_left _ (List.mem_append_left _ hc))) ?_
    repeat walk_at "js"
    refine cl_reprT hy ?_
    repeat walk_at "js"
    refine cl_reprT hy ?_
    repeat walk_at "js"
    exact ⟨by simp, rfl⟩
  repeat walk_at "js"
  refine op_neNil ?_
  repeat walk_at "js"
  refine ee_lcL ?_
  repeat walk_at "js"
  refine lcI_none (by rw [List.length_map]; decide) ?_ ?_
  · intro z hz
    obtain ⟨c, hc, rfl⟩ := List.mem_map.mp hz
    have q := hE.q c (.tail _ (List.mem_append_left _ (List.mem_append_right _ hc)))
    dsimp only [List.set_cons_zero, List.set_cons_succ]
    repeat walk_at "js"
    refine ee_og q.xf (hE.hi c hc) ?_
    repeat walk_at "js"
    refine cl_reprT hy ?_
    repeat walk_at "js"
    refine cl_reprT hy ?_
    repeat walk_at "js"
    exact ⟨by simp, rfl⟩
  repeat walk_at "js"
  refine op_neNil ?_
  repeat walk_at "js"
  refine ee_lcL ?_
  repeat walk_at "js"
  refine lcI_none (by rw [List.length_map]; decide) ?_ ?_
  · intro z hz
    obtain ⟨c, hc, rfl⟩ := List.mem_map.mp hz
    have q := hE.q c (.tail _ (List.mem_append_left _ (List.mem_append_right _ hc)))
    dsimp only [List.set_cons_zero, List.set_cons_succ]
    repeat walk_at "js"
    refine ee_og q.xf (hE.hi c hc) ?_
    repeat walk_at "js"
    refine cl_reprT hx ?_
    repeat walk_at "js"
    refine cl_reprT hx ?_
    repeat walk_at "js"
    exact ⟨by simp, rfl⟩
  repeat walk_at "js"
  refine op_neNil ?_
  repeat walk_at "js"
  refine ee_call ?_
  refine ea_cons ?_
  refine ee_imp (R' := fun d n1 => (∃ u, d = .list (hxn.map fun c => erD (He.ga K c) sGiven u)) ∧ n1 = n + 12 + 12 + 1) ?_ ?_
  · repeat walk_at "js"
    refine ee_callW ?_
    repeat walk_at "js"
    refine ⟨rfl, by omega, ⟨2, rfl, by decide, bd_lit 1000⟩, ?_⟩
    rintro _ ⟨m0, i0, hm0, rfl, l0, u0⟩
    repeat walk_at "js"
    refine ⟨fun _ => ?_, fun _ => ?_⟩
    · repeat walk_at "js"
      exact ⟨⟨_, rfl⟩, rfl⟩
    · repeat walk_at "js"
      exact ⟨⟨_, rfl⟩, rfl⟩
  rintro _ _ ⟨⟨u1, rfl⟩, rfl⟩
  repeat walk_at "js"
  refine ⟨rfl, _, ⟨hxn, fun c => erD (He.ga K c) sGiven u1, 0, rfl, fun y _ => .k _ _, fun i y h => al1 h, rfl⟩, ?_⟩
  repeat walk_at "js"
  refine ee_call ?_
  refine ea_cons ?_
  refine ee_imp (R' := fun d n1 => (∃ u, d = .list (hwn.map fun c => erD (He.ga K c) sIndex u)) ∧ n1 = n + 12 + 12 + 1 + 1) ?_ ?_
  · repeat walk_at "js"
    refine ee_callW ?_
    repeat walk_at "js"
    refine ⟨rfl, by omega, ⟨2, rfl, by decide, bd_lit 1000⟩, ?_⟩
    rintro _ ⟨m0, i0, hm0, rfl, l0, u0⟩
    repeat walk_at "js"
    refine ⟨fun _ => ?_, fun _ => ?_⟩
    · repeat walk_at "js"
      exact ⟨⟨_, rfl⟩, rfl⟩
    · repeat walk_at "js"
      exact ⟨⟨_, rfl⟩, rfl⟩
  rintro _ _ ⟨⟨u2, rfl⟩, rfl⟩
  repeat walk_at "js"
  refine ⟨rfl, _, ⟨hwn, fun c => erD (He.ga K c) sIndex u2, 35, rfl, fun y _ => .k _ _, fun i y h => al2 h, rfl⟩, ?_⟩
  repeat walk_at "js"
  refine ee_call ?_
  repeat walk_at "js"
  refine ee_call ?_
  repeat walk_at "js"
  refine ⟨rfl, _, ⟨rfl, rfl⟩, ?_⟩
  repeat walk_at "js"
  refine ⟨rfl, _, ⟨hyn, fun c => ebD (He.ga K c), 41, rfl, fun y _ => .b, fun i y h => al3 h, rfl⟩, ?_⟩
  repeat walk_at "js"
  refine ee_mk0 ?_
  repeat walk_at "js"
  refine ee_call ?_
  repeat walk_at "js"
  refine ⟨rfl, _, ⟨sTop, .head _, _, rfl, .b, rfl⟩, ?_⟩
  rw [show (hAL.map fun y => PyData.bool (decide (sTop = y))) = (hAL.map fun y => decide (sTop = y)).map PyData.bool from by rw [List.map_map]; rfl]
  repeat walk_at "js"
  refine op_ninTr (c := false) (by decide +kernel) ?_
  repeat walk_at "js"
  refine ee_call ?_
  repeat walk_at "js"
  refine ⟨rfl, _, ⟨sTop, .head _, _, rfl, .b, rfl⟩, ?_⟩
  repeat walk_at "js"
  exact ⟨rfl, by omega⟩
abbrev s_law : Stmt := top 62
theorem sc_law : FnScope ["_law_script", "_law_spot"] ["_law_script"] (defScope s_law) := ⟨rfl, rfl, rfl, by decide +kernel, rfl, by decide +kernel, by decide +kernel⟩
theorem ok_law {f_law f__law_right f__law_well : Addr} {fd_law fd__law_right fd__law_well : FuncData} (r : Raw K mg "law" s_law f_law fd_law) (B : Blt mg) (c__law_right : CalG P w K mg base "_law_right" s__law_right 5 f__law_right fd__law_right ["_law_well_here"] (spW K 1 900 Pre_none P_true)) (c__law_well : Cal P w K mg base "_law_well" s__law_well 1 f__law_well fd__law_well ["_law_script", "_law_spot"] (spWell K)) : CalG P w K mg base "law" s_law 6 f_law fd_law ["_law_script"] (spLaw K) := by
  refine ⟨?_, r.mg, r.fn.kp, r.fn.binds (fun _ _ _ _ _ _ us hl => match us, hl with | [_], _ => rfl)⟩
  refine okG r.fn sc_law (fun vs H Q E h => by obtain ⟨a, ns, rfl, _⟩ := h; rfl) (fun cdv A outer s H vs Q E hA hr h => ?_)
  refine ⟨_, (pss_cons (ps_for PassesOwn.never rfl (pi_range1 (by rfl) B.bRange (pa_cons pe_int pa_nil)) (pg_name (i := 1) sc_law.nd rfl (by first | exact Or.inl rfl | exact Or.inr rfl)) (pss_one (ps_if (pt_not (pt_val (pe_callG (E := E0) c__law_right.F hA (hr.mono (by decide)) (by rfl) c__law_right.mg c__law_right.kp c__law_right.b (pa_cons (pe_call c__law_well.F (hr.mono (by decide)) (by rfl) c__law_well.mg c__law_well.kp c__law_well.b .nil pass0 (pa_cons (pv 0) (pa_cons (pv 1) pa_nil))) pa_nil)))) (pss_one (ps_ret pe_bl)) pss_nil)))
      (pss_one (ps_ret pe_bl))), ?_⟩

  obtain ⟨a, ns, rfl, hS, hlen, k⟩ := h
  refine ⟨2, rfl, by decide, by decide, ?_⟩
  refine for_range (lo := 0) (n := (2 : Int).toNat) (fun j σ H2 => ∃ c : Option V, σ = [some (.ref a), c] ∧ Same H H2) ⟨none, rfl, Same.refl H⟩ ?_ ?_
  · rintro j σ H2 hj ⟨c, rfl, s2⟩
    have hj2 : j < 2 := hj
    refine ⟨.ref a, rfl, _, rfl, ?_⟩
    refine ⟨a, ns, 0 + (j : Int), rfl, s2.seq hS, hlen, by omega, by omega, fun q H3 hq s3 w3 => ?_⟩
    refine ⟨q, 0, [], by decide, w3, rfl, .cons (.well rfl) .nil, rfl, ?_⟩
    rintro d v H4 rfl f4 w4 iv
    cases iv
    refine ⟨true, rfl, ?_⟩
    refine iteF ?_
    refine ⟨_, rfl, fun b o hb => ?_⟩
    have e3 := s3 b o (s2 b o hb)
    refine f4 b o (fun e => ?_) e3
    cases e
    rw [s2 _ o hb] at hq
    cases hq
  · rintro σ H2 ⟨c, rfl, s2⟩
    exact k H2
end
theorem all_mk {P : Program} {w : World} {K : PySem.W.Frag} {h : Heap} {mg : Str → Option Value} {fa : Addr} (X : K.In h) (G : h.Ns mainGlobals mg) (hfa : mg "law" = some (.ref fa)) (c : saysJ hck hfn K) (c2 : obK hfl hwn hes K = (true, hes.map ErD.val)) (hPf : (P.main.file : Str) = hfl) (hPt : (P.main.scope.names.lookup ("super" : Str)).isSome = false) : ∃ fd : FuncData, (∀ (s : Shared) (v : Value), BindsTo s fd ⟨[v], []⟩ [("_law_script", v)]) ∧ ∀ base : Heap, K.In base → base.Ns mainGlobals mg → FnG P w K mg base 6 fa fd ["_law_script"] (spLaw K) := by
  have z_str : mg "str" = none := c.free X G (by decide +kernel)
  have z_int : mg "int" = none := c.free X G (by decide +kernel)
  have z_bool : mg "bool" = none := c.free X G (by decide +kernel)
  have z_tuple : mg "tuple" = none := c.free X G (by decide +kernel)
  have z_list : mg "list" = none := c.free X G (by decide +kernel)
  have z_len : mg "len" = none := c.free X G (by decide +kernel)
  have z_abs : mg "abs" = none := c.free X G (by decide +kernel)
  have z_min : mg "min" = none := c.free X G (by decide +kernel)
  have z_max : mg "max" = none := c.free X G (by decide +kernel)
  have z_all : mg "all" = none := c.free X G (by decide +kernel)
  have z_range : mg "range" = none := c.free X G (by decide +kernel)
  have z_isinstance : mg "isinstance" = none := c.free X G (by decide +kernel)
  have z_repr : mg "repr" = none := c.free X G (by decide +kernel)
  have z_divmod : mg "divmod" = none := c.free X G (by decide +kernel)
  have z_super : mg "super" = none := c.free X G (by decide +kernel)
  have z_ValueError : mg "ValueError" = none := c.free X G (by decide +kernel)
  have z_LookupError : mg "LookupError" = none := c.free X G (by decide +kernel)
  have z_ArithmeticError : mg "ArithmeticError" = none := c.free X G (by decide +kernel)
  have z_TypeError : mg "TypeError" = none := c.free X G (by decide +kernel)
  have z_RuntimeError : mg "RuntimeError" = none := c.free X G (by decide +kernel)
  have B : Blt mg := ⟨z_str, z_int, z_bool, z_tuple, z_list, z_len, z_abs, z_min, z_max, z_all, z_range, z_isinstance, z_repr, z_divmod⟩
  have hsys : sysB K = true := (obK_errs c2).2.2.2.1
  have hValueError := z_ValueError
  have hbL : ∀ x ∈ nots, True := fun _ _ => True.intro
  have hE : ∀ base, ErrsA P w K mg base hxn hwn hyn := fun base => by
    have hq := errsK_ok (obK_errs c2).2.1
    have hn : hes.map (·.name) = hxn ++ hwn ++ hyn := rfl
    rw [hn] at hq
    refine ⟨fun x hx => ?_, fun x hx => ?_, fun x hx => ?_, He.glo_ok X G (obK_errs c2).2.2.1, hq.1, hq.2.1, hq.2.2.1, hq.2.2.2.1, hq.2.2.2.2⟩
    · simp only [hxn, List.mem_cons, List.not_mem_nil, or_false] at hx
      rcases hx with rfl | rfl | rfl | rfl | rfl | rfl | rfl | rfl | rfl | rfl | rfl | rfl | rfl | rfl | rfl | rfl | rfl | rfl | rfl | rfl | rfl | rfl | rfl | rfl | rfl | rfl | rfl | rfl | rfl | rfl | rfl | rfl | rfl | rfl | rfl
      · exact er1_ok (d := er_InvalidForm) X G ((obK_errs c2).1 er_InvalidForm (.head _)) (map_eq_at (obK_errs c2).2.2.2.2 er_InvalidForm (.head _)) hPf ⟨hPt, by rfl, by rfl, by rfl, by rfl, by rfl, by rfl, by decide +kernel, by decide +kernel⟩ ⟨_, _, _, _, _, _, _, _, _, _, _, _, _, rfl, fun _ => rfl, fun _ => rfl, fun _ => rfl⟩ rfl rfl (by rfl) z_super (fun _ _ _ _ _ _ _ us hl => match us, hl with | [_, _], _ => rfl) (fun _ _ _ _ _ _ _ us ws h1 h2 => match us, h1, ws, h2 with | [_], _, [_], _ => rfl)
      · exact er1_ok (d := er_InvalidVector) X G ((obK_errs c2).1 er_InvalidVector (.tail _ (.head _))) (map_eq_at (obK_errs c2).2.2.2.2 er_InvalidVector (.tail _ (.head _))) hPf ⟨hPt, by rfl, by rfl, by rfl, by rfl, by rfl, by rfl, by decide +kernel, by decide +kernel⟩ ⟨_, _, _, _, _, _, _, _, _, _, _, _, _, rfl, fun _ => rfl, fun _ => rfl, fun _ => rfl⟩ rfl rfl (by rfl) z_super (fun _ _ _ _ _ _ _ us hl => match us, hl with | [_, _], _ => rfl) (fun _ _ _ _ _ _ _ us ws h1 h2 => match us, h1, ws, h2 with | [_], _, [_], _ => rfl)
      · exact er1_ok (d := er_InvalidNumber) X G ((obK_errs c2).1 er_InvalidNumber (.tail _ (.tail _ (.head _)))) (map_eq_at (obK_errs c2).2.2.2.2 er_InvalidNumber (.tail _ (.tail _ (.head _)))) hPf ⟨hPt, by rfl, by rfl, by rfl, by rfl, by rfl, by rfl, by decide +kernel, by decide +kernel⟩ ⟨_, _, _, _, _, _, _, _, _, _, _, _, _, rfl, fun _ => rfl, fun _ => rfl, fun _ => rfl⟩ rfl rfl (by rfl) z_super (fun _ _ _ _ _ _ _ us hl => match us, hl with | [_, _], _ => rfl) (fun _ _ _ _ _ _ _ us ws h1 h2 => match us, h1, ws, h2 with | [_], _, [_], _ => rfl)
      · exact er1_ok (d := er_InvalidRatio) X G ((obK_errs c2).1 er_InvalidRatio (.tail _ (.tail _ (.tail _ (.head _))))) (map_eq_at (obK_errs c2).2.2.2.2 er_InvalidRatio (.tail _ (.tail _ (.tail _ (.head _))))) hPf ⟨hPt, by rfl, by rfl, by rfl, by rfl, by rfl, by rfl, by decide +kernel, by decide +kernel⟩ ⟨_, _, _, _, _, _, _, _, _, _, _, _, _, rfl, fun _ => rfl, fun _ => rfl, fun _ => rfl⟩ rfl rfl (by rfl) z_super (fun _ _ _ _ _ _ _ us hl => match us, hl with | [_, _], _ => rfl) (fun _ _ _ _ _ _ _ us ws h1 h2 => match us, h1, ws, h2 with | [_], _, [_], _ => rfl)
      · exact er1_ok (d := er_InvalidAngle) X G ((obK_errs c2).1 er_InvalidAngle (.tail _ (.tail _ (.tail _ (.tail _ (.head _)))))) (map_eq_at (obK_errs c2).2.2.2.2 er_InvalidAngle (.tail _ (.tail _ (.tail _ (.tail _ (.head _)))))) hPf ⟨hPt, by rfl, by rfl, by rfl, by rfl, by rfl, by rfl, by decide +kernel, by decide +kernel⟩ ⟨_, _, _, _, _, _, _, _, _, _, _, _, _, rfl, fun _ => rfl, fun _ => rfl, fun _ => rfl⟩ rfl rfl (by rfl) z_super (fun _ _ _ _ _ _ _ us hl => match us, hl with | [_, _], _ => rfl) (fun _ _ _ _ _ _ _ us ws h1 h2 => match us, h1, ws, h2 with | [_], _, [_], _ => rfl)
      · exact er1_ok (d := er_InvalidWay) X G ((obK_errs c2).1 er_InvalidWay (.tail _ (.tail _ (.tail _ (.tail _ (.tail _ (.head _))))))) (map_eq_at (obK_errs c2).2.2.2.2 er_InvalidWay (.tail _ (.tail _ (.tail _ (.tail _ (.tail _ (.head _))))))) hPf ⟨hPt, by rfl, by rfl, by rfl, by rfl, by rfl, by rfl, by decide +kernel, by decide +kernel⟩ ⟨_, _, _, _, _, _, _, _, _, _, _, _, _, rfl, fun _ => rfl, fun _ => rfl, fun _ => rfl⟩ rfl rfl (by rfl) z_super (fun _ _ _ _ _ _ _ us hl => match us, hl with | [_, _], _ => rfl) (fun _ _ _ _ _ _ _ us ws h1 h2 => match us, h1, ws, h2 with | [_], _, [_], _ => rfl)
      · exact er1_ok (d := er_InvalidTurn) X G ((obK_errs c2).1 er_InvalidTurn (.tail _ (.tail _ (.tail _ (.tail _ (.tail _ (.tail _ (.head _)))))))) (map_eq_at (obK_errs c2).2.2.2.2 er_InvalidTurn (.tail _ (.tail _ (.tail _ (.tail _ (.tail _ (.tail _ (.head _)))))))) hPf ⟨hPt, by rfl, by rfl, by rfl, by rfl, by rfl, by rfl, by decide +kernel, by decide +kernel⟩ ⟨_, _, _, _, _, _, _, _, _, _, _, _, _, rfl, fun _ => rfl, fun _ => rfl, fun _ => rfl⟩ rfl rfl (by rfl) z_super (fun _ _ _ _ _ _ _ us hl => match us, hl with | [_, _], _ => rfl) (fun _ _ _ _ _ _ _ us ws h1 h2 => match us, h1, ws, h2 with | [_], _, [_], _ => rfl)
      · exact er1_ok (d := er_InvalidRegion) X G ((obK_errs c2).1 er_InvalidRegion (.tail _ (.tail _ (.tail _ (.tail _ (.tail _ (.tail _ (.tail _ (.head _))))))))) (map_eq_at (obK_errs c2).2.2.2.2 er_InvalidRegion (.tail _ (.tail _ (.tail _ (.tail _ (.tail _ (.tail _ (.tail _ (.head _))))))))) hPf ⟨hPt, by rfl, by rfl, by rfl, by rfl, by rfl, by rfl, by decide +kernel, by decide +kernel⟩ ⟨_, _, _, _, _, _, _, _, _, _, _, _, _, rfl, fun _ => rfl, fun _ => rfl, fun _ => rfl⟩ rfl rfl (by rfl) z_super (fun _ _ _ _ _ _ _ us hl => match us, hl with | [_, _], _ => rfl) (fun _ _ _ _ _ _ _ us ws h1 h2 => match us, h1, ws, h2 with | [_], _, [_], _ => rfl)
      · exact er1_ok (d := er_InvalidValve) X G ((obK_errs c2).1 er_InvalidValve (.tail _ (.tail _ (.tail _ (.tail _ (.tail _ (.tail _ (.tail _ (.tail _ (.head _)))))))))) (map_eq_at (obK_errs c2).2.2.2.2 er_InvalidValve (.tail _ (.tail _ (.tail _ (.tail _ (.tail _ (.tail _ (.tail _ (.tail _ (.head _)))))))))) hPf ⟨hPt, by rfl, by rfl, by rfl, by rfl, by rfl, by rfl, by decide +kernel, by decide +kernel⟩ ⟨_, _, _, _, _, _, _, _, _, _, _, _, _, rfl, fun _ => rfl, fun _ => rfl, fun _ => rfl⟩ rfl rfl (by rfl) z_super (fun _ _ _ _ _ _ _ us hl => match us, hl with | [_, _], _ => rfl) (fun _ _ _ _ _ _ _ us ws h1 h2 => match us, h1, ws, h2 with | [_], _, [_], _ => rfl)
      · exact er1_ok (d := er_InvalidLaps) X G ((obK_errs c2).1 er_InvalidLaps (.tail _ (.tail _ (.tail _ (.tail _ (.tail _ (.tail _ (.tail _ (.tail _ (.tail _ (.head _))))))))))) (map_eq_at (obK_errs c2).2.2.2.2 er_InvalidLaps (.tail _ (.tail _ (.tail _ (.tail _ (.tail _ (.tail _ (.tail _ (.tail _ (.tail _ (.head _))))))))))) hPf ⟨hPt, by rfl, by rfl, by rfl, by rfl, by rfl, by rfl, by decide +kernel, by decide +kernel⟩ ⟨_, _, _, _, _, _, _, _, _, _, _, _, _, rfl, fun _ => rfl, fun _ => rfl, fun _ => rfl⟩ rfl rfl (by rfl) z_super (fun _ _ _ _ _ _ _ us hl => match us, hl with | [_, _], _ => rfl) (fun _ _ _ _ _ _ _ us ws h1 h2 => match us, h1, ws, h2 with | [_], _, [_], _ => rfl)
      · exact er1_ok (d := er_InvalidPort) X G ((obK_errs c2).1 er_InvalidPort (.tail _ (.tail _ (.tail _ (.tail _ (.tail _ (.tail _ (.tail _ (.tail _ (.tail _ (.tail _ (.head _)))))))))))) (map_eq_at (obK_errs c2).2.2.2.2 er_InvalidPort (.tail _ (.tail _ (.tail _ (.tail _ (.tail _ (.tail _ (.tail _ (.tail _ (.tail _ (.tail _ (.head _)))))))))))) hPf ⟨hPt, by rfl, by rfl, by rfl, by rfl, by rfl, by rfl, by decide +kernel, by decide +kernel⟩ ⟨_, _, _, _, _, _, _, _, _, _, _, _, _, rfl, fun _ => rfl, fun _ => rfl, fun _ => rfl⟩ rfl rfl (by rfl) z_super (fun _ _ _ _ _ _ _ us hl => match us, hl with | [_, _], _ => rfl) (fun _ _ _ _ _ _ _ us ws h1 h2 => match us, h1, ws, h2 with | [_], _, [_], _ => rfl)
      · exact er1_ok (d := er_InvalidEnd) X G ((obK_errs c2).1 er_InvalidEnd (.tail _ (.tail _ (.tail _ (.tail _ (.tail _ (.tail _ (.tail _ (.tail _ (.tail _ (.tail _ (.tail _ (.head _))))))))))))) (map_eq_at (obK_errs c2).2.2.2.2 er_InvalidEnd (.tail _ (.tail _ (.tail _ (.tail _ (.tail _ (.tail _ (.tail _ (.tail _ (.tail _ (.tail _ (.tail _ (.head _))))))))))))) hPf ⟨hPt, by rfl, by rfl, by rfl, by rfl, by rfl, by rfl, by decide +kernel, by decide +kernel⟩ ⟨_, _, _, _, _, _, _, _, _, _, _, _, _, rfl, fun _ => rfl, fun _ => rfl, fun _ => rfl⟩ rfl rfl (by rfl) z_super (fun _ _ _ _ _ _ _ us hl => match us, hl with | [_, _], _ => rfl) (fun _ _ _ _ _ _ _ us ws h1 h2 => match us, h1, ws, h2 with | [_], _, [_], _ => rfl)
      · exact er1_ok (d := er_InvalidWord) X G ((obK_errs c2).1 er_InvalidWord (.tail _ (.tail _ (.tail _ (.tail _ (.tail _ (.tail _ (.tail _ (.tail _ (.tail _ (.tail _ (.tail _ (.tail _ (.head _)))))))))))))) (map_eq_at (obK_errs c2).2.2.2.2 er_InvalidWord (.tail _ (.tail _ (.tail _ (.tail _ (.tail _ (.tail _ (.tail _ (.tail _ (.tail _ (.tail _ (.tail _ (.tail _ (.head _)))))))))))))) hPf ⟨hPt, by rfl, by rfl, by rfl, by rfl, by rfl, by rfl, by decide +kernel, by decide +kernel⟩ ⟨_, _, _, _, _, _, _, _, _, _, _, _, _, rfl, fun _ => rfl, fun _ => rfl, fun _ => rfl⟩ rfl rfl (by rfl) z_super (fun _ _ _ _ _ _ _ us hl => match us, hl with | [_, _], _ => rfl) (fun _ _ _ _ _ _ _ us ws h1 h2 => match us, h1, ws, h2 with | [_], _, [_], _ => rfl)
      · exact er1_ok (d := er_InvalidRod) X G ((obK_errs c2).1 er_InvalidRod (.tail _ (.tail _ (.tail _ (.tail _ (.tail _ (.tail _ (.tail _ (.tail _ (.tail _ (.tail _ (.tail _ (.tail _ (.tail _ (.head _))))))))))))))) (map_eq_at (obK_errs c2).2.2.2.2 er_InvalidRod (.tail _ (.tail _ (.tail _ (.tail _ (.tail _ (.tail _ (.tail _ (.tail _ (.tail _ (.tail _ (.tail _ (.tail _ (.tail _ (.head _))))))))))))))) hPf ⟨hPt, by rfl, by rfl, by rfl, by rfl, by rfl, by rfl, by decide +kernel, by decide +kernel⟩ ⟨_, _, _, _, _, _, _, _, _, _, _, _, _, rfl, fun _ => rfl, fun _ => rfl, fun _ => rfl⟩ rfl rfl (by rfl) z_super (fun _ _ _ _ _ _ _ us hl => match us, hl with | [_, _], _ => rfl) (fun _ _ _ _ _ _ _ us ws h1 h2 => match us, h1, ws, h2 with | [_], _, [_], _ => rfl)
      · exact er1_ok (d := er_InvalidShare) X G ((obK_errs c2).1 er_InvalidShare (.tail _ (.tail _ (.tail _ (.tail _ (.tail _ (.tail _ (.tail _ (.tail _ (.tail _ (.tail _ (.tail _ (.tail _ (.tail _ (.tail _ (.head _)))))))))))))))) (map_eq_at (obK_errs c2).2.2.2.2 er_InvalidShare (.tail _ (.tail _ (.tail _ (.tail _ (.tail _ (.tail _ (.tail _ (.tail _ (.tail _ (.tail _ (.tail _ (.tail _ (.tail _ (.tail _ (.head _)))))))))))))))) hPf ⟨hPt, by rfl, by rfl, by rfl, by rfl, by rfl, by rfl, by decide +kernel, by decide +kernel⟩ ⟨_, _, _, _, _, _, _, _, _, _, _, _, _, rfl, fun _ => rfl, fun _ => rfl, fun _ => rfl⟩ rfl rfl (by rfl) z_super (fun _ _ _ _ _ _ _ us hl => match us, hl with | [_, _], _ => rfl) (fun _ _ _ _ _ _ _ us ws h1 h2 => match us, h1, ws, h2 with | [_], _, [_], _ => rfl)
      · exact er1_ok (d := er_InvalidStroke) X G ((obK_errs c2).1 er_InvalidStroke (.tail _ (.tail _ (.tail _ (.tail _ (.tail _ (.tail _ (.tail _ (.tail _ (.tail _ (.tail _ (.tail _ (.tail _ (.tail _ (.tail _ (.tail _ (.head _))))))))))))))))) (map_eq_at (obK_errs c2).2.2.2.2 er_InvalidStroke (.tail _ (.tail _ (.tail _ (.tail _ (.tail _ (.tail _ (.tail _ (.tail _ (.tail _ (.tail _ (.tail _ (.tail _ (.tail _ (.tail _ (.tail _ (.head _))))))))))))))))) hPf ⟨hPt, by rfl, by rfl, by rfl, by rfl, by rfl, by rfl, by decide +kernel, by decide +kernel⟩ ⟨_, _, _, _, _, _, _, _, _, _, _, _, _, rfl, fun _ => rfl, fun _ => rfl, fun _ => rfl⟩ rfl rfl (by rfl) z_super (fun _ _ _ _ _ _ _ us hl => match us, hl with | [_, _], _ => rfl) (fun _ _ _ _ _ _ _ us ws h1 h2 => match us, h1, ws, h2 with | [_], _, [_], _ => rfl)
      · exact er1_ok (d := er_InvalidPolynomial) X G ((obK_errs c2).1 er_InvalidPolynomial (.tail _ (.tail _ (.tail _ (.tail _ (.tail _ (.tail _ (.tail _ (.tail _ (.tail _ (.tail _ (.tail _ (.tail _ (.tail _ (.tail _ (.tail _ (.tail _ (.head _)))))))))))))))))) (map_eq_at (obK_errs c2).2.2.2.2 er_InvalidPolynomial (.tail _ (.tail _ (.tail _ (.tail _ (.tail _ (.tail _ (.tail _ (.tail _ (.tail _ (.tail _ (.tail _ (.tail _ (.tail _ (.tail _ (.tail _ (.tail _ (.head _)))))))))))))))))) hPf ⟨hPt, by rfl, by rfl, by rfl, by rfl, by rfl, by rfl, by decide +kernel, by decide +kernel⟩ ⟨_, _, _, _, _, _, _, _, _, _, _, _, _, rfl, fun _ => rfl, fun _ => rfl, fun _ => rfl⟩ rfl rfl (by rfl) z_super (fun _ _ _ _ _ _ _ us hl => match us, hl with | [_, _], _ => rfl) (fun _ _ _ _ _ _ _ us ws h1 h2 => match us, h1, ws, h2 with | [_], _, [_], _ => rfl)
      · exact er1_ok (d := er_InvalidPoint) X G ((obK_errs c2).1 er_InvalidPoint (.tail _ (.tail _ (.tail _ (.tail _ (.tail _ (.tail _ (.tail _ (.tail _ (.tail _ (.tail _ (.tail _ (.tail _ (.tail _ (.tail _ (.tail _ (.tail _ (.tail _ (.head _))))))))))))))))))) (map_eq_at (obK_errs c2).2.2.2.2 er_InvalidPoint (.tail _ (.tail _ (.tail _ (.tail _ (.tail _ (.tail _ (.tail _ (.tail _ (.tail _ (.tail _ (.tail _ (.tail _ (.tail _ (.tail _ (.tail _ (.tail _ (.tail _ (.head _))))))))))))))))))) hPf ⟨hPt, by rfl, by rfl, by rfl, by rfl, by rfl, by rfl, by decide +kernel, by decide +kernel⟩ ⟨_, _, _, _, _, _, _, _, _, _, _, _, _, rfl, fun _ => rfl, fun _ => rfl, fun _ => rfl⟩ rfl rfl (by rfl) z_super (fun _ _ _ _ _ _ _ us hl => match us, hl with | [_, _], _ => rfl) (fun _ _ _ _ _ _ _ us ws h1 h2 => match us, h1, ws, h2 with | [_], _, [_], _ => rfl)
      · exact er1_ok (d := er_InvalidLink) X G ((obK_errs c2).1 er_InvalidLink (.tail _ (.tail _ (.tail _ (.tail _ (.tail _ (.tail _ (.tail _ (.tail _ (.tail _ (.tail _ (.tail _ (.tail _ (.tail _ (.tail _ (.tail _ (.tail _ (.tail _ (.tail _ (.head _)))))))))))))))))))) (map_eq_at (obK_errs c2).2.2.2.2 er_InvalidLink (.tail _ (.tail _ (.tail _ (.tail _ (.tail _ (.tail _ (.tail _ (.tail _ (.tail _ (.tail _ (.tail _ (.tail _ (.tail _ (.tail _ (.tail _ (.tail _ (.tail _ (.tail _ (.head _)))))))))))))))))))) hPf ⟨hPt, by rfl, by rfl, by rfl, by rfl, by rfl, by rfl, by decide +kernel, by decide +kernel⟩ ⟨_, _, _, _, _, _, _, _, _, _, _, _, _, rfl, fun _ => rfl, fun _ => rfl, fun _ => rfl⟩ rfl rfl (by rfl) z_super (fun _ _ _ _ _ _ _ us hl => match us, hl with | [_, _], _ => rfl) (fun _ _ _ _ _ _ _ us ws h1 h2 => match us, h1, ws, h2 with | [_], _, [_], _ => rfl)
      · exact er1_ok (d := er_InvalidNotch) X G ((obK_errs c2).1 er_InvalidNotch (.tail _ (.tail _ (.tail _ (.tail _ (.tail _ (.tail _ (.tail _ (.tail _ (.tail _ (.tail _ (.tail _ (.tail _ (.tail _ (.tail _ (.tail _ (.tail _ (.tail _ (.tail _ (.tail _ (.head _))))))))))))))))))))) (map_eq_at (obK_errs c2).2.2.2.2 er_InvalidNotch (.tail _ (.tail _ (.tail _ (.tail _ (.tail _ (.tail _ (.tail _ (.tail _ (.tail _ (.tail _ (.tail _ (.tail _ (.tail _ (.tail _ (.tail _ (.tail _ (.tail _ (.tail _ (.tail _ (.head _))))))))))))))))))))) hPf ⟨hPt, by rfl, by rfl, by rfl, by rfl, by rfl, by rfl, by decide +kernel, by decide +kernel⟩ ⟨_, _, _, _, _, _, _, _, _, _, _, _, _, rfl, fun _ => rfl, fun _ => rfl, fun _ => rfl⟩ rfl rfl (by rfl) z_super (fun _ _ _ _ _ _ _ us hl => match us, hl with | [_, _], _ => rfl) (fun _ _ _ _ _ _ _ us ws h1 h2 => match us, h1, ws, h2 with | [_], _, [_], _ => rfl)
      · exact er1_ok (d := er_InvalidLot) X G ((obK_errs c2).1 er_InvalidLot (.tail _ (.tail _ (.tail _ (.tail _ (.tail _ (.tail _ (.tail _ (.tail _ (.tail _ (.tail _ (.tail _ (.tail _ (.tail _ (.tail _ (.tail _ (.tail _ (.tail _ (.tail _ (.tail _ (.tail _ (.head _)))))))))))))))))))))) (map_eq_at (obK_errs c2).2.2.2.2 er_InvalidLot (.tail _ (.tail _ (.tail _ (.tail _ (.tail _ (.tail _ (.tail _ (.tail _ (.tail _ (.tail _ (.tail _ (.tail _ (.tail _ (.tail _ (.tail _ (.tail _ (.tail _ (.tail _ (.tail _ (.tail _ (.head _)))))))))))))))))))))) hPf ⟨hPt, by rfl, by rfl, by rfl, by rfl, by rfl, by rfl, by decide +kernel, by decide +kernel⟩ ⟨_, _, _, _, _, _, _, _, _, _, _, _, _, rfl, fun _ => rfl, fun _ => rfl, fun _ => rfl⟩ rfl rfl (by rfl) z_super (fun _ _ _ _ _ _ _ us hl => match us, hl with | [_, _], _ => rfl) (fun _ _ _ _ _ _ _ us ws h1 h2 => match us, h1, ws, h2 with | [_], _, [_], _ => rfl)
      · exact er1_ok (d := er_InvalidEngine) X G ((obK_errs c2).1 er_InvalidEngine (.tail _ (.tail _ (.tail _ (.tail _ (.tail _ (.tail _ (.tail _ (.tail _ (.tail _ (.tail _ (.tail _ (.tail _ (.tail _ (.tail _ (.tail _ (.tail _ (.tail _ (.tail _ (.tail _ (.tail _ (.tail _ (.head _))))))))))))))))))))))) (map_eq_at (obK_errs c2).2.2.2.2 er_InvalidEngine (.tail _ (.tail _ (.tail _ (.tail _ (.tail _ (.tail _ (.tail _ (.tail _ (.tail _ (.tail _ (.tail _ (.tail _ (.tail _ (.tail _ (.tail _ (.tail _ (.tail _ (.tail _ (.tail _ (.tail _ (.tail _ (.head _))))))))))))))))))))))) hPf ⟨hPt, by rfl, by rfl, by rfl, by rfl, by rfl, by rfl, by decide +kernel, by decide +kernel⟩ ⟨_, _, _, _, _, _, _, _, _, _, _, _, _, rfl, fun _ => rfl, fun _ => rfl, fun _ => rfl⟩ rfl rfl (by rfl) z_super (fun _ _ _ _ _ _ _ us hl => match us, hl with | [_, _], _ => rfl) (fun _ _ _ _ _ _ _ us ws h1 h2 => match us, h1, ws, h2 with | [_], _, [_], _ => rfl)
      · exact er1_ok (d := er_InvalidSense) X G ((obK_errs c2).1 er_InvalidSense (.tail _ (.tail _ (.tail _ (.tail _ (.tail _ (.tail _ (.tail _ (.tail _ (.tail _ (.tail _ (.tail _ (.tail _ (.tail _ (.tail _ (.tail _ (.tail _ (.tail _ (.tail _ (.tail _ (.tail _ (.tail _ (.tail _ (.head _)))))))))))))))))))))))) (map_eq_at (obK_errs c2).2.2.2.2 er_InvalidSense (.tail _ (.tail _ (.tail _ (.tail _ (.tail _ (.tail _ (.tail _ (.tail _ (.tail _ (.tail _ (.tail _ (.tail _ (.tail _ (.tail _ (.tail _ (.tail _ (.tail _ (.tail _ (.tail _ (.tail _ (.tail _ (.tail _ (.head _)))))))))))))))))))))))) hPf ⟨hPt, by rfl, by rfl, by rfl, by rfl, by rfl, by rfl, by decide +kernel, by decide +kernel⟩ ⟨_, _, _, _, _, _, _, _, _, _, _, _, _, rfl, fun _ => rfl, fun _ => rfl, fun _ => rfl⟩ rfl rfl (by rfl) z_super (fun _ _ _ _ _ _ _ us hl => match us, hl with | [_, _], _ => rfl) (fun _ _ _ _ _ _ _ us ws h1 h2 => match us, h1, ws, h2 with | [_], _, [_], _ => rfl)
      · exact er1_ok (d := er_InvalidGeared) X G ((obK_errs c2).1 er_InvalidGeared (.tail _ (.tail _ (.tail _ (.tail _ (.tail _ (.tail _ (.tail _ (.tail _ (.tail _ (.tail _ (.tail _ (.tail _ (.tail _ (.tail _ (.tail _ (.tail _ (.tail _ (.tail _ (.tail _ (.tail _ (.tail _ (.tail _ (.tail _ (.head _))))))))))))))))))))))))) (map_eq_at (obK_errs c2).2.2.2.2 er_InvalidGeared (.tail _ (.tail _ (.tail _ (.tail _ (.tail _ (.tail _ (.tail _ (.tail _ (.tail _ (.tail _ (.tail _ (.tail _ (.tail _ (.tail _ (.tail _ (.tail _ (.tail _ (.tail _ (.tail _ (.tail _ (.tail _ (.tail _ (.tail _ (.head _))))))))))))))))))))))))) hPf ⟨hPt, by rfl, by rfl, by rfl, by rfl, by rfl, by rfl, by decide +kernel, by decide +kernel⟩ ⟨_, _, _, _, _, _, _, _, _, _, _, _, _, rfl, fun _ => rfl, fun _ => rfl, fun _ => rfl⟩ rfl rfl (by rfl) z_super (fun _ _ _ _ _ _ _ us hl => match us, hl with | [_, _], _ => rfl) (fun _ _ _ _ _ _ _ us ws h1 h2 => match us, h1, ws, h2 with | [_], _, [_], _ => rfl)
      · exact er1_ok (d := er_InvalidWrong) X G ((obK_errs c2).1 er_InvalidWrong (.tail _ (.tail _ (.tail _ (.tail _ (.tail _ (.tail _ (.tail _ (.tail _ (.tail _ (.tail _ (.tail _ (.tail _ (.tail _ (.tail _ (.tail _ (.tail _ (.tail _ (.tail _ (.tail _ (.tail _ (.tail _ (.tail _ (.tail _ (.tail _ (.head _)))))))))))))))))))))))))) (map_eq_at (obK_errs c2).2.2.2.2 er_InvalidWrong (.tail _ (.tail _ (.tail _ (.tail _ (.tail _ (.tail _ (.tail _ (.tail _ (.tail _ (.tail _ (.tail _ (.tail _ (.tail _ (.tail _ (.tail _ (.tail _ (.tail _ (.tail _ (.tail _ (.tail _ (.tail _ (.tail _ (.tail _ (.tail _ (.head _)))))))))))))))))))))))))) hPf ⟨hPt, by rfl, by rfl, by rfl, by rfl, by rfl, by rfl, by decide +kernel, by decide +kernel⟩ ⟨_, _, _, _, _, _, _, _, _, _, _, _, _, rfl, fun _ => rfl, fun _ => rfl, fun _ => rfl⟩ rfl rfl (by rfl) z_super (fun _ _ _ _ _ _ _ us hl => match us, hl with | [_, _], _ => rfl) (fun _ _ _ _ _ _ _ us ws h1 h2 => match us, h1, ws, h2 with | [_], _, [_], _ => rfl)
      · exact er1_ok (d := er_InvalidLook) X G ((obK_errs c2).1 er_InvalidLook (.tail _ (.tail _ (.tail _ (.tail _ (.tail _ (.tail _ (.tail _ (.tail _ (.tail _ (.tail _ (.tail _ (.tail _ (.tail _ (.tail _ (.tail _ (.tail _ (.tail _ (.tail _ (.tail _ (.tail _ (.tail _ (.tail _ (.tail _ (.tail _ (.tail _ (.head _))))))))))))))))))))))))))) (map_eq_at (obK_errs c2).2.2.2.2 er_InvalidLook (.tail _ (.tail _ (.tail _ (.tail _ (.tail _ (.tail _ (.tail _ (.tail _ (.tail _ (.tail _ (.tail _ (.tail _ (.tail _ (.tail _ (.tail _ (.tail _ (.tail _ (.tail _ (.tail _ (.tail _ (.tail _ (.tail _ (.tail _ (.tail _ (.tail _ (.head _))))))))))))))))))))))))))) hPf ⟨hPt, by rfl, by rfl, by rfl, by rfl, by rfl, by rfl, by decide +kernel, by decide +kernel⟩ ⟨_, _, _, _, _, _, _, _, _, _, _, _, _, rfl, fun _ => rfl, fun _ => rfl, fun _ => rfl⟩ rfl rfl (by rfl) z_super (fun _ _ _ _ _ _ _ us hl => match us, hl with | [_, _], _ => rfl) (fun _ _ _ _ _ _ _ us ws h1 h2 => match us, h1, ws, h2 with | [_], _, [_], _ => rfl)
      · exact er1_ok (d := er_InvalidThing) X G ((obK_errs c2).1 er_InvalidThing (.tail _ (.tail _ (.tail _ (.tail _ (.tail _ (.tail _ (.tail _ (.tail _ (.tail _ (.tail _ (.tail _ (.tail _ (.tail _ (.tail _ (.tail _ (.tail _ (.tail _ (.tail _ (.tail _ (.tail _ (.tail _ (.tail _ (.tail _ (.tail _ (.tail _ (.tail _ (.head _)))))))))))))))))))))))))))) (map_eq_at (obK_errs c2).2.2.2.2 er_InvalidThing (.tail _ (.tail _ (.tail _ (.tail _ (.tail _ (.tail _ (.tail _ (.tail _ (.tail _ (.tail _ (.tail _ (.tail _ (.tail _ (.tail _ (.tail _ (.tail _ (.tail _ (.tail _ (.tail _ (.tail _ (.tail _ (.tail _ (.tail _ (.tail _ (.tail _ (.tail _ (.head _)))))))))))))))))))))))))))) hPf ⟨hPt, by rfl, by rfl, by rfl, by rfl, by rfl, by rfl, by decide +kernel, by decide +kernel⟩ ⟨_, _, _, _, _, _, _, _, _, _, _, _, _, rfl, fun _ => rfl, fun _ => rfl, fun _ => rfl⟩ rfl rfl (by rfl) z_super (fun _ _ _ _ _ _ _ us hl => match us, hl with | [_, _], _ => rfl) (fun _ _ _ _ _ _ _ us ws h1 h2 => match us, h1, ws, h2 with | [_], _, [_], _ => rfl)
      · exact er1_ok (d := er_InvalidName) X G ((obK_errs c2).1 er_InvalidName (.tail _ (.tail _ (.tail _ (.tail _ (.tail _ (.tail _ (.tail _ (.tail _ (.tail _ (.tail _ (.tail _ (.tail _ (.tail _ (.tail _ (.tail _ (.tail _ (.tail _ (.tail _ (.tail _ (.tail _ (.tail _ (.tail _ (.tail _ (.tail _ (.tail _ (.tail _ (.tail _ (.head _))))))))))))))))))))))))))))) (map_eq_at (obK_errs c2).2.2.2.2 er_InvalidName (.tail _ (.tail _ (.tail _ (.tail _ (.tail _ (.tail _ (.tail _ (.tail _ (.tail _ (.tail _ (.tail _ (.tail _ (.tail _ (.tail _ (.tail _ (.tail _ (.tail _ (.tail _ (.tail _ (.tail _ (.tail _ (.tail _ (.tail _ (.tail _ (.tail _ (.tail _ (.tail _ (.head _))))))))))))))))))))))))))))) hPf ⟨hPt, by rfl, by rfl, by rfl, by rfl, by rfl, by rfl, by decide +kernel, by decide +kernel⟩ ⟨_, _, _, _, _, _, _, _, _, _, _, _, _, rfl, fun _ => rfl, fun _ => rfl, fun _ => rfl⟩ rfl rfl (by rfl) z_super (fun _ _ _ _ _ _ _ us hl => match us, hl with | [_, _], _ => rfl) (fun _ _ _ _ _ _ _ us ws h1 h2 => match us, h1, ws, h2 with | [_], _, [_], _ => rfl)
      · exact er1_ok (d := er_InvalidWish) X G ((obK_errs c2).1 er_InvalidWish (.tail _ (.tail _ (.tail _ (.tail _ (.tail _ (.tail _ (.tail _ (.tail _ (.tail _ (.tail _ (.tail _ (.tail _ (.tail _ (.tail _ (.tail _ (.tail _ (.tail _ (.tail _ (.tail _ (.tail _ (.tail _ (.tail _ (.tail _ (.tail _ (.tail _ (.tail _ (.tail _ (.tail _ (.head _)))))))))))))))))))))))))))))) (map_eq_at (obK_errs c2).2.2.2.2 er_InvalidWish (.tail _ (.tail _ (.tail _ (.tail _ (.tail _ (.tail _ (.tail _ (.tail _ (.tail _ (.tail _ (.tail _ (.tail _ (.tail _ (.tail _ (.tail _ (.tail _ (.tail _ (.tail _ (.tail _ (.tail _ (.tail _ (.tail _ (.tail _ (.tail _ (.tail _ (.tail _ (.tail _ (.tail _ (.head _)))))))))))))))))))))))))))))) hPf ⟨hPt, by rfl, by rfl, by rfl, by rfl, by rfl, by rfl, by decide +kernel, by decide +kernel⟩ ⟨_, _, _, _, _, _, _, _, _, _, _, _, _, rfl, fun _ => rfl, fun _ => rfl, fun _ => rfl⟩ rfl rfl (by rfl) z_super (fun _ _ _ _ _ _ _ us hl => match us, hl with | [_, _], _ => rfl) (fun _ _ _ _ _ _ _ us ws h1 h2 => match us, h1, ws, h2 with | [_], _, [_], _ => rfl)
      · exact er1_ok (d := er_InvalidIndex) X G ((obK_errs c2).1 er_InvalidIndex (.tail _ (.tail _ (.tail _ (.tail _ (.tail _ (.tail _ (.tail _ (.tail _ (.tail _ (.tail _ (.tail _ (.tail _ (.tail _ (.tail _ (.tail _ (.tail _ (.tail _ (.tail _ (.tail _ (.tail _ (.tail _ (.tail _ (.tail _ (.tail _ (.tail _ (.tail _ (.tail _ (.tail _ (.tail _ (.head _))))))))))))))))))))))))))))))) (map_eq_at (obK_errs c2).2.2.2.2 er_InvalidIndex (.tail _ (.tail _ (.tail _ (.tail _ (.tail _ (.tail _ (.tail _ (.tail _ (.tail _ (.tail _ (.tail _ (.tail _ (.tail _ (.tail _ (.tail _ (.tail _ (.tail _ (.tail _ (.tail _ (.tail _ (.tail _ (.tail _ (.tail _ (.tail _ (.tail _ (.tail _ (.tail _ (.tail _ (.tail _ (.head _))))))))))))))))))))))))))))))) hPf ⟨hPt, by rfl, by rfl, by rfl, by rfl, by rfl, by rfl, by decide +kernel, by decide +kernel⟩ ⟨_, _, _, _, _, _, _, _, _, _, _, _, _, rfl, fun _ => rfl, fun _ => rfl, fun _ => rfl⟩ rfl rfl (by rfl) z_super (fun _ _ _ _ _ _ _ us hl => match us, hl with | [_, _], _ => rfl) (fun _ _ _ _ _ _ _ us ws h1 h2 => match us, h1, ws, h2 with | [_], _, [_], _ => rfl)
      · exact er1_ok (d := er_InvalidPhrase) X G ((obK_errs c2).1 er_InvalidPhrase (.tail _ (.tail _ (.tail _ (.tail _ (.tail _ (.tail _ (.tail _ (.tail _ (.tail _ (.tail _ (.tail _ (.tail _ (.tail _ (.tail _ (.tail _ (.tail _ (.tail _ (.tail _ (.tail _ (.tail _ (.tail _ (.tail _ (.tail _ (.tail _ (.tail _ (.tail _ (.tail _ (.tail _ (.tail _ (.tail _ (.head _)))))))))))))))))))))))))))))))) (map_eq_at (obK_errs c2).2.2.2.2 er_InvalidPhrase (.tail _ (.tail _ (.tail _ (.tail _ (.tail _ (.tail _ (.tail _ (.tail _ (.tail _ (.tail _ (.tail _ (.tail _ (.tail _ (.tail _ (.tail _ (.tail _ (.tail _ (.tail _ (.tail _ (.tail _ (.tail _ (.tail _ (.tail _ (.tail _ (.tail _ (.tail _ (.tail _ (.tail _ (.tail _ (.tail _ (.head _)))))))))))))))))))))))))))))))) hPf ⟨hPt, by rfl, by rfl, by rfl, by rfl, by rfl, by rfl, by decide +kernel, by decide +kernel⟩ ⟨_, _, _, _, _, _, _, _, _, _, _, _, _, rfl, fun _ => rfl, fun _ => rfl, fun _ => rfl⟩ rfl rfl (by rfl) z_super (fun _ _ _ _ _ _ _ us hl => match us, hl with | [_, _], _ => rfl) (fun _ _ _ _ _ _ _ us ws h1 h2 => match us, h1, ws, h2 with | [_], _, [_], _ => rfl)
      · exact er1_ok (d := er_Unlike) X G ((obK_errs c2).1 er_Unlike (.tail _ (.tail _ (.tail _ (.tail _ (.tail _ (.tail _ (.tail _ (.tail _ (.tail _ (.tail _ (.tail _ (.tail _ (.tail _ (.tail _ (.tail _ (.tail _ (.tail _ (.tail _ (.tail _ (.tail _ (.tail _ (.tail _ (.tail _ (.tail _ (.tail _ (.tail _ (.tail _ (.tail _ (.tail _ (.tail _ (.tail _ (.head _))))))))))))))))))))))))))))))))) (map_eq_at (obK_errs c2).2.2.2.2 er_Unlike (.tail _ (.tail _ (.tail _ (.tail _ (.tail _ (.tail _ (.tail _ (.tail _ (.tail _ (.tail _ (.tail _ (.tail _ (.tail _ (.tail _ (.tail _ (.tail _ (.tail _ (.tail _ (.tail _ (.tail _ (.tail _ (.tail _ (.tail _ (.tail _ (.tail _ (.tail _ (.tail _ (.tail _ (.tail _ (.tail _ (.tail _ (.head _))))))))))))))))))))))))))))))))) hPf ⟨hPt, by rfl, by rfl, by rfl, by rfl, by rfl, by rfl, by decide +kernel, by decide +kernel⟩ ⟨_, _, _, _, _, _, _, _, _, _, _, _, _, rfl, fun _ => rfl, fun _ => rfl, fun _ => rfl⟩ rfl rfl (by rfl) z_super (fun _ _ _ _ _ _ _ us hl => match us, hl with | [_, _], _ => rfl) (fun _ _ _ _ _ _ _ us ws h1 h2 => match us, h1, ws, h2 with | [_], _, [_], _ => rfl)
      · exact er1_ok (d := er_Same) X G ((obK_errs c2).1 er_Same (.tail _ (.tail _ (.tail _ (.tail _ (.tail _ (.tail _ (.tail _ (.tail _ (.tail _ (.tail _ (.tail _ (.tail _ (.tail _ (.tail _ (.tail _ (.tail _ (.tail _ (.tail _ (.tail _ (.tail _ (.tail _ (.tail _ (.tail _ (.tail _ (.tail _ (.tail _ (.tail _ (.tail _ (.tail _ (.tail _ (.tail _ (.tail _ (.head _)))))))))))))))))))))))))))))))))) (map_eq_at (obK_errs c2).2.2.2.2 er_Same (.tail _ (.tail _ (.tail _ (.tail _ (.tail _ (.tail _ (.tail _ (.tail _ (.tail _ (.tail _ (.tail _ (.tail _ (.tail _ (.tail _ (.tail _ (.tail _ (.tail _ (.tail _ (.tail _ (.tail _ (.tail _ (.tail _ (.tail _ (.tail _ (.tail _ (.tail _ (.tail _ (.tail _ (.tail _ (.tail _ (.tail _ (.tail _ (.head _)))))))))))))))))))))))))))))))))) hPf ⟨hPt, by rfl, by rfl, by rfl, by rfl, by rfl, by rfl, by decide +kernel, by decide +kernel⟩ ⟨_, _, _, _, _, _, _, _, _, _, _, _, _, rfl, fun _ => rfl, fun _ => rfl, fun _ => rfl⟩ rfl rfl (by rfl) z_super (fun _ _ _ _ _ _ _ us hl => match us, hl with | [_, _], _ => rfl) (fun _ _ _ _ _ _ _ us ws h1 h2 => match us, h1, ws, h2 with | [_], _, [_], _ => rfl)
      · exact er1_ok (d := er_UnknownName) X G ((obK_errs c2).1 er_UnknownName (.tail _ (.tail _ (.tail _ (.tail _ (.tail _ (.tail _ (.tail _ (.tail _ (.tail _ (.tail _ (.tail _ (.tail _ (.tail _ (.tail _ (.tail _ (.tail _ (.tail _ (.tail _ (.tail _ (.tail _ (.tail _ (.tail _ (.tail _ (.tail _ (.tail _ (.tail _ (.tail _ (.tail _ (.tail _ (.tail _ (.tail _ (.tail _ (.tail _ (.head _))))))))))))))))))))))))))))))))))) (map_eq_at (obK_errs c2).2.2.2.2 er_UnknownName (.tail _ (.tail _ (.tail _ (.tail _ (.tail _ (.tail _ (.tail _ (.tail _ (.tail _ (.tail _ (.tail _ (.tail _ (.tail _ (.tail _ (.tail _ (.tail _ (.tail _ (.tail _ (.tail _ (.tail _ (.tail _ (.tail _ (.tail _ (.tail _ (.tail _ (.tail _ (.tail _ (.tail _ (.tail _ (.tail _ (.tail _ (.tail _ (.tail _ (.head _))))))))))))))))))))))))))))))))))) hPf ⟨hPt, by rfl, by rfl, by rfl, by rfl, by rfl, by rfl, by decide +kernel, by decide +kernel⟩ ⟨_, _, _, _, _, _, _, _, _, _, _, _, _, rfl, fun _ => rfl, fun _ => rfl, fun _ => rfl⟩ rfl rfl (by rfl) z_super (fun _ _ _ _ _ _ _ us hl => match us, hl with | [_, _], _ => rfl) (fun _ _ _ _ _ _ _ us ws h1 h2 => match us, h1, ws, h2 with | [_], _, [_], _ => rfl)
      · exact er1_ok (d := er_NotAWorkshop) X G ((obK_errs c2).1 er_NotAWorkshop (.tail _ (.tail _ (.tail _ (.tail _ (.tail _ (.tail _ (.tail _ (.tail _ (.tail _ (.tail _ (.tail _ (.tail _ (.tail _ (.tail _ (.tail _ (.tail _ (.tail _ (.tail _ (.tail _ (.tail _ (.tail _ (.tail _ (.tail _ (.tail _ (.tail _ (.tail _ (.tail _ (.tail _ (.tail _ (.tail _ (.tail _ (.tail _ (.tail _ (.tail _ (.head _)))))))))))))))))))))))))))))))))))) (map_eq_at (obK_errs c2).2.2.2.2 er_NotAWorkshop (.tail _ (.tail _ (.tail _ (.tail _ (.tail _ (.tail _ (.tail _ (.tail _ (.tail _ (.tail _ (.tail _ (.tail _ (.tail _ (.tail _ (.tail _ (.tail _ (.tail _ (.tail _ (.tail _ (.tail _ (.tail _ (.tail _ (.tail _ (.tail _ (.tail _ (.tail _ (.tail _ (.tail _ (.tail _ (.tail _ (.tail _ (.tail _ (.tail _ (.tail _ (.head _)))))))))))))))))))))))))))))))))))) hPf ⟨hPt, by rfl, by rfl, by rfl, by rfl, by rfl, by rfl, by decide +kernel, by decide +kernel⟩ ⟨_, _, _, _, _, _, _, _, _, _, _, _, _, rfl, fun _ => rfl, fun _ => rfl, fun _ => rfl⟩ rfl rfl (by rfl) z_super (fun _ _ _ _ _ _ _ us hl => match us, hl with | [_, _], _ => rfl) (fun _ _ _ _ _ _ _ us ws h1 h2 => match us, h1, ws, h2 with | [_], _, [_], _ => rfl)
    · simp only [hwn, List.mem_cons, List.not_mem_nil, or_false] at hx
      rcases hx with rfl | rfl | rfl | rfl | rfl | rfl
      · exact er2_ok (d := er_InvalidSightings) X G ((obK_errs c2).1 er_InvalidSightings (.tail _ (.tail _ (.tail _ (.tail _ (.tail _ (.tail _ (.tail _ (.tail _ (.tail _ (.tail _ (.tail _ (.tail _ (.tail _ (.tail _ (.tail _ (.tail _ (.tail _ (.tail _ (.tail _ (.tail _ (.tail _ (.tail _ (.tail _ (.tail _ (.tail _ (.tail _ (.tail _ (.tail _ (.tail _ (.tail _ (.tail _ (.tail _ (.tail _ (.tail _ (.tail _ (.head _))))))))))))))))))))))))))))))))))))) (map_eq_at (obK_errs c2).2.2.2.2 er_InvalidSightings (.tail _ (.tail _ (.tail _ (.tail _ (.tail _ (.tail _ (.tail _ (.tail _ (.tail _ (.tail _ (.tail _ (.tail _ (.tail _ (.tail _ (.tail _ (.tail _ (.tail _ (.tail _ (.tail _ (.tail _ (.tail _ (.tail _ (.tail _ (.tail _ (.tail _ (.tail _ (.tail _ (.tail _ (.tail _ (.tail _ (.tail _ (.tail _ (.tail _ (.tail _ (.tail _ (.head _))))))))))))))))))))))))))))))))))))) hPf ⟨hPt, by rfl, by rfl, by rfl, by rfl, by rfl, by rfl, by decide +kernel, by decide +kernel⟩ ⟨_, _, _, _, _, _, _, _, _, _, _, _, _, rfl, fun _ => rfl, fun _ => rfl, fun _ => rfl⟩ rfl rfl (by rfl) z_super (hq.2.2.1 _ (.head _)) (fun _ _ _ _ _ _ _ us hl => match us, hl with | [_, _], _ => rfl) (fun _ _ _ _ _ _ _ us ws h1 h2 => match us, h1, ws, h2 with | [_], _, [_], _ => rfl)
      · exact er2_ok (d := er_InvalidWrongs) X G ((obK_errs c2).1 er_InvalidWrongs (.tail _ (.tail _ (.tail _ (.tail _ (.tail _ (.tail _ (.tail _ (.tail _ (.tail _ (.tail _ (.tail _ (.tail _ (.tail _ (.tail _ (.tail _ (.tail _ (.tail _ (.tail _ (.tail _ (.tail _ (.tail _ (.tail _ (.tail _ (.tail _ (.tail _ (.tail _ (.tail _ (.tail _ (.tail _ (.tail _ (.tail _ (.tail _ (.tail _ (.tail _ (.tail _ (.tail _ (.head _)))))))))))))))))))))))))))))))))))))) (map_eq_at (obK_errs c2).2.2.2.2 er_InvalidWrongs (.tail _ (.tail _ (.tail _ (.tail _ (.tail _ (.tail _ (.tail _ (.tail _ (.tail _ (.tail _ (.tail _ (.tail _ (.tail _ (.tail _ (.tail _ (.tail _ (.tail _ (.tail _ (.tail _ (.tail _ (.tail _ (.tail _ (.tail _ (.tail _ (.tail _ (.tail _ (.tail _ (.tail _ (.tail _ (.tail _ (.tail _ (.tail _ (.tail _ (.tail _ (.tail _ (.tail _ (.head _)))))))))))))))))))))))))))))))))))))) hPf ⟨hPt, by rfl, by rfl, by rfl, by rfl, by rfl, by rfl, by decide +kernel, by decide +kernel⟩ ⟨_, _, _, _, _, _, _, _, _, _, _, _, _, rfl, fun _ => rfl, fun _ => rfl, fun _ => rfl⟩ rfl rfl (by rfl) z_super (hq.2.2.1 _ (.tail _ (.head _))) (fun _ _ _ _ _ _ _ us hl => match us, hl with | [_, _], _ => rfl) (fun _ _ _ _ _ _ _ us ws h1 h2 => match us, h1, ws, h2 with | [_], _, [_], _ => rfl)
      · exact er2_ok (d := er_InvalidLooks) X G ((obK_errs c2).1 er_InvalidLooks (.tail _ (.tail _ (.tail _ (.tail _ (.tail _ (.tail _ (.tail _ (.tail _ (.tail _ (.tail _ (.tail _ (.tail _ (.tail _ (.tail _ (.tail _ (.tail _ (.tail _ (.tail _ (.tail _ (.tail _ (.tail _ (.tail _ (.tail _ (.tail _ (.tail _ (.tail _ (.tail _ (.tail _ (.tail _ (.tail _ (.tail _ (.tail _ (.tail _ (.tail _ (.tail _ (.tail _ (.tail _ (.head _))))))))))))))))))))))))))))))))))))))) (map_eq_at (obK_errs c2).2.2.2.2 er_InvalidLooks (.tail _ (.tail _ (.tail _ (.tail _ (.tail _ (.tail _ (.tail _ (.tail _ (.tail _ (.tail _ (.tail _ (.tail _ (.tail _ (.tail _ (.tail _ (.tail _ (.tail _ (.tail _ (.tail _ (.tail _ (.tail _ (.tail _ (.tail _ (.tail _ (.tail _ (.tail _ (.tail _ (.tail _ (.tail _ (.tail _ (.tail _ (.tail _ (.tail _ (.tail _ (.tail _ (.tail _ (.tail _ (.head _))))))))))))))))))))))))))))))))))))))) hPf ⟨hPt, by rfl, by rfl, by rfl, by rfl, by rfl, by rfl, by decide +kernel, by decide +kernel⟩ ⟨_, _, _, _, _, _, _, _, _, _, _, _, _, rfl, fun _ => rfl, fun _ => rfl, fun _ => rfl⟩ rfl rfl (by rfl) z_super (hq.2.2.1 _ (.tail _ (.tail _ (.head _)))) (fun _ _ _ _ _ _ _ us hl => match us, hl with | [_, _], _ => rfl) (fun _ _ _ _ _ _ _ us ws h1 h2 => match us, h1, ws, h2 with | [_], _, [_], _ => rfl)
      · exact er2_ok (d := er_InvalidFindings) X G ((obK_errs c2).1 er_InvalidFindings (.tail _ (.tail _ (.tail _ (.tail _ (.tail _ (.tail _ (.tail _ (.tail _ (.tail _ (.tail _ (.tail _ (.tail _ (.tail _ (.tail _ (.tail _ (.tail _ (.tail _ (.tail _ (.tail _ (.tail _ (.tail _ (.tail _ (.tail _ (.tail _ (.tail _ (.tail _ (.tail _ (.tail _ (.tail _ (.tail _ (.tail _ (.tail _ (.tail _ (.tail _ (.tail _ (.tail _ (.tail _ (.tail _ (.head _)))))))))))))))))))))))))))))))))))))))) (map_eq_at (obK_errs c2).2.2.2.2 er_InvalidFindings (.tail _ (.tail _ (.tail _ (.tail _ (.tail _ (.tail _ (.tail _ (.tail _ (.tail _ (.tail _ (.tail _ (.tail _ (.tail _ (.tail _ (.tail _ (.tail _ (.tail _ (.tail _ (.tail _ (.tail _ (.tail _ (.tail _ (.tail _ (.tail _ (.tail _ (.tail _ (.tail _ (.tail _ (.tail _ (.tail _ (.tail _ (.tail _ (.tail _ (.tail _ (.tail _ (.tail _ (.tail _ (.tail _ (.head _)))))))))))))))))))))))))))))))))))))))) hPf ⟨hPt, by rfl, by rfl, by rfl, by rfl, by rfl, by rfl, by decide +kernel, by decide +kernel⟩ ⟨_, _, _, _, _, _, _, _, _, _, _, _, _, rfl, fun _ => rfl, fun _ => rfl, fun _ => rfl⟩ rfl rfl (by rfl) z_super (hq.2.2.1 _ (.tail _ (.tail _ (.tail _ (.head _))))) (fun _ _ _ _ _ _ _ us hl => match us, hl with | [_, _], _ => rfl) (fun _ _ _ _ _ _ _ us ws h1 h2 => match us, h1, ws, h2 with | [_], _, [_], _ => rfl)
      · exact er2_ok (d := er_InUse) X G ((obK_errs c2).1 er_InUse (.tail _ (.tail _ (.tail _ (.tail _ (.tail _ (.tail _ (.tail _ (.tail _ (.tail _ (.tail _ (.tail _ (.tail _ (.tail _ (.tail _ (.tail _ (.tail _ (.tail _ (.tail _ (.tail _ (.tail _ (.tail _ (.tail _ (.tail _ (.tail _ (.tail _ (.tail _ (.tail _ (.tail _ (.tail _ (.tail _ (.tail _ (.tail _ (.tail _ (.tail _ (.tail _ (.tail _ (.tail _ (.tail _ (.tail _ (.head _))))))))))))))))))))))))))))))))))))))))) (map_eq_at (obK_errs c2).2.2.2.2 er_InUse (.tail _ (.tail _ (.tail _ (.tail _ (.tail _ (.tail _ (.tail _ (.tail _ (.tail _ (.tail _ (.tail _ (.tail _ (.tail _ (.tail _ (.tail _ (.tail _ (.tail _ (.tail _ (.tail _ (.tail _ (.tail _ (.tail _ (.tail _ (.tail _ (.tail _ (.tail _ (.tail _ (.tail _ (.tail _ (.tail _ (.tail _ (.tail _ (.tail _ (.tail _ (.tail _ (.tail _ (.tail _ (.tail _ (.tail _ (.head _))))))))))))))))))))))))))))))))))))))))) hPf ⟨hPt, by rfl, by rfl, by rfl, by rfl, by rfl, by rfl, by decide +kernel, by decide +kernel⟩ ⟨_, _, _, _, _, _, _, _, _, _, _, _, _, rfl, fun _ => rfl, fun _ => rfl, fun _ => rfl⟩ rfl rfl (by rfl) z_super (hq.2.2.1 _ (.tail _ (.tail _ (.tail _ (.tail _ (.head _)))))) (fun _ _ _ _ _ _ _ us hl => match us, hl with | [_, _], _ => rfl) (fun _ _ _ _ _ _ _ us ws h1 h2 => match us, h1, ws, h2 with | [_], _, [_], _ => rfl)
      · exact er2_ok (d := er_Broken) X G ((obK_errs c2).1 er_Broken (.tail _ (.tail _ (.tail _ (.tail _ (.tail _ (.tail _ (.tail _ (.tail _ (.tail _ (.tail _ (.tail _ (.tail _ (.tail _ (.tail _ (.tail _ (.tail _ (.tail _ (.tail _ (.tail _ (.tail _ (.tail _ (.tail _ (.tail _ (.tail _ (.tail _ (.tail _ (.tail _ (.tail _ (.tail _ (.tail _ (.tail _ (.tail _ (.tail _ (.tail _ (.tail _ (.tail _ (.tail _ (.tail _ (.tail _ (.tail _ (.head _)))))))))))))))))))))))))))))))))))))))))) (map_eq_at (obK_errs c2).2.2.2.2 er_Broken (.tail _ (.tail _ (.tail _ (.tail _ (.tail _ (.tail _ (.tail _ (.tail _ (.tail _ (.tail _ (.tail _ (.tail _ (.tail _ (.tail _ (.tail _ (.tail _ (.tail _ (.tail _ (.tail _ (.tail _ (.tail _ (.tail _ (.tail _ (.tail _ (.tail _ (.tail _ (.tail _ (.tail _ (.tail _ (.tail _ (.tail _ (.tail _ (.tail _ (.tail _ (.tail _ (.tail _ (.tail _ (.tail _ (.tail _ (.tail _ (.head _)))))))))))))))))))))))))))))))))))))))))) hPf ⟨hPt, by rfl, by rfl, by rfl, by rfl, by rfl, by rfl, by decide +kernel, by decide +kernel⟩ ⟨_, _, _, _, _, _, _, _, _, _, _, _, _, rfl, fun _ => rfl, fun _ => rfl, fun _ => rfl⟩ rfl rfl (by rfl) z_super (hq.2.2.1 _ (.tail _ (.tail _ (.tail _ (.tail _ (.tail _ (.head _))))))) (fun _ _ _ _ _ _ _ us hl => match us, hl with | [_, _], _ => rfl) (fun _ _ _ _ _ _ _ us ws h1 h2 => match us, h1, ws, h2 with | [_], _, [_], _ => rfl)
    · simp only [hyn, List.mem_cons, List.not_mem_nil, or_false] at hx
      rcases hx with rfl | rfl | rfl | rfl
      · exact er3_ok (d := er_NoAngle) X G ((obK_errs c2).1 er_NoAngle (.tail _ (.tail _ (.tail _ (.tail _ (.tail _ (.tail _ (.tail _ (.tail _ (.tail _ (.tail _ (.tail _ (.tail _ (.tail _ (.tail _ (.tail _ (.tail _ (.tail _ (.tail _ (.tail _ (.tail _ (.tail _ (.tail _ (.tail _ (.tail _ (.tail _ (.tail _ (.tail _ (.tail _ (.tail _ (.tail _ (.tail _ (.tail _ (.tail _ (.tail _ (.tail _ (.tail _ (.tail _ (.tail _ (.tail _ (.tail _ (.tail _ (.head _))))))))))))))))))))))))))))))))))))))))))) (map_eq_at (obK_errs c2).2.2.2.2 er_NoAngle (.tail _ (.tail _ (.tail _ (.tail _ (.tail _ (.tail _ (.tail _ (.tail _ (.tail _ (.tail _ (.tail _ (.tail _ (.tail _ (.tail _ (.tail _ (.tail _ (.tail _ (.tail _ (.tail _ (.tail _ (.tail _ (.tail _ (.tail _ (.tail _ (.tail _ (.tail _ (.tail _ (.tail _ (.tail _ (.tail _ (.tail _ (.tail _ (.tail _ (.tail _ (.tail _ (.tail _ (.tail _ (.tail _ (.tail _ (.tail _ (.tail _ (.head _))))))))))))))))))))))))))))))))))))))))))) hPf ⟨hPt, by rfl, by rfl, by rfl, by rfl, by rfl, by rfl, by decide +kernel, by decide +kernel⟩ ⟨_, _, _, _, _, _, rfl, fun _ => rfl, fun _ => rfl⟩ rfl rfl z_super (fun _ _ _ _ _ _ _ us hl => match us, hl with | [_], _ => rfl)
      · exact er3_ok (d := er_NoFit) X G ((obK_errs c2).1 er_NoFit (.tail _ (.tail _ (.tail _ (.tail _ (.tail _ (.tail _ (.tail _ (.tail _ (.tail _ (.tail _ (.tail _ (.tail _ (.tail _ (.tail _ (.tail _ (.tail _ (.tail _ (.tail _ (.tail _ (.tail _ (.tail _ (.tail _ (.tail _ (.tail _ (.tail _ (.tail _ (.tail _ (.tail _ (.tail _ (.tail _ (.tail _ (.tail _ (.tail _ (.tail _ (.tail _ (.tail _ (.tail _ (.tail _ (.tail _ (.tail _ (.tail _ (.tail _ (.head _)))))))))))))))))))))))))))))))))))))))))))) (map_eq_at (obK_errs c2).2.2.2.2 er_NoFit (.tail _ (.tail _ (.tail _ (.tail _ (.tail _ (.tail _ (.tail _ (.tail _ (.tail _ (.tail _ (.tail _ (.tail _ (.tail _ (.tail _ (.tail _ (.tail _ (.tail _ (.tail _ (.tail _ (.tail _ (.tail _ (.tail _ (.tail _ (.tail _ (.tail _ (.tail _ (.tail _ (.tail _ (.tail _ (.tail _ (.tail _ (.tail _ (.tail _ (.tail _ (.tail _ (.tail _ (.tail _ (.tail _ (.tail _ (.tail _ (.tail _ (.tail _ (.head _)))))))))))))))))))))))))))))))))))))))))))) hPf ⟨hPt, by rfl, by rfl, by rfl, by rfl, by rfl, by rfl, by decide +kernel, by decide +kernel⟩ ⟨_, _, _, _, _, _, rfl, fun _ => rfl, fun _ => rfl⟩ rfl rfl z_super (fun _ _ _ _ _ _ _ us hl => match us, hl with | [_], _ => rfl)
      · exact er3_ok (d := er_Nought) X G ((obK_errs c2).1 er_Nought (.tail _ (.tail _ (.tail _ (.tail _ (.tail _ (.tail _ (.tail _ (.tail _ (.tail _ (.tail _ (.tail _ (.tail _ (.tail _ (.tail _ (.tail _ (.tail _ (.tail _ (.tail _ (.tail _ (.tail _ (.tail _ (.tail _ (.tail _ (.tail _ (.tail _ (.tail _ (.tail _ (.tail _ (.tail _ (.tail _ (.tail _ (.tail _ (.tail _ (.tail _ (.tail _ (.tail _ (.tail _ (.tail _ (.tail _ (.tail _ (.tail _ (.tail _ (.tail _ (.head _))))))))))))))))))))))))))))))))))))))))))))) (map_eq_at (obK_errs c2).2.2.2.2 er_Nought (.tail _ (.tail _ (.tail _ (.tail _ (.tail _ (.tail _ (.tail _ (.tail _ (.tail _ (.tail _ (.tail _ (.tail _ (.tail _ (.tail _ (.tail _ (.tail _ (.tail _ (.tail _ (.tail _ (.tail _ (.tail _ (.tail _ (.tail _ (.tail _ (.tail _ (.tail _ (.tail _ (.tail _ (.tail _ (.tail _ (.tail _ (.tail _ (.tail _ (.tail _ (.tail _ (.tail _ (.tail _ (.tail _ (.tail _ (.tail _ (.tail _ (.tail _ (.tail _ (.head _))))))))))))))))))))))))))))))))))))))))))))) hPf ⟨hPt, by rfl, by rfl, by rfl, by rfl, by rfl, by rfl, by decide +kernel, by decide +kernel⟩ ⟨_, _, _, _, _, _, rfl, fun _ => rfl, fun _ => rfl⟩ rfl rfl z_super (fun _ _ _ _ _ _ _ us hl => match us, hl with | [_], _ => rfl)
      · exact er3_ok (d := er_NothingToUndo) X G ((obK_errs c2).1 er_NothingToUndo (.tail _ (.tail _ (.tail _ (.tail _ (.tail _ (.tail _ (.tail _ (.tail _ (.tail _ (.tail _ (.tail _ (.tail _ (.tail _ (.tail _ (.tail _ (.tail _ (.tail _ (.tail _ (.tail _ (.tail _ (.tail _ (.tail _ (.tail _ (.tail _ (.tail _ (.tail _ (.tail _ (.tail _ (.tail _ (.tail _ (.tail _ (.tail _ (.tail _ (.tail _ (.tail _ (.tail _ (.tail _ (.tail _ (.tail _ (.tail _ (.tail _ (.tail _ (.tail _ (.tail _ (.head _)))))))))))))))))))))))))))))))))))))))))))))) (map_eq_at (obK_errs c2).2.2.2.2 er_NothingToUndo (.tail _ (.tail _ (.tail _ (.tail _ (.tail _ (.tail _ (.tail _ (.tail _ (.tail _ (.tail _ (.tail _ (.tail _ (.tail _ (.tail _ (.tail _ (.tail _ (.tail _ (.tail _ (.tail _ (.tail _ (.tail _ (.tail _ (.tail _ (.tail _ (.tail _ (.tail _ (.tail _ (.tail _ (.tail _ (.tail _ (.tail _ (.tail _ (.tail _ (.tail _ (.tail _ (.tail _ (.tail _ (.tail _ (.tail _ (.tail _ (.tail _ (.tail _ (.tail _ (.tail _ (.head _)))))))))))))))))))))))))))))))))))))))))))))) hPf ⟨hPt, by rfl, by rfl, by rfl, by rfl, by rfl, by rfl, by decide +kernel, by decide +kernel⟩ ⟨_, _, _, _, _, _, rfl, fun _ => rfl, fun _ => rfl⟩ rfl rfl z_super (fun _ _ _ _ _ _ _ us hl => match us, hl with | [_], _ => rfl)
  have hLookupError := z_LookupError
  have hArithmeticError := z_ArithmeticError
  have hTypeError := z_TypeError
  have hRuntimeError := z_RuntimeError
  obtain ⟨f__law_well, fd__law_well, r__law_well⟩ := c.raw X G 0 (x := "_law_well") (st := s__law_well) rfl
  obtain ⟨f__law_draw, fd__law_draw, r__law_draw⟩ := c.raw X G 1 (x := "_law_draw") (st := s__law_draw) rfl
  obtain ⟨f__law_pick, fd__law_pick, r__law_pick⟩ := c.raw X G 2 (x := "_law_pick") (st := s__law_pick) rfl
  obtain ⟨f__law_number, fd__law_number, r__law_number⟩ := c.raw X G 3 (x := "_law_number") (st := s__law_number) rfl
  obtain ⟨f__law_with_given, fd__law_with_given, r__law_with_given⟩ := c.raw X G 4 (x := "_law_with_given") (st := s__law_with_given) rfl
  obtain ⟨f__law_with_given_named, fd__law_with_given_named, r__law_with_given_named⟩ := c.raw X G 5 (x := "_law_with_given_named") (st := s__law_with_given_named) rfl
  obtain ⟨f__law_with_index, fd__law_with_index, r__law_with_index⟩ := c.raw X G 6 (x := "_law_with_index") (st := s__law_with_index) rfl
  obtain ⟨f__law_with_index_named, fd__law_with_index_named, r__law_with_index_named⟩ := c.raw X G 7 (x := "_law_with_index_named") (st := s__law_with_index_named) rfl
  obtain ⟨f__law_bare, fd__law_bare, r__law_bare⟩ := c.raw X G 8 (x := "_law_bare") (st := s__law_bare) rfl
  obtain ⟨f__law_marks, fd__law_marks, r__law_marks⟩ := c.raw X G 9 (x := "_law_marks") (st := s__law_marks) rfl
  obtain ⟨f__law_is_under, fd__law_is_under, r__law_is_under⟩ := c.raw X G 10 (x := "_law_is_under") (st := s__law_is_under) rfl
  obtain ⟨f__law_stand, fd__law_stand, r__law_stand⟩ := c.raw X G 11 (x := "_law_stand") (st := s__law_stand) rfl
  obtain ⟨f__law_thing, fd__law_thing, r__law_thing⟩ := c.raw X G 12 (x := "_law_thing") (st := s__law_thing) rfl
  obtain ⟨f__law_right, fd__law_right, r__law_right⟩ := c.raw X G 13 (x := "_law_right") (st := s__law_right) rfl
  obtain ⟨f_law, fd_law, r_law⟩ := c.raw X G 14 (x := "law") (st := s_law) rfl
  have e := hfa.symm.trans r_law.mg
  cases e
  refine ⟨fd_law, fun s v => ?_, fun base _ _ => ?_⟩
  · obtain ⟨oc, od, kV, doc, pm, an, cdv, ct, osl, e3, lk, hc⟩ := r_law.fn.ex
    subst e3
    exact .of_eq rfl
  have c__law_well := ok__law_well (P := P) (w := w) (base := base) r__law_well B 
  have c__law_draw := ok__law_draw (P := P) (w := w) (base := base) r__law_draw B 
  have c__law_pick := ok__law_pick (P := P) (w := w) (base := base) r__law_pick B c__law_draw
  have c__law_number := ok__law_number (P := P) (w := w) (base := base) r__law_number B c__law_pick c__law_draw
  have c__law_with_given := ok__law_with_given (P := P) (w := w) (base := base) r__law_with_given B (hE base) 
  have c__law_with_given_named := ok__law_with_given_named (P := P) (w := w) (base := base) r__law_with_given_named B (hE base) 
  have c__law_with_index := ok__law_with_index (P := P) (w := w) (base := base) r__law_with_index B (hE base) 
  have c__law_with_index_named := ok__law_with_index_named (P := P) (w := w) (base := base) r__law_with_index_named B (hE base) 
  have c__law_bare := ok__law_bare (P := P) (w := w) (base := base) r__law_bare B (hE base) 
  have c__law_marks := ok__law_marks (P := P) (w := w) (base := base) r__law_marks B (hE base) 
  have c__law_is_under := ok__law_is_under (P := P) (w := w) (base := base) r__law_is_under B (hE base) hValueError hLookupError hArithmeticError hTypeError hRuntimeError 
  have c__law_stand := ok__law_stand (P := P) (w := w) (base := base) r__law_stand B c__law_marks c__law_is_under
  have c__law_thing := ok__law_thing (P := P) (w := w) (base := base) r__law_thing B c__law_number c__law_pick c__law_draw
  have c__law_right := ok__law_right (P := P) (w := w) (base := base) r__law_right B hsys (hE base) c__law_thing c__law_with_given c__law_with_given_named c__law_with_index c__law_with_index_named c__law_stand c__law_is_under c__law_marks c__law_bare c__law_draw
  have c_law := ok_law (P := P) (w := w) (base := base) r_law B c__law_right c__law_well
  exact c_law.F
end J
open PySem PySem.W PySem.Calls PyProof.Rows
set_option maxRecDepth 100000 in
set_option maxHeartbeats 0 in
theorem PySem.Challenge.cw_steamlinks_k01_errors_each_of_its_own_holds : PySem.Challenge.rw_steamlinks_k01_errors_each_of_its_own.Holds := by
  w_on; o_law
  refine HandSHeadRun.head_any (r := J.hrow) (q := (PySem.W.view J.hrow.prog [62])) (H := J.hookK J.hfl J.hwn 2 J.hck J.hfn J.hes) (ob := J.hob) (M := 60000) (loose := J.hloose) (d := (HandSHeadRun.topDef J.hrow.prog 62)) (kwd := []) J.hob_eq (by kernel_rfl) (fun s => by kernel_rfl) J.hrun (by kernel_rfl) (by kernel_rfl) (by kernel_rfl) (by rfl) (by first | assumption | decide +kernel) (by decide +kernel) ⟨rfl, rfl, rfl, rfl, rfl, by decide +kernel⟩ ?hw ?hc
  case hw => w_witness2
  case hc =>
    refine J.walkJ (l := PySem.Challenge.rw_steamlinks_k01_errors_each_of_its_own) (k := 6) (x := "_law_script") rfl (by kernel_rfl) ⟨rfl, by decide, by decide⟩ ?F
    intro w mg fa h Y G hmg0
    obtain ⟨K, KX, c, c2⟩ := Y
    have hmg : mg ("law" : PySem.Str) = some (.ref fa) := by
      have e : (HandSHeadRun.topDef J.hrow.prog 62).name = ("law" : PySem.Str) := by kernel_rfl
      rw [← e]
      exact hmg0
    obtain ⟨fd, hb, hF⟩ := J.all_mk (P := (PySem.Challenge.rw_steamlinks_k01_errors_each_of_its_own).prog) (w := w) KX G hmg c c2 (by rfl) (by decide +kernel)
    exact ⟨K, fd, KX, hb, hF⟩
