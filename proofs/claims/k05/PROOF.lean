import PyProof.Rows.All
import Wide.All
import OpenK.AllK
import Wide.FinOn
import HandS.ForMost
import HandS.IsInst
import HandS.SetKeys
import HandS.Defaults
import HandS.Zip
import HandS.Wide
import HandS.SortOrd
import HandS.SortKw
import HandS.DictComp
import HandS.Walk
import HandS.More
import HandS.ListItems
import HandS.Steps
import HandS.TupAny
import HandS.Strs
import KE.KDictPairs
import KE.SortKeyHeap
import HandS.Lambda
import HandS.DictTup
import KE.SortData
import HandS.Conv
import HandS.SetBool
import HandS.Comp
import HandS.SetFor
import PySem.Challenge.RW_toldmoment_k05_whole_what_lies_under_key
import HandS.Dict
import KE.KItemsList
import HandS.DictEq
import KE.KEqDict
import HandS.Head0
import HandS.Head1
import HandS.Head2
import HandS.HeadHook1
import HandS.HeadHook2
import HandS.HeadHook3
import HandS.HeadHook4
import HandS.HeadWalk
import KE.KStateDown
set_option Elab.async false
set_option linter.all false
set_option maxRecDepth 100000
set_option maxHeartbeats 0
/-! Qa: canonical readings w*, data D, what represents data Rp, regions, slots, judgements Ev, St. -/
namespace Qq
open PySem PySem.Spec PyProof.Rows L2

/-! ### canonical readings -/
def wE (X : Cx) (e : Expr) : TE := fun σ H Q => ∃ (t : TE) (Q0 : VK), PE X e t ∧ t σ H Q0 ∧ ∀ v H', Q0 v H' → Q v H'
def wT (X : Cx) (e : Expr) : TT := fun σ H Q => ∃ (t : TT) (Q0 : Bool → Hp → Prop), PT X e t ∧ t σ H Q0 ∧ ∀ v H', Q0 v H' → Q v H'
def wA (X : Cx) (es : List Expr) : TA := fun σ H Q => ∃ (t : TA) (Q0 : List V → Hp → Prop), PA X es t ∧ t σ H Q0 ∧ ∀ v H', Q0 v H' → Q v H'
def wS (X : Cx) (st : Stmt) : TS := fun D σ H => ∃ t, PS X st t ∧ t D σ H
def wSs (X : Cx) (sts : List Stmt) : TS := fun D σ H => ∃ t, PSs X sts t ∧ t D σ H
def wG (X : Cx) (tg : Expr) : TG := fun v σ H Q => ∃ t, PG X tg t ∧ t v σ H Q
def wGs (X : Cx) (tgs : List Expr) : TGs := fun v σ H Q => ∃ t, PGs X tgs t ∧ t v σ H Q
def wI (X : Cx) (tg iter : Expr) : TI := fun σ H R => ∃ t, PI X tg iter t ∧ t σ H R
section
variable {X : Cx}
theorem wE_ok (e : Expr) : PE X e (wE X e) := ⟨fun pins s σ H Q I ⟨t, Q0, h, q, m⟩ => thn (h.run pins s σ H Q0 I q) fun u s' ⟨v, H', I', r, z⟩ => ⟨v, H', I', r, m v H' z⟩⟩
theorem wT_ok (e : Expr) : PT X e (wT X e) := ⟨fun pins s σ H Q I ⟨t, Q0, h, q, m⟩ => thn (h.run pins s σ H Q0 I q) fun u s' ⟨H', I', z⟩ => ⟨H', I', m u H' z⟩⟩
theorem wA_ok (es : List Expr) : PA X es (wA X es) := ⟨fun pos pins s σ H Q I ⟨t, Q0, h, q, m⟩ => thn (h.run pos pins s σ H Q0 I q) fun u s' ⟨v, H', I', r, z⟩ => ⟨v, H', I', r, m v H' z⟩⟩
theorem wS_ok (st : Stmt) : PS X st (wS X st) := ⟨fun pins s σ H D I ⟨t, h, q⟩ => h.run pins s σ H D I q⟩
theorem wSs_ok (st : List Stmt) : PSs X st (wSs X st) := ⟨fun pins s σ H D I ⟨t, h, q⟩ => h.run pins s σ H D I q⟩
theorem wG_ok (tg : Expr) : PG X tg (wG X tg) := ⟨fun pins s σ H v u Q I r ⟨t, h, q⟩ => h.run pins s σ H v u Q I r q⟩
theorem wGs_ok (tg : List Expr) : PGs X tg (wGs X tg) := ⟨fun pins s σ H v u Q I r ⟨t, h, q⟩ => h.run pins s σ H v u Q I r q⟩
theorem wI_ok (tg iter : Expr) : PI X tg iter (wI X tg iter) := ⟨fun pins s σ H R I ⟨t, h, q⟩ => h.run pins s σ H R I q⟩
theorem wE_of {e : Expr} {t : TE} (h : PE X e t) {σ H Q} (q : t σ H Q) : wE X e σ H Q := ⟨t, Q, h, q, fun _ _ z => z⟩
theorem wT_of {e : Expr} {t : TT} (h : PT X e t) {σ H Q} (q : t σ H Q) : wT X e σ H Q := ⟨t, Q, h, q, fun _ _ z => z⟩
theorem wA_of {e : List Expr} {t : TA} (h : PA X e t) {σ H Q} (q : t σ H Q) : wA X e σ H Q := ⟨t, Q, h, q, fun _ _ z => z⟩
theorem wS_of {e : Stmt} {t : TS} (h : PS X e t) {D σ H} (q : t D σ H) : wS X e D σ H := ⟨t, h, q⟩
theorem wSs_of {e : List Stmt} {t : TS} (h : PSs X e t) {D σ H} (q : t D σ H) : wSs X e D σ H := ⟨t, h, q⟩
theorem wG_of {e : Expr} {t : TG} (h : PG X e t) {v σ H Q} (q : t v σ H Q) : wG X e v σ H Q := ⟨t, h, q⟩
theorem wGs_of {e : List Expr} {t : TGs} (h : PGs X e t) {v σ H Q} (q : t v σ H Q) : wGs X e v σ H Q := ⟨t, h, q⟩
theorem wI_of {tg e : Expr} {t : TI} (h : PI X tg e t) {σ H R} (q : t σ H R) : wI X tg e σ H R := ⟨t, h, q⟩
theorem wE_mono {e : Expr} {σ H} {Q Q' : VK} (h : wE X e σ H Q) (m : ∀ v H', Q v H' → Q' v H') : wE X e σ H Q' := let ⟨t, Q0, a, b, c⟩ := h; ⟨t, Q0, a, b, fun v H' z => m v H' (c v H' z)⟩
theorem wT_mono {e : Expr} {σ H} {Q Q' : Bool → Hp → Prop} (h : wT X e σ H Q) (m : ∀ v H', Q v H' → Q' v H') : wT X e σ H Q' := let ⟨t, Q0, a, b, c⟩ := h; ⟨t, Q0, a, b, fun v H' z => m v H' (c v H' z)⟩
theorem wA_mono {e : List Expr} {σ H} {Q Q' : List V → Hp → Prop} (h : wA X e σ H Q) (m : ∀ v H', Q v H' → Q' v H') : wA X e σ H Q' := let ⟨t, Q0, a, b, c⟩ := h; ⟨t, Q0, a, b, fun v H' z => m v H' (c v H' z)⟩
end

section
variable {X : Cx}
/-- what an expression made may be locked for good -/
theorem wE_lock {e : Expr} {σ : L2.St} {H : Hp} {Q : VK} (h : wE X e σ H fun v H1 => Q v H1 ∨ ∃ d u, H1 d = some u ∧ Mut (some u) ∧ ∀ od, Q v (upd H1 d (.frz od u))) : wE X e σ H Q := by
  refine ⟨fun σ H Q => wE X e σ H fun v H1 => Q v H1 ∨ ∃ d u, H1 d = some u ∧ Mut (some u) ∧ ∀ od, Q v (upd H1 d (.frz od u)), Q, ⟨fun pins s σ H Q I q => ?_⟩, h, fun _ _ z => z⟩
  refine thn ((wE_ok e).run pins s σ H _ I q) fun v s1 ⟨x, H1, I1, r, z⟩ => ?_
  rcases z with z | ⟨d, u, hd, mu, z⟩
  · exact ⟨x, H1, I1, r, z⟩
  · obtain ⟨od, I2⟩ := I1.lock hd mu
    exact ⟨x, _, I2, r, z od⟩
theorem wSs_lock {sts : List Stmt} {D : Ends} {σ : L2.St} {H : Hp} (h : ∃ d u, H d = some u ∧ Mut (some u) ∧ ∀ od, wSs X sts D σ (upd H d (.frz od u))) : wSs X sts D σ H := by
  refine ⟨fun D σ H => ∃ d u, H d = some u ∧ Mut (some u) ∧ ∀ od, wSs X sts D σ (upd H d (.frz od u)), ⟨fun pins s σ H D I q => ?_⟩, h⟩
  obtain ⟨d, u, hd, mu, z⟩ := q
  obtain ⟨od, I2⟩ := I.lock hd mu
  exact (wSs_ok sts).run pins s σ _ D I2 (z od)
end
/-! ### data -/
inductive D where
  | non | bl (b : Bool) | int (i : Int) | str (s : Str) | tup (l : List D) | lst (l : List D) | dct (l : List (Key × D)) | rws (l : List D)

/-- a tuple that has no dict -/
def SqP (R : Hp) (a : Addr) (xs : List V) : Prop := ∃ o, R a = some (.frz o (.tup xs)) ∧ o.dict = none
mutual
inductive Rp (K : PySem.W.Frag) (R : Hp) : V → D → Prop
  | non : Rp K R .non .non
  | bl (b : Bool) : Rp K R (.bl b) (.bl b)
  | int (i : Int) : Rp K R (.int i) (.int i)
  | str (x : Str) : Rp K R (.str x) (.str x)
  | tup {a : Addr} {xs : List V} {ds : List D} : SqT K R a xs → RpL K R xs ds → Rp K R (.ref a) (.tup ds)
  | lst {a : Addr} {xs : List V} {ds : List D} : SqL K R a xs → RpL K R xs ds → Rp K R (.ref a) (.lst ds)
  | dct {a : Addr} {kvs : List (Key × V)} {ds : List (Key × D)} : (∃ o, R a = some (.frz o (.dK kvs))) → RpK K R kvs ds → Rp K R (.ref a) (.dct ds)
  | rws {a : Addr} {xs : List V} {ds : List D} : SqP R a xs → RpL K R xs ds → Rp K R (.ref a) (.rws ds)
inductive RpL (K : PySem.W.Frag) (R : Hp) : List V → List D → Prop
  | nil : RpL K R [] []
  | cons {v : V} {d : D} {vs : List V} {ds : List D} : Rp K R v d → RpL K R vs ds → RpL K R (v :: vs) (d :: ds)
inductive RpK (K : PySem.W.Frag) (R : Hp) : List (Key × V) → List (Key × D) → Prop
  | nil : RpK K R [] []
  | cons {k : Key} {v : V} {d : D} {vs : List (Key × V)} {ds : List (Key × D)} : Rp K R v d → RpK K R vs ds → RpK K R ((k, v) :: vs) ((k, d) :: ds)
end
section
variable {K : PySem.W.Frag} {R R' : Hp}
theorem rd_mono (e : Same R R') {a : Addr} {u : HO} (h : Rd R a u) : Rd R' a u := by
  rcases h with h | ⟨o, h⟩
  · exact .inl (e _ _ h)
  · exact .inr ⟨o, e _ _ h⟩
theorem sqT_mono (e : Same R R') {a : Addr} {xs : List V} (h : SqT K R a xs) : SqT K R' a xs := h.imp (rd_mono e) id
theorem sqL_mono (e : Same R R') {a : Addr} {xs : List V} (h : SqL K R a xs) : SqL K R' a xs := h.imp (rd_mono e) id
mutual
theorem Rp.mono (e : Same R R') : ∀ {v : V} {d : D}, Rp K R v d → Rp K R' v d
  | _, _, .non => .non
  | _, _, .bl b => .bl b
  | _, _, .int i => .int i
  | _, _, .str x => .str x
  | _, _, .tup h t => .tup (sqT_mono e h) (RpL.mono e t)
  | _, _, .lst h t => .lst (sqL_mono e h) (RpL.mono e t)
  | _, _, .dct h t => .dct (h.imp fun o z => e _ _ z) (RpK.mono e t)
  | _, _, .rws h t => .rws (h.imp fun o z => ⟨e _ _ z.1, z.2⟩) (RpL.mono e t)
theorem RpL.mono (e : Same R R') : ∀ {v : List V} {d : List D}, RpL K R v d → RpL K R' v d
  | _, _, .nil => .nil
  | _, _, .cons h t => .cons (Rp.mono e h) (RpL.mono e t)
theorem RpK.mono (e : Same R R') : ∀ {v : List (Key × V)} {d : List (Key × D)}, RpK K R v d → RpK K R' v d
  | _, _, .nil => .nil
  | _, _, .cons h t => .cons (Rp.mono e h) (RpK.mono e t)
end
theorem RpL.len : ∀ {v : List V} {d : List D}, RpL K R v d → v.length = d.length
  | _, _, .nil => rfl
  | _, _, .cons _ t => congrArg (· + 1) t.len
theorem RpK.len : ∀ {v : List (Key × V)} {d : List (Key × D)}, RpK K R v d → v.length = d.length
  | _, _, .nil => rfl
  | _, _, .cons _ t => congrArg (· + 1) t.len
theorem RpL.get : ∀ {v : List V} {d : List D} {i : Nat} {x : V}, RpL K R v d → v[i]? = some x → ∃ y, d[i]? = some y ∧ Rp K R x y
  | _, _, i, x, .nil, e => by simp at e
  | _, _, 0, x, .cons h _, e => by simp at e; subst e; exact ⟨_, rfl, h⟩
  | _, _, i + 1, x, .cons _ t, e => by simp at e; obtain ⟨y, h1, h2⟩ := t.get e; exact ⟨y, by simpa using h1, h2⟩
theorem RpL.get' : ∀ {v : List V} {d : List D} {i : Nat} {y : D}, RpL K R v d → d[i]? = some y → ∃ x, v[i]? = some x ∧ Rp K R x y
  | _, _, i, x, .nil, e => by simp at e
  | _, _, 0, x, .cons h _, e => by simp at e; subst e; exact ⟨_, rfl, h⟩
  | _, _, i + 1, x, .cons _ t, e => by simp at e; obtain ⟨y, h1, h2⟩ := t.get' e; exact ⟨y, by simpa using h1, h2⟩
theorem RpL.append : ∀ {v : List V} {d : List D} {v' : List V} {d' : List D}, RpL K R v d → RpL K R v' d' → RpL K R (v ++ v') (d ++ d')
  | _, _, _, _, .nil, t => t
  | _, _, _, _, .cons h s, t => .cons h (s.append t)
theorem RpL.take : ∀ {v : List V} {d : List D} (n : Nat), RpL K R v d → RpL K R (v.take n) (d.take n)
  | _, _, 0, _ => .nil
  | _, _, _ + 1, .nil => .nil
  | _, _, n + 1, .cons h s => .cons h (s.take n)
theorem RpL.drop : ∀ {v : List V} {d : List D} (n : Nat), RpL K R v d → RpL K R (v.drop n) (d.drop n)
  | _, _, 0, h => h
  | _, _, _ + 1, .nil => .nil
  | _, _, n + 1, .cons h s => s.drop n
theorem RpL.erase : ∀ {v : List V} {d : List D} (n : Nat), RpL K R v d → RpL K R (v.eraseIdx n) (d.eraseIdx n)
  | _, _, _, .nil => .nil
  | _, _, 0, .cons h s => s
  | _, _, n + 1, .cons h s => .cons h (s.erase n)
theorem RpK.append : ∀ {v : List (Key × V)} {d : List (Key × D)} {v' : List (Key × V)} {d' : List (Key × D)}, RpK K R v d → RpK K R v' d' → RpK K R (v ++ v') (d ++ d')
  | _, _, _, _, .nil, t => t
  | _, _, _, _, .cons h s, t => .cons h (s.append t)
theorem RpK.keys : ∀ {v : List (Key × V)} {d : List (Key × D)}, RpK K R v d → v.map (·.1) = d.map (·.1)
  | _, _, .nil => rfl
  | _, _, .cons (k := k) _ t => by rw [List.map_cons, List.map_cons, t.keys]
theorem RpK.get : ∀ {v : List (Key × V)} {d : List (Key × D)} {i : Nat} {k : Key} {x : V}, RpK K R v d → v[i]? = some (k, x) → ∃ y, d[i]? = some (k, y) ∧ Rp K R x y
  | _, _, i, k, x, .nil, e => by simp at e
  | _, _, 0, k, x, .cons h _, e => by simp at e; obtain ⟨rfl, rfl⟩ := e; exact ⟨_, rfl, h⟩
  | _, _, i + 1, k, x, .cons _ t, e => by simp at e; obtain ⟨y, h1, h2⟩ := t.get e; exact ⟨y, by simpa using h1, h2⟩
end

theorem Rp.weak {K : PySem.W.Frag} {R : Hp} {v : V} {ds : List D} (h : Rp K R v (.rws ds)) : Rp K R v (.tup ds) := by
  cases h with | rws q r => obtain ⟨o, q, _⟩ := q; exact .tup (.inl (.inr ⟨o, q⟩)) r
/-! ### dict data -/
def kD : Key → D
  | .inl i => .int i
  | .inr x => .str x
theorem rp_kV {K : PySem.W.Frag} {R : Hp} {k : Key} : Rp K R (kV k) (kD k) := by cases k <;> constructor
theorem rp_kD {K : PySem.W.Frag} {R : Hp} {k : Key} {v : V} (h : Rp K R v (kD k)) : v = kV k := by
  cases k <;> cases h <;> rfl
def getK (ds : List (Key × D)) (k : Key) : Option D := (ds.find? fun p => decide (p.1 = k)).map (·.2)
def putD (ds : List (Key × D)) (k : Key) (d : D) : List (Key × D) :=
  if (ds.any fun p => decide (p.1 = k)) = true then ds.map (fun p => if p.1 = k then (p.1, d) else p) else ds ++ [(k, d)]
def dropD (ds : List (Key × D)) (k : Key) : List (Key × D) := ds.filter fun p => decide (p.1 ≠ k)
section
variable {K : PySem.W.Frag} {R : Hp}
theorem RpK.val : ∀ {v : List (Key × V)} {d : List (Key × D)} (k : Key), RpK K R v d → (∀ x, valV v k = some x → ∃ y, getK d k = some y ∧ Rp K R x y) ∧ (valV v k = none → getK d k = none)
  | _, _, k, .nil => ⟨(fun x e => by cases e), (fun _ => rfl)⟩
  | _, _, k, .cons (k := k') (v := x') (d := d') h t => by
    by_cases e : k' = k
    · constructor
      · intro x q
        rw [valV_pos (p := (k', x')) e] at q
        cases q
        exact ⟨d', by simp [getK, e], h⟩
      · intro q
        rw [valV_pos (p := (k', x')) e] at q
        cases q
    · have ih := RpK.val k t
      rw [valV_neg (p := (k', x')) e]
      have g : ∀ ds, getK ((k', d') :: ds) k = getK ds k := fun ds => by simp [getK, List.find?_cons, e]
      rw [g]
      exact ih
theorem RpK.any : ∀ {v : List (Key × V)} {d : List (Key × D)} (k : Key), RpK K R v d → (v.any fun p => decide (p.1 = k)) = (d.any fun p => decide (p.1 = k))
  | _, _, _, .nil => rfl
  | _, _, k, .cons _ t => by rw [List.any_cons, List.any_cons, t.any k]
theorem RpK.repl : ∀ {v : List (Key × V)} {d : List (Key × D)} (k : Key), RpK K R v d → ∀ {x : V} {y : D}, Rp K R x y → RpK K R (v.map fun p => if p.1 = k then (p.1, x) else p) (d.map fun p => if p.1 = k then (p.1, y) else p)
  | _, _, _, .nil, _, _, _ => .nil
  | _, _, k, .cons (k := k') a t, x, y, r => by
    rw [List.map_cons, List.map_cons]
    by_cases e : k' = k
    · simp only [e, if_true]; exact .cons r (RpK.repl k t r)
    · simp only [e, if_false]; exact .cons a (RpK.repl k t r)
theorem RpK.put {v : List (Key × V)} {d : List (Key × D)} (k : Key) (h : RpK K R v d) {x : V} {y : D} (r : Rp K R x y) : RpK K R (putK v k x) (putD d k y) := by
  unfold putK putD
  rw [h.any k]
  split
  · exact h.repl k r
  · exact h.append (.cons r .nil)
theorem RpK.drop : ∀ {v : List (Key × V)} {d : List (Key × D)} (k : Key), RpK K R v d → RpK K R (dropK v k) (dropD d k)
  | _, _, _, .nil => .nil
  | _, _, k, .cons (k := k') a t => by
    have ih := RpK.drop k t
    unfold dropK dropD at ih ⊢
    rw [List.filter_cons, List.filter_cons]
    by_cases e : k' = k
    · simp only [e, ne_eq, not_true_eq_false, decide_false, Bool.false_eq_true, if_false]; exact ih
    · simp only [e, ne_eq, not_false_eq_true, decide_true, if_true]; exact .cons a ih
end
end Qq
/-! Qb: worlds, growth of regions, slots, states, judgements. -/
namespace Qq
open PySem PySem.Spec PyProof.Rows L2

abbrev LIM : Nat := 1000000
/-- what an expression may change: B, and what is kept of it: J (with a count) -/
structure Wd where
  B : Addr → Prop
  J : Nat → Hp → Prop
  loc : ∀ {n H H'}, J n H → (∀ b o, (B b ∨ ∃ φ, o = .ext φ) → H b = some o → H' b = some o) → J n H'
  occ : ∀ {n H b}, J n H → B b → ∃ o, H b = some o
  mono : ∀ {n m H}, J n H → n ≤ m → J m H
def W0 : Wd := ⟨fun _ => False, fun _ _ => True, fun _ _ => trivial, fun _ h => h.elim, fun _ _ => trivial⟩

structure Gr (W : Wd) (R H R' H' : Hp) : Prop where
  hh : ∀ b o, ¬ W.B b → H b = some o → H' b = some o
  hb : ∀ b o, H b = some o → ∃ o', H' b = some o'
  rr : Same R R'
  rh : Same R' H'
  nw : ∀ b o, H b = some o → R b = none → R' b = none
section
variable {W : Wd} {R H R1 H1 R2 H2 : Hp}
theorem Gr.refl (h : Same R H) : Gr W R H R H := ⟨fun _ _ _ h => h, fun _ o h => ⟨o, h⟩, Same.refl R, h, fun _ _ _ h => h⟩
theorem Gr.trans (a : Gr W R H R1 H1) (b : Gr W R1 H1 R2 H2) : Gr W R H R2 H2 where
  hh := fun c o n h => b.hh c o n (a.hh c o n h)
  hb := fun c o h => let ⟨o', h'⟩ := a.hb c o h; b.hb c o' h'
  rr := a.rr.trans b.rr
  rh := b.rh
  nw := fun c o h n => let ⟨o', h'⟩ := a.hb c o h; b.nw c o' h' (a.nw c o h n)
theorem Gr.of0 (a : Gr W0 R H R1 H1) : Gr W R H R1 H1 := ⟨fun c o _ h => a.hh c o (fun z => z) h, a.hb, a.rr, a.rh, a.nw⟩
/-- a new object in the region -/
theorem Gr.new {p : Addr} {o : HO} (h : Same R H) (n : H p = none) : Gr W R H (upd R p o) (upd H p o) := by
  have rn : R p = none := h.free n
  refine ⟨fun b u _ e => ?_, fun b u e => ⟨u, ?_⟩, fun b u e => ?_, fun b u e => ?_, fun b u e z => ?_⟩
  · rw [upd_ne (ne_of_none e n)]; exact e
  · rw [upd_ne (ne_of_none e n)]; exact e
  · rw [upd_ne (ne_of_none e rn)]; exact e
  · by_cases q : b = p
    · subst q; rw [upd_same] at e ⊢; exact e
    · rw [upd_ne q] at e ⊢; exact h b u e
  · rw [upd_ne (ne_of_none e n)]; exact z
/-- a new object outside of the region -/
theorem Gr.newM {p : Addr} {o : HO} (h : Same R H) (n : H p = none) : Gr W R H R (upd H p o) := by
  refine ⟨fun b u _ e => ?_, fun b u e => ⟨u, ?_⟩, Same.refl R, fun b u e => ?_, fun b u e z => z⟩
  · rw [upd_ne (ne_of_none e n)]; exact e
  · rw [upd_ne (ne_of_none e n)]; exact e
  · rw [upd_ne (ne_of_none (h b u e) n)]; exact h b u e
/-- an object that the beginning did not know, and that is not in the region, changes -/
theorem Gr.mut {p : Addr} {o : HO} (g : Gr W R H R1 H1) (n : H p = none) (rn : R1 p = none) : Gr W R H R1 (upd H1 p o) := by
  refine ⟨fun b u nb e => ?_, fun b u e => ?_, g.rr, fun b u e => ?_, g.nw⟩
  · rw [upd_ne (ne_of_none e n)]; exact g.hh b u nb e
  · rw [upd_ne (ne_of_none e n)]; exact g.hb b u e
  · rw [upd_ne (ne_of_none e rn)]; exact g.rh b u e
/-- such an object is taken into the region -/
theorem Gr.freeze {p : Addr} {o : HO} (g : Gr W R H R1 H1) (n : H p = none) (h : H1 p = some o) : Gr W R H (upd R1 p o) H1 := by
  refine ⟨g.hh, g.hb, fun b u e => ?_, fun b u e => ?_, fun b u e z => ?_⟩
  · by_cases q : b = p
    · subst q
      have := g.rh b u (g.rr b u e)
      rw [h] at this; cases this
      exact upd_same
    · rw [upd_ne q]; exact g.rr b u e
  · by_cases q : b = p
    · subst q; rw [upd_same] at e; cases e; exact h
    · rw [upd_ne q] at e; exact g.rh b u e
  · rw [upd_ne (ne_of_none e n)]; exact g.nw b u e z
/-- .. and locked -/
theorem Gr.mfz {p : Addr} {o : HO} (g : Gr W R H R1 H1) (n : H p = none) (rn : R1 p = none) : Gr W R H (upd R1 p o) (upd H1 p o) := by
  have rn0 : ∀ b u, R b = some u → b ≠ p := fun b u e z => by have := g.rr b u e; rw [z, rn] at this; cases this
  refine ⟨fun b u nb e => by rw [upd_ne (ne_of_none e n)]; exact g.hh b u nb e, fun b u e => by rw [upd_ne (ne_of_none e n)]; exact g.hb b u e, fun b u e => by rw [upd_ne (rn0 b u e)]; exact g.rr b u e, fun b u e => ?_, fun b u e z => by rw [upd_ne (ne_of_none e n)]; exact g.nw b u e z⟩
  by_cases q : b = p
  · subst q; rw [upd_same] at e ⊢; exact e
  · rw [upd_ne q] at e ⊢; exact g.rh b u e
theorem Gr.j (g : Gr W0 R H R1 H1) {n : Nat} (h : W.J n H) : W.J n H1 := W.loc h fun b o _ e => g.hh b o (fun z => z) e
theorem Same.freeze {p : Addr} {o : HO} (rn : R p = none) : Same R (upd R p o) := fun b u e => by rw [upd_ne (ne_of_none e rn)]; exact e
end

/-! ### slots -/
inductive Sl where
  | un | dat (d : D) | ml (ds : List D) | md (ds : List (Key × D)) | at_ (a : Addr)
def Sl.isM : Sl → Bool
  | .ml _ => true
  | .md _ => true
  | _ => false
/-- what a slot's value is; H0: the heap at the def's entry -/
def SlOk (K : PySem.W.Frag) (W : Wd) (H0 R H : Hp) (o : Option V) : Sl → Prop
  | .un => True
  | .dat d => ∃ v, o = some v ∧ Rp K R v d
  | .ml ds => ∃ p xs, o = some (.ref p) ∧ R p = none ∧ H0 p = none ∧ ¬ W.B p ∧ H p = some (.lst xs) ∧ RpL K R xs ds
  | .md ds => ∃ p xs, o = some (.ref p) ∧ R p = none ∧ H0 p = none ∧ ¬ W.B p ∧ H p = some (.dK xs) ∧ RpK K R xs ds
  | .at_ a => o = some (.ref a)
theorem SlOk.noext {K : PySem.W.Frag} {W : Wd} {H0 R H : Hp} {p : Addr} {sl : Sl} (hm : sl.isM = true) (h : SlOk K W H0 R H (some (.ref p)) sl) : ∀ φ, H p ≠ some (.ext φ) := fun φ e => by
  cases sl with
  | ml ds => obtain ⟨p', xs, e', _, _, _, h', _⟩ := h; cases e'; rw [e] at h'; cases h'
  | md ds => obtain ⟨p', xs, e', _, _, _, h', _⟩ := h; cases e'; rw [e] at h'; cases h'
  | _ => cases hm
structure Env' (K : PySem.W.Frag) (W : Wd) (H0 R H : Hp) (σ : L2.St) (Γ : List Sl) : Prop where
  len : σ.length = Γ.length
  ok : ∀ (i : Nat) (s : Sl) (o : Option V), Γ[i]? = some s → σ[i]? = some o → SlOk K W H0 R H o s
  dis : ∀ (i j : Nat) (s t : Sl) (p : Addr), Γ[i]? = some s → Γ[j]? = some t → s.isM = true → t.isM = true → σ[i]? = some (some (.ref p)) → σ[j]? = some (some (.ref p)) → i = j
/-- the state -/
structure So (W : Wd) (K : PySem.W.Frag) (R0 H0 Rl : Hp) (Γ : List Sl) (R : Hp) (n : Nat) (σ : L2.St) (H : Hp) : Prop where
  gr : Gr W R0 H0 R H
  lo : Same Rl R
  rb : ∀ b, W.B b → R b = none
  j : W.J n H
  env : Env' K W H0 R H σ Γ
section
variable {W : Wd} {K : PySem.W.Frag} {R0 H0 Rl R H R' H' : Hp} {Γ : List Sl} {n m : Nat} {σ : L2.St}
theorem SlOk.grow {o : Option V} {s : Sl} (g : Gr W R H R' H') (h : SlOk K W H0 R H o s) : SlOk K W H0 R' H' o s := by
  cases s with
  | un => trivial
  | dat d => obtain ⟨v, e, r⟩ := h; exact ⟨v, e, r.mono g.rr⟩
  | ml ds => obtain ⟨p, xs, e, a, b, c, d, r⟩ := h; exact ⟨p, xs, e, g.nw p _ d a, b, c, g.hh p _ c d, r.mono g.rr⟩
  | md ds => obtain ⟨p, xs, e, a, b, c, d, r⟩ := h; exact ⟨p, xs, e, g.nw p _ d a, b, c, g.hh p _ c d, r.mono g.rr⟩
  | at_ a => exact h
theorem Env'.grow (g : Gr W R H R' H') (h : Env' K W H0 R H σ Γ) : Env' K W H0 R' H' σ Γ := ⟨h.len, fun i s o a b => (h.ok i s o a b).grow g, h.dis⟩
theorem So.grow (s : So W K R0 H0 Rl Γ R n σ H) (g : Gr W R H R' H') (j : W.J m H') : So W K R0 H0 Rl Γ R' m σ H' :=
  ⟨s.gr.trans g, s.lo.trans g.rr, fun b hb => let ⟨o, e⟩ := W.occ s.j hb; g.nw b o e (s.rb b hb), j, s.env.grow g⟩
theorem So.rh (s : So W K R0 H0 Rl Γ R n σ H) : Same R H := s.gr.rh
theorem So.set (s : So W K R0 H0 Rl Γ R n σ H) {i : Nat} {v : V} {d : D} (r : Rp K R v d) : So W K R0 H0 Rl (Γ.set i (.dat d)) R n (σ.set i (some v)) H := by
  refine ⟨s.gr, s.lo, s.rb, s.j, by simp [s.env.len], fun j t o a b => ?_, fun k j t u p a b c e f g => ?_⟩
  · by_cases q : i = j
    · subst q
      by_cases hl : i < Γ.length
      · rw [List.getElem?_set_self hl] at a
        rw [List.getElem?_set_self (by rw [s.env.len]; exact hl)] at b
        cases a; cases b
        exact ⟨v, rfl, r⟩
      · rw [List.getElem?_eq_none (by simp; omega)] at a; cases a
    · rw [List.getElem?_set_ne q] at a b
      exact s.env.ok j t o a b
  · by_cases q : i = k
    · subst q
      by_cases hl : i < Γ.length
      · rw [List.getElem?_set_self hl] at a; cases a; cases c
      · rw [List.getElem?_eq_none (by simp; omega)] at a; cases a
    · by_cases q' : i = j
      · subst q'
        by_cases hl : i < Γ.length
        · rw [List.getElem?_set_self hl] at b; cases b; cases e
        · rw [List.getElem?_eq_none (by simp; omega)] at b; cases b
      · rw [List.getElem?_set_ne q] at a f
        rw [List.getElem?_set_ne q'] at b g
        exact s.env.dis k j t u p a b c e f g
/-- a new mutable list in slot i -/
theorem So.setM (s : So W K R0 H0 Rl Γ R n σ H) {i : Nat} {p : Addr} {sl : Sl} (hm : sl.isM = true) (r : SlOk K W H0 R H (some (.ref p)) sl) (nw : ∀ (j : Nat) (t : Sl), j ≠ i → Γ[j]? = some t → t.isM = true → σ[j]? ≠ some (some (.ref p))) : So W K R0 H0 Rl (Γ.set i sl) R n (σ.set i (some (.ref p))) H := by
  refine ⟨s.gr, s.lo, s.rb, s.j, by simp [s.env.len], fun j t o a b => ?_, fun k j t u p' a b c e f g => ?_⟩
  · by_cases q : i = j
    · subst q
      by_cases hl : i < Γ.length
      · rw [List.getElem?_set_self hl] at a
        rw [List.getElem?_set_self (by rw [s.env.len]; exact hl)] at b
        cases a; cases b
        exact r
      · rw [List.getElem?_eq_none (by simp; omega)] at a; cases a
    · rw [List.getElem?_set_ne q] at a b
      exact s.env.ok j t o a b
  · by_cases q : i = k
    · by_cases q' : i = j
      · exact q.symm.trans q'
      · subst q
        by_cases hl : i < Γ.length
        · rw [List.getElem?_set_self (by rw [s.env.len]; exact hl)] at f
          cases f
          rw [List.getElem?_set_ne q'] at b g
          exact absurd g (nw j u (Ne.symm q') b e)
        · rw [List.getElem?_eq_none (by simp; omega)] at a; cases a
    · by_cases q' : i = j
      · subst q'
        by_cases hl : i < Γ.length
        · rw [List.getElem?_set_self (by rw [s.env.len]; exact hl)] at g
          cases g
          rw [List.getElem?_set_ne q] at a f
          exact absurd f (nw k t (Ne.symm q) a c)
        · rw [List.getElem?_eq_none (by simp; omega)] at b; cases b
      · rw [List.getElem?_set_ne q] at a f
        rw [List.getElem?_set_ne q'] at b g
        exact s.env.dis k j t u p' a b c e f g
/-- the mutable object of slot i is written -/
theorem So.write (s : So W K R0 H0 Rl Γ R n σ H) {i : Nat} {p : Addr} {sl sl' : Sl} {o : HO} (hi : Γ[i]? = some sl) (hm : sl.isM = true) (hm' : sl'.isM = true) (hs : σ[i]? = some (some (.ref p))) (hR : R p = none) (h0 : H0 p = none) (hB : ¬ W.B p)
    (r : SlOk K W H0 R (upd H p o) (some (.ref p)) sl') : So W K R0 H0 Rl (Γ.set i sl') R n σ (upd H p o) := by
  have hl : i < Γ.length := (List.getElem?_eq_some_iff.mp hi).1
  refine ⟨s.gr.mut h0 hR, s.lo, s.rb, W.loc s.j fun b u hb e => by rw [upd_ne (show b ≠ p from fun z => hb.elim (fun h => hB (z ▸ h)) fun ⟨φ, h⟩ => SlOk.noext hm (s.env.ok i sl _ hi hs) φ (by rw [← z, ← h]; exact e))]; exact e, by simp [s.env.len], fun j t u a b => ?_, fun k j t u p' a b c e f g => ?_⟩
  · by_cases q : i = j
    · subst q
      rw [List.getElem?_set_self hl] at a; cases a
      rw [hs] at b; cases b
      exact r
    · rw [List.getElem?_set_ne q] at a
      have h := s.env.ok j t u a b
      cases t with
      | un => trivial
      | dat d => exact h
      | at_ d => exact h
      | ml ds =>
        obtain ⟨p', xs, e, h1, h2, h3, h4, h5⟩ := h
        subst e
        have ne : p' ≠ p := fun z => q (s.env.dis i j sl _ p hi a hm rfl hs (z ▸ b))
        exact ⟨p', xs, rfl, h1, h2, h3, by rw [upd_ne ne]; exact h4, h5⟩
      | md ds =>
        obtain ⟨p', xs, e, h1, h2, h3, h4, h5⟩ := h
        subst e
        have ne : p' ≠ p := fun z => q (s.env.dis i j sl _ p hi a hm rfl hs (z ▸ b))
        exact ⟨p', xs, rfl, h1, h2, h3, by rw [upd_ne ne]; exact h4, h5⟩
  · have fix : ∀ (k : Nat) (t : Sl), (Γ.set i sl')[k]? = some t → t.isM = true → ∃ t', Γ[k]? = some t' ∧ t'.isM = true := fun k t a c => by
      by_cases q : i = k
      · subst q; exact ⟨sl, hi, hm⟩
      · rw [List.getElem?_set_ne q] at a; exact ⟨t, a, c⟩
    obtain ⟨t1, a1, c1⟩ := fix k t a c
    obtain ⟨t2, a2, c2⟩ := fix j u b e
    exact s.env.dis k j t1 t2 p' a1 a2 c1 c2 f g
/-- the mutable object of slot i is taken into the region -/
theorem So.frz (s : So W K R0 H0 Rl Γ R n σ H) {i : Nat} {p : Addr} {sl : Sl} {d : D} {o : HO} (hi : Γ[i]? = some sl) (hm : sl.isM = true) (hs : σ[i]? = some (some (.ref p))) (hR : R p = none) (h0 : H0 p = none) (hB : ¬ W.B p) (ho : H p = some o)
    (r : Rp K (upd R p o) (.ref p) d) : So W K R0 H0 Rl (Γ.set i (.dat d)) (upd R p o) n σ H := by
  have hl : i < Γ.length := (List.getElem?_eq_some_iff.mp hi).1
  have sm : Same R (upd R p o) := Same.freeze hR
  refine ⟨s.gr.freeze h0 ho, s.lo.trans sm, fun b hb => by rw [upd_ne (show b ≠ p from fun z => hB (z ▸ hb))]; exact s.rb b hb, s.j, by simp [s.env.len], fun j t u a b => ?_, fun k j t u p' a b c e f g => ?_⟩
  · by_cases q : i = j
    · subst q
      rw [List.getElem?_set_self hl] at a; cases a
      rw [hs] at b; cases b
      exact ⟨_, rfl, r⟩
    · rw [List.getElem?_set_ne q] at a
      have h := s.env.ok j t u a b
      cases t with
      | un => trivial
      | dat d => obtain ⟨v, e, h⟩ := h; exact ⟨v, e, h.mono sm⟩
      | at_ d => exact h
      | ml ds =>
        obtain ⟨p', xs, e, h1, h2, h3, h4, h5⟩ := h
        subst e
        have ne : p' ≠ p := fun z => q (s.env.dis i j sl _ p hi a hm rfl hs (z ▸ b))
        exact ⟨p', xs, rfl, by rw [upd_ne ne]; exact h1, h2, h3, h4, h5.mono sm⟩
      | md ds =>
        obtain ⟨p', xs, e, h1, h2, h3, h4, h5⟩ := h
        subst e
        have ne : p' ≠ p := fun z => q (s.env.dis i j sl _ p hi a hm rfl hs (z ▸ b))
        exact ⟨p', xs, rfl, by rw [upd_ne ne]; exact h1, h2, h3, h4, h5.mono sm⟩
  · by_cases q : i = k
    · subst q
      rw [List.getElem?_set_self hl] at a; cases a; cases c
    · by_cases q' : i = j
      · subst q'
        rw [List.getElem?_set_self hl] at b; cases b; cases e
      · rw [List.getElem?_set_ne q] at a
        rw [List.getElem?_set_ne q'] at b
        exact s.env.dis k j t u p' a b c e f g
/-- slots are forgotten -/
theorem So.wipe1 (s : So W K R0 H0 Rl Γ R n σ H) {i : Nat} : So W K R0 H0 Rl (Γ.set i .un) R n (σ.set i none) H := by
  refine ⟨s.gr, s.lo, s.rb, s.j, by simp [s.env.len], fun j t o a b => ?_, fun k j t u p a b c e f g => ?_⟩
  · by_cases q : i = j
    · subst q
      by_cases hl : i < Γ.length
      · rw [List.getElem?_set_self hl] at a; cases a; trivial
      · rw [List.getElem?_eq_none (by simp; omega)] at a; cases a
    · rw [List.getElem?_set_ne q] at a b
      exact s.env.ok j t o a b
  · by_cases q : i = k
    · subst q
      by_cases hl : i < Γ.length
      · rw [List.getElem?_set_self hl] at a; cases a; cases c
      · rw [List.getElem?_eq_none (by simp; omega)] at a; cases a
    · by_cases q' : i = j
      · subst q'
        by_cases hl : i < Γ.length
        · rw [List.getElem?_set_self hl] at b; cases b; cases e
        · rw [List.getElem?_eq_none (by simp; omega)] at b; cases b
      · rw [List.getElem?_set_ne q] at a f
        rw [List.getElem?_set_ne q'] at b g
        exact s.env.dis k j t u p a b c e f g
def wipeG (Γ : List Sl) : List Nat → List Sl
  | [] => Γ
  | v :: vs => (wipeG Γ vs).set v .un
theorem So.wipe (s : So W K R0 H0 Rl Γ R n σ H) : ∀ vs, So W K R0 H0 Rl (wipeG Γ vs) R n (wipe σ vs) H
  | [] => s
  | v :: vs => (s.wipe vs).wipe1
/-- to a base of one's own (no mutable slots may be written then; for what is evaluated within) -/
theorem So.slot (s : So W K R0 H0 Rl Γ R n σ H) {i : Nat} {d : D} (h : Γ[i]? = some (.dat d)) : ∃ v, σ[i]? = some (some v) ∧ Rp K R v d := by
  have hl : i < σ.length := by rw [s.env.len]; exact (List.getElem?_eq_some_iff.mp h).1
  obtain ⟨v, e, r⟩ := s.env.ok i _ σ[i] h (List.getElem?_eq_getElem hl)
  exact ⟨v, by rw [List.getElem?_eq_getElem hl, e], r⟩
end

/-! ### judgements -/
/-- an expression gives d with φ d, at cost c -/
def Ev (W : Wd) (X : Cx) (e : Expr) (Γ : List Sl) (c : Nat) (φ : D → Prop) : Prop := ∀ R0 H0 Rl σ R n H, So W X.K R0 H0 Rl Γ R n σ H → n + c ≤ LIM → ∀ Q : VK,
  (∀ v R' H' d, Gr W R H R' H' → W.J (n + c) H' → φ d → Rp X.K R' v d → Q v H') → wE X e σ H Q
def EvT (W : Wd) (X : Cx) (e : Expr) (Γ : List Sl) (c : Nat) (φ : Bool → Prop) : Prop := ∀ R0 H0 Rl σ R n H, So W X.K R0 H0 Rl Γ R n σ H → n + c ≤ LIM → ∀ Q : Bool → Hp → Prop,
  (∀ b R' H', Gr W R H R' H' → W.J (n + c) H' → φ b → Q b H') → wT X e σ H Q
def EvA (W : Wd) (X : Cx) (es : List Expr) (Γ : List Sl) (c : Nat) (φ : List D → Prop) : Prop := ∀ R0 H0 Rl σ R n H, So W X.K R0 H0 Rl Γ R n σ H → n + c ≤ LIM → ∀ Q : List V → Hp → Prop,
  (∀ vs R' H' ds, Gr W R H R' H' → W.J (n + c) H' → φ ds → RpL X.K R' vs ds → Q vs H') → wA X es σ H Q
/-- what an iterable gives: items -/
def EvI (W : Wd) (X : Cx) (tg iter : Expr) (Γ : List Sl) (c : Nat) (φ : List D → Prop) : Prop := ∀ R0 H0 Rl σ R n H, So W X.K R0 H0 Rl Γ R n σ H → n + c ≤ LIM → ∀ Q : It → Hp → Prop,
  (∀ J R' H' ds, Gr W R H R' H' → W.J (n + c) H' → φ ds → (∃ G Y, Walk J ds.length G Y ∧ (∀ R1 H1, Same R' R1 → Same R1 H1 → G H1) ∧
    ∀ (i : Nat) R1 H1 x H2, i < ds.length → Same R' R1 → Same R1 H1 → Y i H1 x H2 → ∃ R2 d, Gr W R1 H1 R2 H2 ∧ (∀ b o, H1 b = some o → H2 b = some o) ∧ ds[i]? = some d ∧ Rp X.K R2 x d) → Q J H') → wI X tg iter σ H Q
/-- a target takes d: these slots -/
def setAll (σ : L2.St) (bs : List (Nat × V)) : L2.St := bs.foldl (fun σ b => σ.set b.1 (some b.2)) σ
def setG (Γ : List Sl) (as : List (Nat × D)) : List Sl := as.foldl (fun Γ b => Γ.set b.1 (.dat b.2)) Γ
inductive BsR (K : PySem.W.Frag) (R : Hp) : List (Nat × V) → List (Nat × D) → Prop
  | nil : BsR K R [] []
  | cons {i : Nat} {v : V} {d : D} {bs as} : Rp K R v d → BsR K R bs as → BsR K R ((i, v) :: bs) ((i, d) :: as)
def Tg (X : Cx) (tg : Expr) (d : D) (as : List (Nat × D)) : Prop := ∀ v σ R H (Q : L2.St → Hp → Prop), Same R H → Rp X.K R v d → (∀ bs, BsR X.K R bs as → Q (setAll σ bs) H) → wG X tg v σ H Q
def TgL (X : Cx) (tgs : List Expr) (ds : List D) (as : List (Nat × D)) : Prop := ∀ vs σ R H (Q : L2.St → Hp → Prop), Same R H → RpL X.K R vs ds → (∀ bs, BsR X.K R bs as → Q (setAll σ bs) H) → wGs X tgs vs σ H Q

structure Pst where
  nx : List Sl → Nat → Prop
  rt : D → Nat → Prop
  bk : List Sl → Nat → Prop := fun _ _ => False
  ct : List Sl → Nat → Prop := fun _ _ => False
  rm : Hp → Hp → Hp → V → Nat → Prop := fun _ _ _ _ _ => False
/-- the ends serve the posts -/
structure Ens (W : Wd) (K : PySem.W.Frag) (R0 H0 Rl : Hp) (E : Ends) (P : Pst) : Prop where
  nx : ∀ Γ n R σ H, So W K R0 H0 Rl Γ R n σ H → P.nx Γ n → E.nx σ H
  rt : ∀ d n R v H, Gr W R0 H0 R H → Same Rl R → W.J n H → (∀ b, W.B b → R b = none) → Rp K R v d → P.rt d n → E.rt v H
  bk : ∀ Γ n R σ H, So W K R0 H0 Rl Γ R n σ H → P.bk Γ n → E.bk σ H
  ct : ∀ Γ n R σ H, So W K R0 H0 Rl Γ R n σ H → P.ct Γ n → E.ct σ H
  rm : ∀ n R v H, Gr W R0 H0 R H → Same Rl R → W.J n H → (∀ b, W.B b → R b = none) → P.rm H0 R H v n → E.rt v H
def Sm (W : Wd) (X : Cx) (st : Stmt) (Γ : List Sl) (n : Nat) (P : Pst) : Prop := ∀ R0 H0 Rl R σ H E, So W X.K R0 H0 Rl Γ R n σ H → Ens W X.K R0 H0 Rl E P → wS X st E σ H
def Sms (W : Wd) (X : Cx) (sts : List Stmt) (Γ : List Sl) (n : Nat) (P : Pst) : Prop := ∀ R0 H0 Rl R σ H E, So W X.K R0 H0 Rl Γ R n σ H → Ens W X.K R0 H0 Rl E P → wSs X sts E σ H
theorem setG_len (Γ : List Sl) (as : List (Nat × D)) : (setG Γ as).length = Γ.length := by
  induction as generalizing Γ with
  | nil => rfl
  | cons a as ih => show (setG (Γ.set a.1 (.dat a.2)) as).length = _; rw [ih, List.length_set]
section
variable {W : Wd} {K : PySem.W.Frag} {R0 H0 Rl R H R' H' : Hp} {Γ : List Sl} {n m : Nat} {σ : L2.St}
theorem So.setAll (s : So W K R0 H0 Rl Γ R n σ H) {bs : List (Nat × V)} {as : List (Nat × D)} (h : BsR K R bs as) : So W K R0 H0 Rl (setG Γ as) R n (Qq.setAll σ bs) H := by
  induction h generalizing σ Γ with
  | nil => exact s
  | cons r _ ih => exact ih (s.set r)
theorem wipe_set {σ : L2.St} {i : Nat} {v : Option V} : ∀ {vs : List Nat}, i ∈ vs → wipe (σ.set i v) vs = wipe σ vs
  | [], h => by cases h
  | j :: vs, h => by
    by_cases e : i ∈ vs
    · show (wipe (σ.set i v) vs).set j none = (wipe σ vs).set j none
      rw [wipe_set e]
    · have : i = j := (List.mem_cons.mp h).resolve_right e
      subst this
      show (wipe (σ.set i v) vs).set i none = (wipe σ vs).set i none
      have c : ∀ ws : List Nat, i ∉ ws → wipe (σ.set i v) ws = (wipe σ ws).set i v := by
        intro ws
        induction ws with
        | nil => intro _; rfl
        | cons k ws ih =>
          intro hk
          show (wipe (σ.set i v) ws).set k none = ((wipe σ ws).set k none).set i v
          rw [ih (fun z => hk (List.mem_cons_of_mem _ z)), List.set_comm _ _ (fun z => hk (by rw [z]; exact List.mem_cons_self))]
      rw [c vs e, List.set_set]
theorem wipe_wipe {σ : L2.St} {ws : List Nat} : ∀ {vs : List Nat}, (∀ i ∈ vs, i ∈ ws) → wipe (wipe σ vs) ws = wipe σ ws
  | [], _ => rfl
  | j :: vs, h => by
    show wipe ((wipe σ vs).set j none) ws = wipe σ ws
    rw [wipe_set (h j List.mem_cons_self), wipe_wipe fun i hi => h i (List.mem_cons_of_mem _ hi)]
theorem wipe_setAll {σ : L2.St} {ws : List Nat} : ∀ {bs : List (Nat × V)}, (∀ b ∈ bs, b.1 ∈ ws) → wipe (Qq.setAll σ bs) ws = wipe σ ws := by
  intro bs
  induction bs generalizing σ with
  | nil => intro _; rfl
  | cons b bs ih =>
    intro h
    show wipe (Qq.setAll (σ.set b.1 (some b.2)) bs) ws = wipe σ ws
    rw [ih fun c hc => h c (List.mem_cons_of_mem _ hc), wipe_set (h b List.mem_cons_self)]
theorem BsR.fst {bs : List (Nat × V)} {as : List (Nat × D)} (h : BsR K R bs as) {ws : List Nat} (ha : ∀ a ∈ as, a.1 ∈ ws) : ∀ b ∈ bs, b.1 ∈ ws := by
  induction h with
  | nil => intro b hb; cases hb
  | @cons i v d bs as r t ih =>
    intro b hb
    rcases List.mem_cons.mp hb with rfl | hb
    · exact ha (i, d) List.mem_cons_self
    · exact ih (fun a h => ha a (List.mem_cons_of_mem _ h)) b hb
end
end Qq
/-! Qc: rules of Ev, EvT, EvA, calls. -/
namespace Qq
open PySem PySem.Spec PyProof.Rows L2

def Is {α : Type} (d : α) : α → Prop := fun x => x = d
inductive RpS (K : PySem.W.Frag) (R : Hp) : V → Sl → Prop
  | dat {v : V} {d : D} : Rp K R v d → RpS K R v (.dat d)
  | at_ (a : Addr) : RpS K R (.ref a) (.at_ a)
inductive ArgL (K : PySem.W.Frag) (R : Hp) : List V → List Sl → Prop
  | nil : ArgL K R [] []
  | cons {v : V} {s : Sl} {vs : List V} {ss : List Sl} : RpS K R v s → ArgL K R vs ss → ArgL K R (v :: vs) (s :: ss)
theorem RpS.mono {K : PySem.W.Frag} {R R' : Hp} {v : V} {s : Sl} (e : Same R R') (h : RpS K R v s) : RpS K R' v s := by
  cases h with
  | dat h => exact .dat (h.mono e)
  | at_ a => exact .at_ a
theorem ArgL.mono {K : PySem.W.Frag} {R R' : Hp} (e : Same R R') : ∀ {v : List V} {s : List Sl}, ArgL K R v s → ArgL K R' v s
  | _, _, .nil => .nil
  | _, _, .cons h t => .cons (h.mono e) (ArgL.mono e t)
theorem ArgL.len {K : PySem.W.Frag} {R : Hp} : ∀ {v : List V} {s : List Sl}, ArgL K R v s → v.length = s.length
  | _, _, .nil => rfl
  | _, _, .cons _ t => congrArg (· + 1) t.len
theorem ArgL.data {K : PySem.W.Frag} {R : Hp} : ∀ {v : List V} {ds : List D}, ArgL K R v (ds.map .dat) → RpL K R v ds
  | _, [], h => by cases h; exact .nil
  | _, d :: ds, h => by
    cases h with
    | cons a t => cases a with | dat a => exact .cons a t.data
/-- an argument list -/
def EvS (W : Wd) (X : Cx) (es : List Expr) (Γ : List Sl) (c : Nat) (φ : List Sl → Prop) : Prop := ∀ R0 H0 Rl σ R n H, So W X.K R0 H0 Rl Γ R n σ H → n + c ≤ LIM → ∀ Q : List V → Hp → Prop,
  (∀ vs R' H' ss, Gr W R H R' H' → W.J (n + c) H' → φ ss → ArgL X.K R' vs ss → Q vs H') → wA X es σ H Q

section
variable {W : Wd} {X : Cx} {Γ : List Sl} {c c1 c2 c3 : Nat} {φ ψ : D → Prop} {e a b : Expr} {pos : Pos} {d dx dy : D}

theorem Ev.imp (h : Ev W X e Γ c φ) (m : ∀ d, φ d → ψ d) : Ev W X e Γ c ψ := fun R0 H0 Rl σ R n H s hn Q k => h R0 H0 Rl σ R n H s hn Q fun v R' H' d g j f r => k v R' H' d g j (m d f) r
theorem Ev.cost (h : Ev W X e Γ c1 φ) (hc : c1 ≤ c) : Ev W X e Γ c φ := fun R0 H0 Rl σ R n H s hn Q k => h R0 H0 Rl σ R n H s (by omega) Q fun v R' H' d g j f r => k v R' H' d g (W.mono j (by omega)) f r
theorem EvT.imp {φ ψ : Bool → Prop} (h : EvT W X e Γ c φ) (m : ∀ d, φ d → ψ d) : EvT W X e Γ c ψ := fun R0 H0 Rl σ R n H s hn Q k => h R0 H0 Rl σ R n H s hn Q fun v R' H' g j f => k v R' H' g j (m v f)
theorem EvT.cost {φ : Bool → Prop} (h : EvT W X e Γ c1 φ) (hc : c1 ≤ c) : EvT W X e Γ c φ := fun R0 H0 Rl σ R n H s hn Q k => h R0 H0 Rl σ R n H s (by omega) Q fun v R' H' g j f => k v R' H' g (W.mono j (by omega)) f
theorem Ev.to (h : Ev W X e Γ c (Is d)) {d' : D} (q : d = d') : Ev W X e Γ c (Is d') := q ▸ h

theorem ev_var {i : Nat} {x : Str} (hN : X.N[i]? = some x) (hv : Vis X.env.scope x) (hΓ : Γ[i]? = some (.dat d)) (hd : (x == ("__debug__" : Str)) = false := by decide) (hcd : (x == ("__classdict__" : Str)) = false := by decide) :
    Ev W X (.Name x pos) Γ 0 (Is d) := fun R0 H0 Rl σ R n H s hn Q k => by
  obtain ⟨v, e, r⟩ := s.slot hΓ
  exact wE_of (pe_var hN hv hd hcd) ⟨v, e, k v R H d (Gr.refl s.rh) s.j rfl r⟩
theorem ev_int {i : Int} {j : Nat} : Ev W X (.Constant (.int i) j pos) Γ 0 (Is (.int i)) := fun R0 H0 Rl σ R n H s hn Q k => wE_of pe_int (k _ R H _ (Gr.refl s.rh) s.j rfl (.int i))
theorem ev_bl {i : Bool} {j : Nat} : Ev W X (.Constant (.bool i) j pos) Γ 0 (Is (.bl i)) := fun R0 H0 Rl σ R n H s hn Q k => wE_of pe_bl (k _ R H _ (Gr.refl s.rh) s.j rfl (.bl i))
theorem ev_non {j : Nat} : Ev W X (.Constant .none j pos) Γ 0 (Is .non) := fun R0 H0 Rl σ R n H s hn Q k => wE_of pe_non (k _ R H _ (Gr.refl s.rh) s.j rfl .non)
theorem ev_str {i : Str} {j : Nat} : Ev W X (.Constant (.str i) j pos) Γ 0 (Is (.str i)) := fun R0 H0 Rl σ R n H s hn Q k => wE_of pe_str (k _ R H _ (Gr.refl s.rh) s.j rfl (.str i))
/-- a module's constant -/
theorem ev_gint {i : Int} {t : Tok} {x : Str} (hg : Gl X x) (hm : X.mg x = some (.int i t)) (hd : (x == ("__debug__" : Str)) = false := by decide) : Ev W X (.Name x pos) Γ 0 (Is (.int i)) :=
  fun R0 H0 Rl σ R n H s hn Q k => wE_of (pe_glob (v := .int i) hg hm ⟨t, rfl⟩ hd) (k _ R H _ (Gr.refl s.rh) s.j rfl (.int i))

/-- an operation on two data -/
def R2D (K : PySem.W.Frag) (r : R2) (dx dy d : D) : Prop := ∀ x y R H (Q : VK), Same R H → Rp K R x dx → Rp K R y dy → (∀ v R' H', Gr W0 R H R' H' → Rp K R' v d → Q v H') → r x y H Q
theorem ev_op2 {r : R2} {φa φb : D → Prop} {mk : Expr → Expr → Expr} (hp : ∀ {ta tb}, PE X a ta → PE X b tb → PE X (mk a b) (tOp r ta tb)) (ha : Ev W X a Γ c1 φa) (hb : Ev W X b Γ c2 φb)
    (h : ∀ dx dy, φa dx → φb dy → ∃ d, R2D X.K r dx dy d ∧ φ d) : Ev W X (mk a b) Γ (c1 + c2) φ := fun R0 H0 Rl σ R n H s hn Q k => by
  refine wE_of (hp (wE_ok a) (wE_ok b)) ?_
  refine ha R0 H0 Rl σ R n H s (by omega) _ fun x R1 H1 dx g1 j1 f1 r1 => ?_
  refine hb R0 H0 Rl σ R1 _ H1 (s.grow g1 j1) (by omega) _ fun y R2 H2 dy g2 j2 f2 r2 => ?_
  obtain ⟨d, hd, f⟩ := h dx dy f1 f2
  refine hd x y R2 H2 _ g2.rh (r1.mono g2.rr) r2 fun v R3 H3 g3 r3 => ?_
  exact k v R3 H3 d ((g1.trans g2).trans g3.of0) (by have := g3.j j2; rwa [Nat.add_assoc] at this) f r3
theorem ev_bin {op : Operator} {r : R2} {φa φb : D → Prop} (ho : OpR X (binaryOp op) r) (ha : Ev W X a Γ c1 φa) (hb : Ev W X b Γ c2 φb) (h : ∀ dx dy, φa dx → φb dy → ∃ d, R2D X.K r dx dy d ∧ φ d) :
    Ev W X (.BinOp a op b pos) Γ (c1 + c2) φ := ev_op2 (mk := fun a b => .BinOp a op b pos) (fun h1 h2 => pe_op ho h1 h2) ha hb h
theorem ev_cmp {op : CmpOp} {r : R2} {φa φb : D → Prop} (ho : OpR X (compareOp op) r) (hm : behindInMarks op b = false) (ha : Ev W X a Γ c1 φa) (hb : Ev W X b Γ c2 φb) (h : ∀ dx dy, φa dx → φb dy → ∃ d, R2D X.K r dx dy d ∧ φ d) :
    Ev W X (.Compare a [op] [b] pos) Γ (c1 + c2) φ := ev_op2 (mk := fun a b => .Compare a [op] [b] pos) (fun h1 h2 => pe_cmpR ho h1 h2 hm) ha hb h
theorem is2 {r : R2} (h : R2D X.K r dx dy d) : ∀ x y, Is dx x → Is dy y → ∃ z, R2D X.K r x y z ∧ Is d z := fun x y e f => ⟨d, by rw [show x = dx from e, show y = dy from f]; exact h, rfl⟩
theorem ev_binI {op : Operator} {r : R2} (ho : OpR X (binaryOp op) r) (ha : Ev W X a Γ c1 (Is dx)) (hb : Ev W X b Γ c2 (Is dy)) (h : R2D X.K r dx dy d) : Ev W X (.BinOp a op b pos) Γ (c1 + c2) (Is d) := ev_bin ho ha hb (is2 h)
theorem ev_cmpI {op : CmpOp} {r : R2} (ho : OpR X (compareOp op) r) (hm : behindInMarks op b = false) (ha : Ev W X a Γ c1 (Is dx)) (hb : Ev W X b Γ c2 (Is dy)) (h : R2D X.K r dx dy d) : Ev W X (.Compare a [op] [b] pos) Γ (c1 + c2) (Is d) := ev_cmp ho hm ha hb (is2 h)
/-- a test by a value -/
theorem et_val {φ : D → Prop} {ψ : Bool → Prop} (h : Ev W X e Γ c φ) (m : ∀ d, φ d → ∃ b, d = .bl b ∧ ψ b) (he : ∀ whole, isTrue e X.env whole = (do let v ← whole; standAt e.pos; holding [v] (truthy v)) := by intro _; rfl) : EvT W X e Γ c ψ :=
  fun R0 H0 Rl σ R n H s hn Q k => by
  refine wT_of (pt_val (wE_ok e) he) ?_
  refine h R0 H0 Rl σ R n H s hn _ fun x R1 H1 dx g1 j1 f1 r1 => ?_
  obtain ⟨b, rfl, q⟩ := m dx f1
  cases r1
  exact ⟨b, rfl, k b R1 H1 g1 j1 q⟩
theorem et_cmp2 {op : CmpOp} {r : R2} {φa φb : D → Prop} {ψ : Bool → Prop} (ho : OpR X (compareOp op) r) (hm : behindInMarks op b = false) (ha : Ev W X a Γ c1 φa) (hb : Ev W X b Γ c2 φb) (h : ∀ dx dy, φa dx → φb dy → ∃ z, R2D X.K r dx dy (.bl z) ∧ ψ z) :
    EvT W X (.Compare a [op] [b] pos) Γ (c1 + c2) ψ := fun R0 H0 Rl σ R n H s hn Q k => by
  refine wT_of (pt_cmpR ho (wE_ok a) (wE_ok b) hm) ?_
  refine ha R0 H0 Rl σ R n H s (by omega) _ fun x R1 H1 dx g1 j1 f1 r1 => ?_
  refine hb R0 H0 Rl σ R1 _ H1 (s.grow g1 j1) (by omega) _ fun y R2 H2 dy g2 j2 f2 r2 => ?_
  obtain ⟨z, hd, f⟩ := h dx dy f1 f2
  refine hd x y R2 H2 _ g2.rh (r1.mono g2.rr) r2 fun v R3 H3 g3 r3 => ?_
  cases r3
  exact ⟨z, rfl, k z R3 H3 ((g1.trans g2).trans g3.of0) (by have := g3.j j2; rwa [Nat.add_assoc] at this) f⟩
theorem et_cmpI {op : CmpOp} {r : R2} {z : Bool} (ho : OpR X (compareOp op) r) (hm : behindInMarks op b = false) (ha : Ev W X a Γ c1 (Is dx)) (hb : Ev W X b Γ c2 (Is dy)) (h : R2D X.K r dx dy (.bl z)) :
    EvT W X (.Compare a [op] [b] pos) Γ (c1 + c2) (Is z) := et_cmp2 ho hm ha hb fun x y e f => ⟨z, by rw [show x = dx from e, show y = dy from f]; exact h, rfl⟩
theorem et_not {z : Bool} (h : EvT W X a Γ c (Is z)) : EvT W X (.UnaryOp .Not a pos) Γ c (Is (!z)) := fun R0 H0 Rl σ R n H s hn Q k => by
  refine wT_of (pt_not (wT_ok a)) ?_
  exact h R0 H0 Rl σ R n H s hn _ fun b R1 H1 g1 j1 f1 => k _ R1 H1 g1 j1 (by rw [show b = z from f1]; rfl)
theorem ev_not {z : Bool} (h : Ev W X a Γ c (Is (.bl z))) : Ev W X (.UnaryOp .Not a pos) Γ c (Is (.bl (!z))) := fun R0 H0 Rl σ R n H s hn Q k => by
  refine wE_of (pe_not (wE_ok a)) ?_
  refine h R0 H0 Rl σ R n H s hn _ fun v R1 H1 d g1 j1 f1 r1 => ?_
  rw [show d = .bl z from f1] at r1
  cases r1
  exact ⟨z, rfl, k _ R1 H1 _ g1 j1 rfl (.bl _)⟩
/-- and, or as values -/
theorem ev_one {op : BoolOp} (h : Ev W X a Γ c φ) : Ev W X (.BoolOp op [a] pos) Γ c φ := fun R0 H0 Rl σ R n H s hn Q k => wE_of (pe_one (wE_ok a)) (h R0 H0 Rl σ R n H s hn Q k)
theorem ev_and {x y : Bool} {rest : List Expr} (h1 : Ev W X a Γ c1 (Is (.bl x))) (h2 : x = true → Ev W X (.BoolOp .And (b :: rest) pos) Γ c2 (Is (.bl y))) : Ev W X (.BoolOp .And (a :: b :: rest) pos) Γ (c1 + c2) (Is (.bl (x && y))) := fun R0 H0 Rl σ R n H s hn Q k => by
  refine wE_of (pe_and (wE_ok a) (wE_ok _)) ?_
  refine h1 R0 H0 Rl σ R n H s (by omega) _ fun v R1 H1 d g1 j1 f1 r1 => ?_
  rw [show d = .bl x from f1] at r1
  cases r1
  refine ⟨x, rfl, ?_⟩
  cases x with
  | true =>
    refine iteT (h2 rfl R0 H0 Rl σ R1 _ H1 (s.grow g1 j1) (by omega) _ fun v R2 H2 d g2 j2 f2 r2 => ?_)
    exact k v R2 H2 d (g1.trans g2) (by rwa [Nat.add_assoc] at j2) f2 r2
  | false => exact iteF (k _ R1 H1 _ g1 (W.mono j1 (by omega)) rfl (.bl false))
theorem ev_or {x y : Bool} {rest : List Expr} (h1 : Ev W X a Γ c1 (Is (.bl x))) (h2 : x = false → Ev W X (.BoolOp .Or (b :: rest) pos) Γ c2 (Is (.bl y))) : Ev W X (.BoolOp .Or (a :: b :: rest) pos) Γ (c1 + c2) (Is (.bl (x || y))) := fun R0 H0 Rl σ R n H s hn Q k => by
  refine wE_of (pe_or (wE_ok a) (wE_ok _)) ?_
  refine h1 R0 H0 Rl σ R n H s (by omega) _ fun v R1 H1 d g1 j1 f1 r1 => ?_
  rw [show d = .bl x from f1] at r1
  cases r1
  refine ⟨x, rfl, ?_⟩
  cases x with
  | false =>
    refine iteF (h2 rfl R0 H0 Rl σ R1 _ H1 (s.grow g1 j1) (by omega) _ fun v R2 H2 d g2 j2 f2 r2 => ?_)
    exact k v R2 H2 d (g1.trans g2) (by rwa [Nat.add_assoc] at j2) f2 r2
  | true => exact iteT (k _ R1 H1 _ g1 (W.mono j1 (by omega)) rfl (.bl true))
/-- and, or as tests -/
def EvW (W : Wd) (X : Cx) (e : Expr) (Γ : List Sl) (c : Nat) (φ : Bool → Prop) : Prop := ∀ R0 H0 Rl σ R n H, So W X.K R0 H0 Rl Γ R n σ H → n + c ≤ LIM → ∀ Q : Bool → Hp → Prop,
  (∀ b R' H', Gr W R H R' H' → W.J (n + c) H' → φ b → Q b H') → ∃ (t : TT) (Q0 : Bool → Hp → Prop), PW X e t ∧ t σ H Q0 ∧ ∀ v H', Q0 v H' → Q v H'
def wW (X : Cx) (e : Expr) : TT := fun σ H Q => ∃ (t : TT) (Q0 : Bool → Hp → Prop), PW X e t ∧ t σ H Q0 ∧ ∀ v H', Q0 v H' → Q v H'
theorem wW_ok (e : Expr) : PW X e (wW X e) := ⟨fun whole pins s σ H Q I ⟨t, Q0, h, q, m⟩ => thn (h.run whole pins s σ H Q0 I q) fun u s' ⟨H', I', z⟩ => ⟨H', I', m u H' z⟩⟩
theorem wW_of {e : Expr} {t : TT} (h : PW X e t) {σ H Q} (q : t σ H Q) : wW X e σ H Q := ⟨t, Q, h, q, fun _ _ z => z⟩
theorem et_pw {φ : Bool → Prop} (h : EvW W X e Γ c φ) : EvT W X e Γ c φ := fun R0 H0 Rl σ R n H s hn Q k => wT_of (wW_ok e).pt (h R0 H0 Rl σ R n H s hn Q k)
theorem eW_and1 {φ : Bool → Prop} (h : EvT W X a Γ c φ) : EvW W X (.BoolOp .And [a] pos) Γ c φ := fun R0 H0 Rl σ R n H s hn Q k => wW_of (pw_and1 (wT_ok a)) (h R0 H0 Rl σ R n H s hn Q k)
theorem eW_or1 {φ : Bool → Prop} (h : EvT W X a Γ c φ) : EvW W X (.BoolOp .Or [a] pos) Γ c φ := fun R0 H0 Rl σ R n H s hn Q k => wW_of (pw_or1 (wT_ok a)) (h R0 H0 Rl σ R n H s hn Q k)
theorem eW_and {x : Bool} {rest : List Expr} {φ : Bool → Prop} (h1 : EvT W X a Γ c1 (Is x)) (h2 : x = true → EvW W X (.BoolOp .And (b :: rest) pos) Γ c2 φ) (h3 : x = false → φ false) : EvW W X (.BoolOp .And (a :: b :: rest) pos) Γ (c1 + c2) φ := fun R0 H0 Rl σ R n H s hn Q k => by
  refine wW_of (pw_and (wT_ok a) (wW_ok _)) ?_
  refine h1 R0 H0 Rl σ R n H s (by omega) _ fun v R1 H1 g1 j1 f1 => ?_
  obtain rfl : v = x := f1
  cases v with
  | true =>
    refine iteT (h2 rfl R0 H0 Rl σ R1 _ H1 (s.grow g1 j1) (by omega) _ fun v R2 H2 g2 j2 f2 => ?_)
    exact k v R2 H2 (g1.trans g2) (by rwa [Nat.add_assoc] at j2) f2
  | false => exact iteF (k _ R1 H1 g1 (W.mono j1 (by omega)) (h3 rfl))
theorem eW_or {x : Bool} {rest : List Expr} {φ : Bool → Prop} (h1 : EvT W X a Γ c1 (Is x)) (h2 : x = false → EvW W X (.BoolOp .Or (b :: rest) pos) Γ c2 φ) (h3 : x = true → φ true) : EvW W X (.BoolOp .Or (a :: b :: rest) pos) Γ (c1 + c2) φ := fun R0 H0 Rl σ R n H s hn Q k => by
  refine wW_of (pw_or (wT_ok a) (wW_ok _)) ?_
  refine h1 R0 H0 Rl σ R n H s (by omega) _ fun v R1 H1 g1 j1 f1 => ?_
  obtain rfl : v = x := f1
  cases v with
  | false =>
    refine iteF (h2 rfl R0 H0 Rl σ R1 _ H1 (s.grow g1 j1) (by omega) _ fun v R2 H2 g2 j2 f2 => ?_)
    exact k v R2 H2 (g1.trans g2) (by rwa [Nat.add_assoc] at j2) f2
  | true => exact iteT (k _ R1 H1 g1 (W.mono j1 (by omega)) (h3 rfl))
theorem ev_if {C : Expr} {ψ : Bool → Prop} (hc : EvT W X C Γ c1 ψ) (h1 : ψ true → Ev W X a Γ c2 φ) (h2 : ψ false → Ev W X b Γ c2 φ) : Ev W X (.IfExp C a b pos) Γ (c1 + c2) φ := fun R0 H0 Rl σ R n H s hn Q k => by
  refine wE_of (pe_ifExp (wT_ok C) (wE_ok a) (wE_ok b)) ?_
  refine hc R0 H0 Rl σ R n H s (by omega) _ fun v R1 H1 g1 j1 f1 => ?_
  cases v with
  | true => exact iteT (h1 f1 R0 H0 Rl σ R1 _ H1 (s.grow g1 j1) (by omega) _ fun v R2 H2 d g2 j2 f2 r2 => k v R2 H2 d (g1.trans g2) (by rwa [Nat.add_assoc] at j2) f2 r2)
  | false => exact iteF (h2 f1 R0 H0 Rl σ R1 _ H1 (s.grow g1 j1) (by omega) _ fun v R2 H2 d g2 j2 f2 r2 => k v R2 H2 d (g1.trans g2) (by rwa [Nat.add_assoc] at j2) f2 r2)
/-- a < b < c -/
theorem ev_chain {op op' : CmpOp} {r r' : R2} {C : Expr} {dz : D} {x y : Bool} (ho : OpR X (compareOp op) r) (ho' : OpR X (compareOp op') r') (ha : Ev W X a Γ c1 (Is dx)) (hb : Ev W X b Γ c2 (Is dy)) (hc : Ev W X C Γ c3 (Is dz))
    (h1 : R2D X.K r dx dy (.bl x)) (h2 : x = true → R2D X.K r' dy dz (.bl y)) (hm : lastMarks [op, op'] [b, C] = false := by with_unfolding_all rfl) : Ev W X (.Compare a [op, op'] [b, C] pos) Γ (c1 + c2 + c3) (Is (.bl (x && y))) := fun R0 H0 Rl σ R n H s hn Q k => by
  refine wE_of (pe_chain ho ho' (wE_ok a) (wE_ok b) (wE_ok C) hm) ?_
  refine ha R0 H0 Rl σ R n H s (by omega) _ fun v R1 H1 d1 g1 j1 f1 r1 => ?_
  rw [show d1 = dx from f1] at r1
  refine hb R0 H0 Rl σ R1 _ H1 (s.grow g1 j1) (by omega) _ fun u R2 H2 d2 g2 j2 f2 r2 => ?_
  rw [show d2 = dy from f2] at r2
  refine h1 v u R2 H2 _ g2.rh (r1.mono g2.rr) r2 fun z R3 H3 g3 r3 => ?_
  cases r3
  have s3 := ((s.grow g1 j1).grow g2 j2).grow (g3.of0) (g3.j j2)
  refine ⟨x, rfl, ?_⟩
  cases x with
  | true =>
    refine iteT (hc R0 H0 Rl σ R3 _ H3 s3 (by omega) _ fun w R4 H4 d4 g4 j4 f4 r4 => ?_)
    rw [show d4 = dz from f4] at r4
    refine h2 rfl u w R4 H4 _ g4.rh ((r2.mono g3.rr).mono g4.rr) r4 fun z R5 H5 g5 r5 => ?_
    exact k z R5 H5 _ ((((g1.trans g2).trans g3.of0).trans g4).trans g5.of0) (W.mono (g5.j j4) (by omega)) rfl r5
  | false => exact iteF (k _ R3 H3 _ ((g1.trans g2).trans g3.of0) (W.mono (g3.j j2) (by omega)) rfl (.bl false))

/-! ### argument lists -/
theorem es_nil : EvS W X [] Γ 0 (Is []) := fun R0 H0 Rl σ R n H s hn Q k => wA_of pa_nil (k [] R H [] (Gr.refl s.rh) s.j rfl .nil)
theorem es_cons {es : List Expr} {ψs : List Sl → Prop} (h : Ev W X e Γ c1 φ) (t : EvS W X es Γ c2 ψs) (hs : starEach (e :: es) X.env = (false, eval e X.env) :: starEach es X.env := by rfl) :
    EvS W X (e :: es) Γ (c1 + c2) (fun ss => ∃ d rest, ss = .dat d :: rest ∧ φ d ∧ ψs rest) := fun R0 H0 Rl σ R n H s hn Q k => by
  refine wA_of (pa_cons (wE_ok e) (wA_ok es) hs) ?_
  refine h R0 H0 Rl σ R n H s (by omega) _ fun v R1 H1 d g1 j1 f1 r1 => ?_
  refine t R0 H0 Rl σ R1 _ H1 (s.grow g1 j1) (by omega) _ fun vs R2 H2 ss g2 j2 f2 r2 => ?_
  exact k _ R2 H2 _ (g1.trans g2) (by rwa [Nat.add_assoc] at j2) ⟨d, ss, rfl, f1, f2⟩ (.cons (.dat (r1.mono g2.rr)) r2)
theorem es_consI {es : List Expr} {ss : List Sl} (h : Ev W X e Γ c1 (Is d)) (t : EvS W X es Γ c2 (Is ss)) (hs : starEach (e :: es) X.env = (false, eval e X.env) :: starEach es X.env := by rfl) :
    EvS W X (e :: es) Γ (c1 + c2) (Is (.dat d :: ss)) := fun R0 H0 Rl σ R n H s hn Q k => es_cons h t hs R0 H0 Rl σ R n H s hn Q fun vs R' H' s' g j ⟨d', r', e1, e2, e3⟩ a => by
  obtain rfl : d' = d := e2
  obtain rfl : r' = ss := e3
  exact k vs R' H' s' g j e1 a
theorem es_at {es : List Expr} {ψs : List Sl → Prop} {i : Nat} {x : Str} {p : Addr} (hN : X.N[i]? = some x) (hv : Vis X.env.scope x) (hΓ : Γ[i]? = some (.at_ p)) (t : EvS W X es Γ c2 ψs)
    (hs : starEach ((.Name x pos) :: es) X.env = (false, eval (.Name x pos) X.env) :: starEach es X.env := by rfl) (hd : (x == ("__debug__" : Str)) = false := by decide) (hcd : (x == ("__classdict__" : Str)) = false := by decide) :
    EvS W X ((.Name x pos) :: es) Γ c2 (fun ss => ∃ rest, ss = .at_ p :: rest ∧ ψs rest) := fun R0 H0 Rl σ R n H s hn Q k => by
  refine wA_of (pa_cons (pe_var hN hv hd hcd) (wA_ok es) hs) ?_
  have hl : i < σ.length := by rw [s.env.len]; exact (List.getElem?_eq_some_iff.mp hΓ).1
  have hσ : σ[i]? = some (some (.ref p)) := by
    have := s.env.ok i _ σ[i] hΓ (List.getElem?_eq_getElem hl)
    rw [List.getElem?_eq_getElem hl]; exact congrArg some this
  refine ⟨_, hσ, ?_⟩
  refine t R0 H0 Rl σ R n H s (by omega) _ fun vs R2 H2 ss g2 j2 f2 r2 => ?_
  exact k _ R2 H2 _ g2 j2 ⟨ss, rfl, f2⟩ (.cons (.at_ p) r2)
theorem EvS.imp {es : List Expr} {φ ψ : List Sl → Prop} (h : EvS W X es Γ c φ) (m : ∀ d, φ d → ψ d) : EvS W X es Γ c ψ := fun R0 H0 Rl σ R n H s hn Q k => h R0 H0 Rl σ R n H s hn Q fun v R' H' d g j f r => k v R' H' d g j (m d f) r

/-! ### built-ins -/
def CD (K : PySem.W.Frag) (r : List V → Hp → VK → Prop) (ds : List D) (d : D) : Prop := ∀ vs R H (Q : VK), Same R H → RpL K R vs ds → (∀ v R' H', Gr W0 R H R' H' → Rp K R' v d → Q v H') → r vs H Q
theorem ev_call_ {x : Str} {p : Pos} {es : List Expr} {r : List V → Hp → VK → Prop} {φs : List Sl → Prop} (hp : ∀ {t}, PA X (e :: es) t → PE X (.Call (.Name x p) (e :: es) [] pos) (tCB r t)) (ha : EvS W X (e :: es) Γ c φs)
    (h : ∀ ss, φs ss → ∃ ds d, ss = ds.map .dat ∧ CD X.K r ds d ∧ φ d) : Ev W X (.Call (.Name x p) (e :: es) [] pos) Γ c φ := fun R0 H0 Rl σ R n H s hn Q k => by
  refine wE_of (hp (wA_ok _)) ?_
  refine ha R0 H0 Rl σ R n H s hn _ fun vs R1 H1 ss g1 j1 f1 r1 => ?_
  obtain ⟨ds, d, rfl, hd, f⟩ := h ss f1
  exact hd vs R1 H1 Q g1.rh r1.data fun v R2 H2 g2 r2 => k v R2 H2 d (g1.trans g2.of0) (g2.j j1) f r2
theorem ev_callB {x : Str} {p : Pos} {es : List Expr} {id : String} {r : List V → Hp → VK → Prop} {φs : List Sl → Prop} (hc : CallR X (.builtin id) r) (hg : Gl X x) (hm : X.mg x = none) (hv : bootBuiltins x = some (.builtin id)) (ha : EvS W X (e :: es) Γ c φs)
    (h : ∀ ss, φs ss → ∃ ds d, ss = ds.map .dat ∧ CD X.K r ds d ∧ φ d) (hn : x ≠ "__name__" := by decide) (hdb : (x == ("__debug__" : Str)) = false := by decide)
    (he : starEach (e :: es) X.env = (false, eval e X.env) :: starEach es X.env := by rfl) (hpl : (backTo pos (starEach es X.env)).any (·.1) = false := by rfl) : Ev W X (.Call (.Name x p) (e :: es) [] pos) Γ c φ :=
  ev_call_ (fun h => pe_callB hc hg hm hv h hn hdb he hpl) ha h
theorem ev_callT {x : Str} {p : Pos} {es : List Expr} {T : String} {r : List V → Hp → VK → Prop} {φs : List Sl → Prop} (hc : CallR X (.type T) r) (hg : Gl X x) (hm : X.mg x = none) (hv : bootBuiltins x = some (.type T)) (ha : EvS W X (e :: es) Γ c φs)
    (h : ∀ ss, φs ss → ∃ ds d, ss = ds.map .dat ∧ CD X.K r ds d ∧ φ d) (hn : x ≠ "__name__" := by decide) (hdb : (x == ("__debug__" : Str)) = false := by decide)
    (he : starEach (e :: es) X.env = (false, eval e X.env) :: starEach es X.env := by rfl) (hpl : (backTo pos (starEach es X.env)).any (·.1) = false := by rfl) : Ev W X (.Call (.Name x p) (e :: es) [] pos) Γ c φ :=
  ev_call_ (fun h => pe_callTy hc hg hm hv h hn hdb he hpl) ha h
theorem cd1 {r : List V → Hp → VK → Prop} {dx d : D} (h : CD X.K r [dx] d) : ∀ ss, (fun ss : List Sl => ss = [.dat dx]) ss → ∃ ds d', ss = ds.map .dat ∧ CD X.K r ds d' ∧ Is d d' := fun ss e => ⟨[dx], d, e, h, rfl⟩
theorem cdn {r : List V → Hp → VK → Prop} {ds : List D} {ss0 : List Sl} {d : D} (q : ss0 = ds.map .dat) (h : CD X.K r ds d) : ∀ ss, Is ss0 ss → ∃ ds d', ss = ds.map .dat ∧ CD X.K r ds d' ∧ Is d d' := fun ss e => ⟨ds, d, (show ss = ss0 from e).trans q, h, rfl⟩

/-! ### displays -/
theorem ev_tup {es : List Expr} {kk : Nat} {φs : List Sl → Prop} (ha : EvS W X es Γ c φs) (h : ∀ ss, φs ss → ∃ ds, ss = ds.map .dat ∧ ds.length ≤ sizeLine ∧ φ (.tup ds)) : Ev W X (.Tuple es kk pos) Γ c φ := fun R0 H0 Rl σ R n H s hn Q k => by
  refine wE_of (pe_tup (wA_ok es)) ?_
  refine ha R0 H0 Rl σ R n H s hn _ fun vs R1 H1 ss g1 j1 f1 r1 => ?_
  obtain ⟨ds, rfl, hl, f⟩ := h ss f1
  have rd := r1.data
  refine ⟨by rw [rd.len]; exact hl, fun p hp => ?_⟩
  have g2 : Gr W0 R1 H1 (upd R1 p (.tup vs)) (upd H1 p (.tup vs)) := Gr.new g1.rh hp
  exact k _ _ _ _ (g1.trans g2.of0) (g2.j j1) f (.tup (SqT.of upd_same) (rd.mono g2.rr))
theorem ev_lst {es : List Expr} {φs : List Sl → Prop} (ha : EvS W X es Γ c φs) (h : ∀ ss, φs ss → ∃ ds, ss = ds.map .dat ∧ ds.length ≤ sizeLine ∧ φ (.lst ds)) : Ev W X (.List es pos) Γ c φ := fun R0 H0 Rl σ R n H s hn Q k => by
  refine wE_of (pe_lst (wA_ok es)) ?_
  refine ha R0 H0 Rl σ R n H s hn _ fun vs R1 H1 ss g1 j1 f1 r1 => ?_
  obtain ⟨ds, rfl, hl, f⟩ := h ss f1
  have rd := r1.data
  refine ⟨by rw [rd.len]; exact hl, fun p hp => ?_⟩
  have g2 : Gr W0 R1 H1 (upd R1 p (.lst vs)) (upd H1 p (.lst vs)) := Gr.new g1.rh hp
  exact k _ _ _ _ (g1.trans g2.of0) (g2.j j1) f (.lst (SqL.of upd_same) (rd.mono g2.rr))
theorem small_line {n : Nat} (h : n ≤ 4000) : n ≤ sizeLine := Nat.le_trans h (by decide)
theorem ev_tupI {es : List Expr} {kk : Nat} {ss : List Sl} {ds : List D} (ha : EvS W X es Γ c (Is ss)) (h : ss = ds.map .dat) (hl : ds.length ≤ 4000) : Ev W X (.Tuple es kk pos) Γ c (Is (.tup ds)) :=
  ev_tup ha fun s e => ⟨ds, (show s = ss from e).trans h, small_line hl, rfl⟩
theorem ev_lstI {es : List Expr} {ss : List Sl} {ds : List D} (ha : EvS W X es Γ c (Is ss)) (h : ss = ds.map .dat) (hl : ds.length ≤ 4000) : Ev W X (.List es pos) Γ c (Is (.lst ds)) :=
  ev_lst ha fun s e => ⟨ds, (show s = ss from e).trans h, small_line hl, rfl⟩
end

/-! ### calls of the text's own defs -/
/-- the promise: S tells, of the arguments, what the value is; c the cost -/
def spF (K : PySem.W.Frag) (c : Nat) (S : Wd → List Sl → (D → Prop) → Prop) : Sp := fun vs H Q _ => ∃ (W : Wd) (R : Hp) (n : Nat) (as : List Sl) (φ : D → Prop), Same R H ∧ (∀ b, W.B b → R b = none) ∧ W.J n H ∧ n + c ≤ LIM ∧ ArgL K R vs as ∧ S W as φ ∧
  ∀ v R' H' d, Gr W R H R' H' → W.J (n + c) H' → φ d → Rp K R' v d → Q v H'
/-- the def x can be called, by position -/
structure Cal (P : Program) (w : World) (K : PySem.W.Frag) (mg : Str → Option Value) (base : Heap) (k : Nat) (x : Str) (ps : List Str) (c : Nat) (S : Wd → List Sl → (D → Prop) → Prop) : Prop where
  ex : ∃ f fd, mg x = some (.ref f) ∧ PySem.W.keepIn K (.ref f) = true ∧ Binds K fd ps [] ∧ FnOk P w K mg base CX0 k f fd ps (spF K c S)
section
variable {W : Wd} {X : Cx} {Γ : List Sl} {c c1 c2 c3 : Nat} {φ ψ : D → Prop} {e a b : Expr} {pos : Pos} {d dx dy : D} {x : Str} {p : Pos} {es : List Expr} {k : Nat} {ps : List Str} {S : Wd → List Sl → (D → Prop) → Prop}
theorem ev_call {φs : List Sl → Prop} (F : Cal X.prog X.w X.K X.mg X.base k x ps c2 S) (hr : Room k X.A) (hg : Gl X x) (ha : EvS W X (e :: es) Γ c1 φs) (h : ∀ ss, φs ss → S W ss φ) (hdb : (x == ("__debug__" : Str)) = false := by decide)
    (he : starEach (e :: es) X.env = (false, eval e X.env) :: starEach es X.env := by rfl) (hpl : (backTo pos (starEach es X.env)).any (·.1) = false := by rfl) : Ev W X (.Call (.Name x p) (e :: es) [] pos) Γ (c1 + c2) φ := fun R0 H0 Rl σ R n H s hn Q q => by
  obtain ⟨f, fd, hm, hk, hb, F⟩ := F.ex
  refine wE_of (pe_call F hr hg hm hk hb .nil pass0 (wA_ok _) hdb he hpl) ?_
  refine ha R0 H0 Rl σ R n H s (by omega) _ fun vs R1 H1 ss g1 j1 f1 r1 => ?_
  rw [List.append_nil]
  have s1 := s.grow g1 j1
  exact ⟨W, R1, n + c1, ss, φ, g1.rh, s1.rb, j1, by omega, r1, h ss f1, fun v R' H' d g j f r => q v R' H' d (g1.trans g) (by rwa [Nat.add_assoc] at j) f r⟩
end
end Qq
/-! Qd: comprehensions, iterables, targets. -/
namespace Qq
open PySem PySem.Spec PyProof.Rows L2

/-- a mutable object's content -/
def Mc (K : PySem.W.Frag) (R H : Hp) (p : Addr) : Sl → Prop
  | .ml ds => ∃ xs, R p = none ∧ H p = some (.lst xs) ∧ RpL K R xs ds
  | .md ds => ∃ xs, R p = none ∧ H p = some (.dK xs) ∧ RpK K R xs ds
  | _ => False
/-- an expression gives a new object, not yet in the region -/
def EvMt (W : Wd) (X : Cx) (t : TE) (Γ : List Sl) (c : Nat) (φ : Sl → Prop) : Prop := ∀ R0 H0 Rl σ R n H, So W X.K R0 H0 Rl Γ R n σ H → n + c ≤ LIM → ∀ Q : VK,
  (∀ p R' H' sl, Gr W R H R' H' → W.J (n + c) H' → H p = none → Mc X.K R' H' p sl → φ sl → Q (.ref p) H') → t σ H Q
def EvM (W : Wd) (X : Cx) (e : Expr) (Γ : List Sl) (c : Nat) (φ : Sl → Prop) : Prop := ∀ R0 H0 Rl σ R n H, So W X.K R0 H0 Rl Γ R n σ H → n + c ≤ LIM → ∀ Q : VK,
  (∀ p R' H' sl, Gr W R H R' H' → W.J (n + c) H' → H p = none → Mc X.K R' H' p sl → φ sl → Q (.ref p) H') → wE X e σ H Q
theorem Mc.isM {K : PySem.W.Frag} {R H : Hp} {p : Addr} {sl : Sl} (h : Mc K R H p sl) : sl.isM = true := by cases sl <;> first | rfl | exact h.elim
def datOf : Sl → D
  | .ml ds => .lst ds
  | .md ds => .dct ds
  | _ => .non
section
variable {W : Wd} {X : Cx} {Γ : List Sl} {c c0 c1 c2 c3 : Nat} {φ ψ : D → Prop} {e a b : Expr} {pos : Pos} {d dx dy : D}
/-- taken into the region at once -/
theorem ev_of_m {φs : Sl → Prop} (h : EvM W X e Γ c φs) (m : ∀ sl, φs sl → φ (datOf sl)) : Ev W X e Γ c φ := fun R0 H0 Rl σ R n H s hn Q k => wE_lock (h R0 H0 Rl σ R n H s hn _ fun p R' H' sl g j hp mc f => by
  cases sl with
  | ml ds =>
    obtain ⟨xs, hR, hH, r⟩ := mc
    exact .inl <| k _ _ H' _ (g.freeze hp hH) j (m _ f) (.lst (SqL.of upd_same) (r.mono (Same.freeze hR)))
  | md ds =>
    obtain ⟨xs, hR, hH, r⟩ := mc
    exact .inr ⟨p, _, hH, trivial, fun od => k _ _ _ _ (g.mfz hp hR) (W.loc j fun b o hb e => by
      rw [upd_ne (show b ≠ p from fun z => hb.elim (fun h => (by
        obtain ⟨o, eo⟩ := W.occ s.j (z ▸ h : W.B p)
        rw [hp] at eo; cases eo)) fun ⟨φ, h⟩ => (by rw [z, hH, h] at e; cases e))]; exact e) (m _ f) (.dct ⟨od, upd_same⟩ (r.mono (Same.freeze hR)))⟩
  | _ => exact mc.elim)

inductive All2 {α β : Type} (F : α → β → Prop) : List α → List β → Prop
  | nil : All2 F [] []
  | cons {a b as bs} : F a b → All2 F as bs → All2 F (a :: as) (b :: bs)
theorem All2.snoc {α β : Type} {F : α → β → Prop} : ∀ {as : List α} {bs : List β} {a b}, All2 F as bs → F a b → All2 F (as ++ [a]) (bs ++ [b])
  | _, _, _, _, .nil, h => .cons h .nil
  | _, _, _, _, .cons x t, h => .cons x (t.snoc h)
theorem All2.len {α β : Type} {F : α → β → Prop} : ∀ {as : List α} {bs : List β}, All2 F as bs → as.length = bs.length
  | _, _, .nil => rfl
  | _, _, .cons _ t => congrArg (· + 1) t.len
theorem All2.isMap {α β : Type} {f : α → β} : ∀ {as : List α} {bs : List β}, All2 (fun a => Is (f a)) as bs → bs = as.map f
  | _, _, .nil => rfl
  | _, _, .cons h t => by rw [List.map_cons, t.isMap, show _ = _ from h]
theorem take_succ {α : Type} {ds : List α} {i : Nat} {d : α} (h : ds[i]? = some d) : ds.take (i + 1) = ds.take i ++ [d] := by
  rw [List.take_add_one, h]; rfl

/-! ### tests of a comprehension -/
def wTs (X : Cx) (ifs : List Expr) : TT := fun σ H Q => ∃ (t : TT) (Q0 : Bool → Hp → Prop), PTs X ifs t ∧ t σ H Q0 ∧ ∀ v H', Q0 v H' → Q v H'
theorem wTs_ok (ifs : List Expr) : PTs X ifs (wTs X ifs) := ⟨fun pins s σ H Q I ⟨t, Q0, h, q, m⟩ => thn (h.run pins s σ H Q0 I q) fun u s' ⟨H', I', z⟩ => ⟨H', I', m u H' z⟩⟩
def EvTs (W : Wd) (X : Cx) (ifs : List Expr) (Γ : List Sl) (z : Bool) : Prop := ∀ R0 H0 Rl σ R n H, So W X.K R0 H0 Rl Γ R n σ H → n ≤ LIM → ∀ Q : Bool → Hp → Prop,
  (∀ R' H', Gr W R H R' H' → W.J n H' → Q z H') → wTs X ifs σ H Q
theorem ets_nil : EvTs W X [] Γ true := fun R0 H0 Rl σ R n H s _ Q k => ⟨_, Q, pts_nil, k R H (Gr.refl s.rh) s.j, fun _ _ z => z⟩
theorem ets_one {z : Bool} (h : EvT W X e Γ 0 (Is z)) : EvTs W X [e] Γ z := fun R0 H0 Rl σ R n H s hn Q k =>
  ⟨_, Q, pts_one (wT_ok e), h R0 H0 Rl σ R n H s hn Q fun b R' H' g j f => by rw [show b = z from f]; exact k R' H' g j, fun _ _ z => z⟩

abbrev Cx.bk (X : Cx) (scope : Scope) (s : Shared) (H : Hp) (C : Addr) (cl : List (Str × Addr)) (fp : List Addr) : Cx := L2.Cx.blk X s H scope (compEnvC scope cl C X.env) fp
/-- within a comprehension's block -/
def AtB (X : Cx) (scope : Scope) (F : Cx → Prop) : Prop := ∀ (s : Shared) (H : Hp) (C : Addr) (cl : List (Str × Addr)) (fp : List Addr), F (Qq.Cx.bk X scope s H C cl fp)
theorem So.nB {W : Wd} {n : Nat} {H : Hp} {p : Addr} (j : W.J n H) (h : H p = none) : ¬ W.B p := fun z => by
  obtain ⟨o, e⟩ := W.occ j z
  rw [h] at e; cases e

def gB (X : Cx) (scope : Scope) (tg : Expr) : TG := fun v σ H Q => AtB X scope fun Y => wG Y tg v σ H Q
def iB (X : Cx) (scope : Scope) (ifs : List Expr) : TT := fun σ H Q => AtB X scope fun Y => wTs Y ifs σ H Q
def eB (X : Cx) (scope : Scope) (elt : Expr) : TE := fun σ H Q => AtB X scope fun Y => wE Y elt σ H Q
theorem gB_ok {scope : Scope} {tg : Expr} (s1 : Shared) (H1 : Hp) (C : Addr) (cl : List (Str × Addr)) (fp : List Addr) : PG (L2.Cx.blk X s1 H1 scope (compEnvC scope cl C X.env) fp) tg (gB X scope tg) := ⟨fun pins s σ H v u Q I r q => (wG_ok tg).run pins s σ H v u Q I r (q s1 H1 C cl fp)⟩
theorem iB_ok {scope : Scope} {ifs : List Expr} (s1 : Shared) (H1 : Hp) (C : Addr) (cl : List (Str × Addr)) (fp : List Addr) : PTs (L2.Cx.blk X s1 H1 scope (compEnvC scope cl C X.env) fp) ifs (iB X scope ifs) := ⟨fun pins s σ H Q I q => (wTs_ok ifs).run pins s σ H Q I (q s1 H1 C cl fp)⟩
theorem eB_ok {scope : Scope} {elt : Expr} (s1 : Shared) (H1 : Hp) (C : Addr) (cl : List (Str × Addr)) (fp : List Addr) : PE (L2.Cx.blk X s1 H1 scope (compEnvC scope cl C X.env) fp) elt (eB X scope elt) := ⟨fun pins s σ H Q I q => (wE_ok elt).run pins s σ H Q I (q s1 H1 C cl fp)⟩
theorem lc_t {elt tg iter : Expr} {ifs : List Expr} {scope : Scope} {own : List (Str × Nat)} {α : Type} {xs : List α} {enc : α → D} {φ : α → D → Prop} {p : α → Bool} (hc : X.calm = true) (hN : X.N.Nodup) (ok : BlkOk X.N X.env.scope scope own)
    (hi : EvI W X tg iter Γ c0 (Is (xs.map enc))) (asf : α → List (Nat × D))
    (ht : ∀ d ∈ xs, AtB X scope (fun Y => Tg Y tg (enc d) (asf d) ∧ EvTs W Y ifs (setG (wipeG Γ (own.map (·.2))) (asf d)) (p d) ∧ (p d = true → Ev W Y elt (setG (wipeG Γ (own.map (·.2))) (asf d)) c1 (φ d))) ∧ ∀ a ∈ asf d, a.1 ∈ own.map (·.2))
    (hl1 : xs.length ≤ 4000) (hl2 : c0 + xs.length * c1 ≤ c) :
    EvMt W X (tLc (wI X tg iter) (gB X scope tg) (iB X scope ifs) (eB X scope elt) (own.map (·.2))) Γ c (fun sl => ∃ es, sl = .ml es ∧ All2 φ (xs.filter p) es) := fun R0 H0 Rl σ R n H s hn Q k => by
  refine hi R0 H0 Rl σ R n H s (by omega) _ fun J R1 H1 ds g1 j1 f1 ⟨G, Y, wk, hG, hY⟩ => ?_
  obtain rfl : ds = xs.map enc := f1
  rw [List.length_map] at wk
  intro Dd hD
  have s1 := s.grow g1 j1
  refine lc_it (g := gB X scope tg) (tt := iB X scope ifs) (te := eB X scope elt) (vs := own.map (·.2)) (σ := σ) (H1 := H1) (D := Dd) (Qd := fun H' => Q (.ref Dd) H') wk (fun i H' => i ≤ xs.length ∧ ∃ R' acc es, Gr W R1 H1 R' H' ∧ W.J (n + c0 + i * c1) H' ∧ R' Dd = none ∧ H' Dd = some (.lst acc) ∧ RpL X.K R' acc es ∧ All2 φ ((xs.take i).filter p) es) ?_ ?_ ?_ ?_
  · exact ⟨Nat.zero_le _, R1, [], [], Gr.newM g1.rh hD, by rw [Nat.zero_mul]; exact W.loc j1 fun b o hb e => by rw [upd_ne (ne_of_none e hD)]; exact e, g1.rh.free hD, upd_same, .nil, by rw [List.take_zero]; exact .nil⟩
  · rintro i H' _ ⟨_, R', acc, es, g, _⟩
    exact hG R' H' g.rr g.rh
  · rintro i x H' H'' hi ⟨_, R', acc, es, g, j, dR, dH, ra, all⟩ y
    obtain ⟨R2, dd, g2, kp, hdd, rx⟩ := hY i R' H' x H'' (by rw [List.length_map]; exact hi) g.rr g.rh y
    obtain ⟨d, hd, ed⟩ : ∃ d, xs[i]? = some d ∧ enc d = dd := by
      rw [List.getElem?_map] at hdd
      cases q : xs[i]? with
      | none => rw [q] at hdd; cases hdd
      | some d => rw [q] at hdd; exact ⟨d, rfl, Option.some.inj hdd⟩
    subst ed
    have hm : d ∈ xs := List.mem_of_getElem? hd
    obtain ⟨ht1, ht2⟩ := ht d hm
    have nB : ¬ W.B Dd := So.nB j1 hD
    intro s2 H2 C cl fp
    obtain ⟨tg1, tt1, te1⟩ := ht1 s2 H2 C cl fp
    refine tg1 x (wipe σ (own.map (·.2))) R2 H'' _ g2.rh rx ?_
    intro bs hbs
    refine ⟨(wipe_setAll (hbs.fst ht2)).trans (wipe_wipe fun _ z => z), ?_⟩
    have j2 : W.J (n + c0 + i * c1) H'' := W.loc j fun b o _ e => kp b o e
    have sB := (((s1.grow g j).grow g2 j2).wipe (own.map (·.2))).setAll hbs
    intro s3 H3 C3 cl3 fp3
    obtain ⟨_, tt2, _⟩ := ht1 s3 H3 C3 cl3 fp3
    have lm0 : i * c1 ≤ xs.length * c1 := Nat.mul_le_mul_right _ (Nat.le_of_lt hi)
    refine tt2 R0 H0 Rl _ R2 _ H'' sB (by omega) _ fun R3 H4 g3 j3 => ?_
    have dR2 : R2 Dd = none := g2.nw Dd _ dH dR
    have dH2 : H'' Dd = some (.lst acc) := kp _ _ dH
    have dR3 : R3 Dd = none := g3.nw Dd _ dH2 dR2
    have dH3 : H4 Dd = some (.lst acc) := g3.hh Dd _ nB dH2
    by_cases hp : p d = true
    · rw [hp]
      refine iteT ?_
      intro s5 H5 C5 cl5 fp5
      obtain ⟨_, _, te3⟩ := ht1 s5 H5 C5 cl5 fp5
      have lm : (i + 1) * c1 ≤ xs.length * c1 := Nat.mul_le_mul_right _ hi
      have lm' : (i + 1) * c1 = i * c1 + c1 := Nat.succ_mul _ _
      refine te3 hp R0 H0 Rl _ R3 _ H4 (sB.grow g3 j3) (by omega) _ fun v R4 H6 d' g4 j4 f4 r4 => ?_
      have dR4 : R4 Dd = none := g4.nw Dd _ dH3 dR3
      have dH4 : H6 Dd = some (.lst acc) := g4.hh Dd _ nB dH3
      have gA : Gr W R1 H1 R4 H6 := ((g.trans g2).trans g3).trans g4
      have al := ra.len
      have ll : es.length ≤ i := by
        rw [← all.len]
        exact Nat.le_trans (List.length_filter_le _ _) (by rw [List.length_take]; omega)
      refine ⟨acc, dH4, Nat.lt_of_lt_of_le (by omega : acc.length < 4001) (by decide), by omega, R4, acc ++ [v], es ++ [d'], gA.mut hD dR4, ?_, dR4, upd_same, (ra.mono ((g2.rr.trans g3.rr).trans g4.rr)).append (.cons r4 .nil), ?_⟩
      · rw [lm', ← Nat.add_assoc]
        exact W.loc j4 fun b o hb e => by rw [upd_ne (show b ≠ Dd from fun z => hb.elim (fun h => nB (z ▸ h)) fun ⟨φ, h⟩ => (by rw [z, dH4, h] at e; cases e))]; exact e
      · rw [take_succ hd, List.filter_append, List.filter_cons, hp]
        exact all.snoc f4
    · have hp' : p d = false := by simpa using hp
      rw [hp']
      refine iteF ⟨by omega, R3, acc, es, (g.trans g2).trans g3, ?_, dR3, dH3, ra.mono (g2.rr.trans g3.rr), ?_⟩
      · exact W.mono j3 (have h9 : (i + 1) * c1 = i * c1 + c1 := Nat.succ_mul i c1; by omega)
      · rw [take_succ hd, List.filter_append, List.filter_cons, hp']
        simpa using all
  · rintro H' ⟨_, R', acc, es, g, j, dR, dH, ra, all⟩
    rw [List.take_length] at all
    exact k Dd R' H' (.ml es) (g1.trans g) (W.mono j (by omega)) (by
      cases q : H Dd with
      | none => rfl
      | some o =>
        obtain ⟨o', e⟩ := g1.hb Dd o q
        rw [hD] at e; cases e) ⟨acc, dR, dH, ra⟩ ⟨es, rfl, all⟩

theorem em_lc {elt tg iter : Expr} {ifs : List Expr} {scope : Scope} {own : List (Str × Nat)} {α : Type} {xs : List α} {enc : α → D} {φ : α → D → Prop} {p : α → Bool} (hc : X.calm = true) (hN : X.N.Nodup) (ok : BlkOk X.N X.env.scope scope own)
    (hi : EvI W X tg iter Γ c0 (Is (xs.map enc))) (asf : α → List (Nat × D))
    (ht : ∀ d ∈ xs, AtB X scope (fun Y => Tg Y tg (enc d) (asf d) ∧ EvTs W Y ifs (setG (wipeG Γ (own.map (·.2))) (asf d)) (p d) ∧ (p d = true → Ev W Y elt (setG (wipeG Γ (own.map (·.2))) (asf d)) c1 (φ d))) ∧ ∀ a ∈ asf d, a.1 ∈ own.map (·.2))
    (hl1 : xs.length ≤ 4000) (hl2 : c0 + xs.length * c1 ≤ c) (hs : ∀ x, foldedSetIterable iter X.env x = pure x := by intro _; rfl) :
    EvM W X (.ListComp elt [⟨tg, iter, ifs, 0⟩] scope pos) Γ c (fun sl => ∃ es, sl = .ml es ∧ All2 φ (xs.filter p) es) := fun R0 H0 Rl σ R n H s hn Q k =>
  wE_of (pe_lc hc hN (wI_ok tg iter) ok (gB_ok (tg := tg)) (iB_ok (ifs := ifs)) (eB_ok (elt := elt)) hs) (lc_t hc hN ok hi asf ht hl1 hl2 R0 H0 Rl σ R n H s hn Q k)

/-! ### what is gone over -/
theorem ei_lst {φs : List D → Prop} {tg : Expr} (h : Ev W X e Γ c φ) (m : ∀ d, φ d → ∃ ds, d = .lst ds ∧ φs ds) : EvI W X tg e Γ c φs := fun R0 H0 Rl σ R n H s hn Q k => by
  refine wI_of (pi_list (wE_ok e)) ?_
  refine h R0 H0 Rl σ R n H s hn _ fun v R1 H1 d g1 j1 f1 r1 => ?_
  obtain ⟨ds, rfl, f⟩ := m d f1
  cases r1 with
  | @lst a xs _ hq hr =>
    refine ⟨a, rfl, ⟨xs, sqL_mono g1.rh hq⟩, k _ R1 H1 ds g1 j1 f ⟨_, _, hr.len ▸ walk_list (xs := xs), fun R2 H2 a b => sqL_mono (a.trans b) hq, ?_⟩⟩
    rintro i R2 H2 x H3 hi a b ⟨rfl, e⟩
    obtain ⟨d, e2, r2⟩ := hr.get e
    exact ⟨R2, d, Gr.refl b, fun _ _ z => z, e2, r2.mono a⟩
theorem ei_tup {φs : List D → Prop} {tg : Expr} (h : Ev W X e Γ c φ) (m : ∀ d, φ d → ∃ ds, d = .tup ds ∧ φs ds) : EvI W X tg e Γ c φs := fun R0 H0 Rl σ R n H s hn Q k => by
  refine wI_of (pi_tup (wE_ok e)) ?_
  refine h R0 H0 Rl σ R n H s hn _ fun v R1 H1 d g1 j1 f1 r1 => ?_
  obtain ⟨ds, rfl, f⟩ := m d f1
  cases r1 with
  | @tup a xs _ hq hr =>
    refine ⟨a, rfl, ⟨xs, sqT_mono g1.rh hq⟩, k _ R1 H1 ds g1 j1 f ⟨_, _, hr.len ▸ walk_tup (xs := xs), fun R2 H2 a b => sqT_mono (a.trans b) hq, ?_⟩⟩
    rintro i R2 H2 x H3 hi a b ⟨rfl, e⟩
    obtain ⟨d, e2, r2⟩ := hr.get e
    exact ⟨R2, d, Gr.refl b, fun _ _ z => z, e2, r2.mono a⟩
/-- the signs of a text, as texts -/
def signs (z : Str) : List D := z.cps.toList.map fun c => .str ⟨#[c]⟩
theorem ei_str {φs : List D → Prop} {tg : Expr} (h : Ev W X e Γ c φ) (m : ∀ d, φ d → ∃ z, d = .str z ∧ φs (signs z)) : EvI W X tg e Γ c φs := fun R0 H0 Rl σ R n H s hn Q k => by
  refine wI_of (pi_str (wE_ok e)) ?_
  refine h R0 H0 Rl σ R n H s hn _ fun v R1 H1 d g1 j1 f1 r1 => ?_
  obtain ⟨z, rfl, f⟩ := m d f1
  cases r1
  refine ⟨z, rfl, k _ R1 H1 (signs z) g1 j1 f ⟨_, _, (by unfold signs; rw [List.length_map, Array.length_toList]; exact walk_str (z := z)), fun _ _ _ _ => trivial, ?_⟩⟩
  rintro i R2 H2 x H3 hi a b ⟨rfl, c, e, rfl⟩
  exact ⟨R2, .str ⟨#[c]⟩, Gr.refl b, fun _ _ z => z, by unfold signs; rw [List.getElem?_map, Array.getElem?_toList, e]; rfl, .str _⟩
def rangeD (lo : Int) (n : Nat) : List D := (List.range n).map fun (i : Nat) => .int (lo + i)
theorem ei_range1 {φs : List D → Prop} {tg : Expr} {p : Pos} (hg : Gl X "range") (hm : X.mg "range" = none) (h : Ev W X e Γ c φ) (m : ∀ d, φ d → ∃ j : Int, d = .int j ∧ j < 100000 ∧ -100000 < j ∧ φs (rangeD 0 j.toNat))
    (hs : starEach [e] X.env = [(false, eval e X.env)] := by rfl) : EvI W X tg (.Call (.Name "range" p) [e] [] pos) Γ c φs := fun R0 H0 Rl σ R n H s hn Q k => by
  refine wI_of (pi_range1 hg hm (pa_cons (wE_ok e) pa_nil hs) hs) ?_
  refine h R0 H0 Rl σ R n H s hn _ fun v R1 H1 d g1 j1 f1 r1 => ?_
  obtain ⟨j, rfl, b1, b2, f⟩ := m d f1
  cases r1
  refine ⟨j, rfl, by omega, by omega, k _ R1 H1 _ g1 j1 f ⟨_, _, (by unfold rangeD; rw [List.length_map, List.length_range]; exact walk_range), fun _ _ _ _ => trivial, ?_⟩⟩
  rintro i R2 H2 x H3 hi a b ⟨rfl, rfl⟩
  refine ⟨R2, .int (0 + i), Gr.refl b, fun _ _ z => z, ?_, .int _⟩
  unfold rangeD at hi ⊢
  rw [List.length_map, List.length_range] at hi
  rw [List.getElem?_map, List.getElem?_range hi]; rfl
def zipD (as bs : List D) : List D := (as.zip bs).map fun p => .tup [p.1, p.2]
theorem zip_get {as bs : List D} {i : Nat} {a b : D} (h1 : as[i]? = some a) (h2 : bs[i]? = some b) : (zipD as bs)[i]? = some (.tup [a, b]) := by
  unfold zipD
  rw [List.getElem?_map, (List.getElem?_zip_eq_some (z := (a, b))).mpr ⟨h1, h2⟩]; rfl
theorem ei_zip {φs : List D → Prop} {es : List Expr} {kk : Nat} {tpos p : Pos} {e2 : Expr} {φa : List Sl → Prop} (hg : Gl X "zip") (hm : X.mg "zip" = none) (h : EvS W X [e, e2] Γ c φa)
    (m : ∀ ss, φa ss → ∃ as bs, (ss = [.dat (.tup as), .dat (.tup bs)] ∨ ss = [.dat (.lst as), .dat (.lst bs)]) ∧ φs (zipD as bs))
    (hs : starEach [e, e2] X.env = (false, eval e X.env) :: starEach [e2] X.env := by rfl) (hpl : (backTo pos (starEach [e2] X.env)).any (·.1) = false := by rfl) :
    EvI W X (.Tuple es kk tpos) (.Call (.Name "zip" p) [e, e2] [] pos) Γ c φs := fun R0 H0 Rl σ R n H s hn Q k => by
  refine wI_of (RZ.pi_zipA hg hm (wA_ok [e, e2]) hs hpl) ?_
  refine h R0 H0 Rl σ R n H s hn _ fun vs R1 H1 ss g1 j1 f1 r1 => ?_
  obtain ⟨as, bs, ess, f⟩ := m ss f1
  have hz : (zipD as bs).length = min as.length bs.length := by unfold zipD; rw [List.length_map, List.length_zip]
  rcases ess with rfl | rfl
  · cases r1 with | cons ra r1 => cases r1 with | cons rb r1 => cases r1; cases ra with | dat ra => cases rb with | dat rb => cases ra with | @tup a xs _ qa ra => cases rb with | @tup b ys _ qb rb =>
      refine ⟨a, b, xs, ys, rfl, .inr ⟨sqT_mono g1.rh qa, sqT_mono g1.rh qb, k _ R1 H1 _ g1 j1 f ⟨fun H => SqT X.K H a xs ∧ SqT X.K H b ys, YPair (fun i => xs[i]?) (fun i => ys[i]?), ?_, fun R2 H2 u v => ⟨sqT_mono (u.trans v) qa, sqT_mono (u.trans v) qb⟩, ?_⟩⟩⟩
      · rw [hz, ← ra.len, ← rb.len]
        refine ⟨fun i H hi q => ?_, fun H q => ⟨xs, ys, q.1, q.2, by omega⟩, fun i H v H' _ q y => ?_⟩
        · have hi1 : i < xs.length := by omega
          have hi2 : i < ys.length := by omega
          exact ⟨xs, ys, xs[i], ys[i], q.1, q.2, by simp [hi1], by simp [hi2]⟩
        obtain ⟨T, x, z, h1, h2, h3, h4, h5⟩ := y
        exact ⟨T, x, z, h1, h2, h3, h4 xs q.1, h5 ys q.2⟩
      · rintro i R2 H2 x H3 hi u v ⟨T, x, y, rfl, hT, rfl, ex, ey⟩
        obtain ⟨dx, e1, rx⟩ := ra.get ex
        obtain ⟨dy, e2, ry⟩ := rb.get ey
        have g : Gr W R2 H2 (upd R2 T (.tup [x, y])) (upd H2 T (.tup [x, y])) := Gr.new v hT
        exact ⟨_, _, g, fun b o z => by rw [upd_ne (ne_of_none z hT)]; exact z, zip_get e1 e2, .tup (SqT.of upd_same) (.cons (rx.mono (u.trans g.rr)) (.cons (ry.mono (u.trans g.rr)) .nil))⟩
  · cases r1 with | cons ra r1 => cases r1 with | cons rb r1 => cases r1; cases ra with | dat ra => cases rb with | dat rb => cases ra with | @lst a xs _ qa ra => cases rb with | @lst b ys _ qb rb =>
      refine ⟨a, b, xs, ys, rfl, .inl ⟨sqL_mono g1.rh qa, sqL_mono g1.rh qb, k _ R1 H1 _ g1 j1 f ⟨_, _, walk_zip (K := X.K) (a := a) (b := b) (xs := xs) (ys := ys) (n := (zipD as bs).length) (by rw [hz, ra.len, rb.len]), fun R2 H2 u v => ⟨sqL_mono (u.trans v) qa, sqL_mono (u.trans v) qb⟩, ?_⟩⟩⟩
      rintro i R2 H2 x H3 hi u v ⟨T, x, y, rfl, hT, rfl, ex, ey⟩
      obtain ⟨dx, e1, rx⟩ := ra.get ex
      obtain ⟨dy, e2, ry⟩ := rb.get ey
      have g : Gr W R2 H2 (upd R2 T (.tup [x, y])) (upd H2 T (.tup [x, y])) := Gr.new v hT
      exact ⟨_, _, g, fun b o z => by rw [upd_ne (ne_of_none z hT)]; exact z, zip_get e1 e2, .tup (SqT.of upd_same) (.cons (rx.mono (u.trans g.rr)) (.cons (ry.mono (u.trans g.rr)) .nil))⟩
theorem EvI.imp {φ ψ : List D → Prop} {tg : Expr} (h : EvI W X tg e Γ c φ) (m : ∀ d, φ d → ψ d) : EvI W X tg e Γ c ψ := fun R0 H0 Rl σ R n H s hn Q k => h R0 H0 Rl σ R n H s hn Q fun J R' H' ds g j f x => k J R' H' ds g j (m ds f) x

/-! ### targets -/
theorem tg_name {i : Nat} {x : Str} (hN : X.N.Nodup) (hi : X.N[i]? = some x) (hx : Loc X.env.scope x) (hf : X.fn x = true ∨ X.env.scope.names.lookup x = some .local := by first | exact .inl rfl | exact .inr rfl | assumption) : Tg X (.Name x pos) d [(i, d)] :=
  fun v σ R H Q _ r k => wG_of (pg_name hN hi hx hf) (k [(i, v)] (.cons r .nil))
theorem tl_nil : TgL X [] [] [] := fun vs σ R H Q _ r k => by
  cases r
  exact wGs_of pgs_nil ⟨rfl, k [] .nil⟩
theorem BsR.append {K : PySem.W.Frag} {R : Hp} : ∀ {a : List (Nat × V)} {b : List (Nat × D)} {a' b'}, BsR K R a b → BsR K R a' b' → BsR K R (a ++ a') (b ++ b')
  | _, _, _, _, .nil, h => h
  | _, _, _, _, .cons r t, h => .cons r (t.append h)
theorem setAll_app (σ : L2.St) (a b : List (Nat × V)) : setAll σ (a ++ b) = setAll (setAll σ a) b := by unfold setAll; rw [List.foldl_append]
theorem tl_cons {es : List Expr} {ds : List D} {as bs : List (Nat × D)} (h1 : Tg X e d as) (h2 : TgL X es ds bs) (hs : (assignEach (e :: es) X.env).map (·.2) = assign e X.env :: (assignEach es X.env).map (·.2) := by rfl) : TgL X (e :: es) (d :: ds) (as ++ bs) :=
  fun vs σ R H Q hr r k => by
  cases r with
  | @cons v _ vs _ r t =>
    refine wGs_of (pgs_cons (wG_ok e) (wGs_ok es) hs) ⟨v, vs, rfl, h1 v σ R H _ hr r fun b1 q1 => h2 vs _ R H _ hr t fun b2 q2 => ?_⟩
    rw [← setAll_app]
    exact k _ (q1.append q2)
theorem tg_tup {es : List Expr} {ds : List D} {as : List (Nat × D)} {kk : Nat} (hc : X.calm = true) (h : TgL X es ds as) (hn : (assignEach es X.env).length = ds.length := by rfl) (hst : (assignEach es X.env).findIdx? (·.1) = none := by rfl) : Tg X (.Tuple es kk pos) (.tup ds) as :=
  fun v σ R H Q hr r k => by
  cases r with
  | @tup a xs _ q r =>
    exact wG_of (pg_tup hc (wGs_ok es) hn hst) ⟨a, xs, rfl, sqT_mono hr q, r.len, h xs σ R H Q hr r k⟩
end
end Qq
/-! Qe: statements, the body of a def. -/
namespace Qq
open PySem PySem.Spec PyProof.Rows L2
section
variable {W : Wd} {X : Cx} {Γ : List Sl} {n c c0 c1 c2 c3 : Nat} {φ ψ : D → Prop} {e a b : Expr} {pos : Pos} {d dx dy : D} {st : Stmt} {sts : List Stmt} {P : Pst}

theorem ss_nil (h : P.nx Γ n) : Sms W X [] Γ n P := fun R0 H0 Rl R σ H E s en => wSs_of pss_nil (en.nx Γ n R σ H s h)
theorem ss_cons (h : Sm W X st Γ n ⟨fun Γ' n' => Sms W X sts Γ' n' P, P.rt, P.bk, P.ct, P.rm⟩) : Sms W X (st :: sts) Γ n P := fun R0 H0 Rl R σ H E s en => by
  refine wSs_of (pss_cons (wS_ok st) (wSs_ok sts)) ?_
  refine h R0 H0 Rl R σ H _ s ⟨fun Γ' n' R' σ' H' s' k => k R0 H0 Rl R' σ' H' E s' en, en.rt, en.bk, en.ct, en.rm⟩
theorem ss_one (h : Sm W X st Γ n P) : Sms W X [st] Γ n P := fun R0 H0 Rl R σ H E s en => wSs_of (pss_one (wS_ok st)) (h R0 H0 Rl R σ H E s en)
theorem sm_ret (h : Ev W X e Γ c φ) (hl : n + c ≤ LIM) (k : ∀ d, φ d → P.rt d (n + c)) : Sm W X (.Return (some e) pos) Γ n P := fun R0 H0 Rl R σ H E s en => by
  refine wS_of (ps_ret (wE_ok e)) ?_
  refine h R0 H0 Rl σ R n H s hl _ fun v R' H' d g j f r => ?_
  have s' := s.grow g j
  exact en.rt d (n + c) R' v H' s'.gr s'.lo j s'.rb r (k d f)
theorem sm_set {i : Nat} {x : Str} {pos' : Pos} (hN : X.N.Nodup) (hi : X.N[i]? = some x) (hx : Loc X.env.scope x) (h : Ev W X e Γ c φ) (hl : n + c ≤ LIM) (k : ∀ d, φ d → P.nx (Γ.set i (.dat d)) (n + c))
    (hs : swapsWith e (some (.Name x pos')) pos.line X.env = pure false := by rfl) (hf : X.fn x = true ∨ X.env.scope.names.lookup x = some .local := by first | exact .inl rfl | exact .inr rfl | assumption) :
    Sm W X (.Assign [.Name x pos'] e pos) Γ n P := fun R0 H0 Rl R σ H E s en => by
  refine wS_of (ps_set hN hi hx (wE_ok e) hs hf) ?_
  refine h R0 H0 Rl σ R n H s hl _ fun v R' H' d g j f r => ?_
  exact en.nx _ _ R' _ H' ((s.grow g j).set r) (k d f)
/-- a new mutable object in a slot -/
theorem sm_setM {i : Nat} {x : Str} {pos' : Pos} {φs : Sl → Prop} (hN : X.N.Nodup) (hi : X.N[i]? = some x) (hx : Loc X.env.scope x) (h : EvM W X e Γ c φs) (hl : n + c ≤ LIM) (k : ∀ sl, φs sl → P.nx (Γ.set i sl) (n + c))
    (hs : swapsWith e (some (.Name x pos')) pos.line X.env = pure false := by rfl) (hf : X.fn x = true ∨ X.env.scope.names.lookup x = some .local := by first | exact .inl rfl | exact .inr rfl | assumption) :
    Sm W X (.Assign [.Name x pos'] e pos) Γ n P := fun R0 H0 Rl R σ H E s en => by
  refine wS_of (ps_set hN hi hx (wE_ok e) hs hf) ?_
  refine h R0 H0 Rl σ R n H s hl _ fun p R' H' sl g j hp mc f => ?_
  have s' := s.grow g j
  have h0 : H0 p = none := by
    cases q : H0 p with
    | none => rfl
    | some o => obtain ⟨o', e⟩ := s.gr.hb p o q; rw [hp] at e; cases e
  have nB : ¬ W.B p := So.nB s.j hp
  refine en.nx _ _ R' _ H' (s'.setM mc.isM ?_ ?_) (k sl f)
  · cases sl with
    | ml ds => obtain ⟨xs, a, b, r⟩ := mc; exact ⟨p, xs, rfl, a, h0, nB, b, r⟩
    | md ds => obtain ⟨xs, a, b, r⟩ := mc; exact ⟨p, xs, rfl, a, h0, nB, b, r⟩
    | _ => exact mc.elim
  · intro j t _ a b e
    have := s.env.ok j t _ a e
    cases t with
    | ml ds => obtain ⟨p', xs, e', _, _, _, h', _⟩ := this; cases e'; rw [hp] at h'; cases h'
    | md ds => obtain ⟨p', xs, e', _, _, _, h', _⟩ := this; cases e'; rw [hp] at h'; cases h'
    | _ => cases b
/-- y = [..]: the list is the def's own -/
theorem sm_setT {i : Nat} {t : TE} {st : Stmt} {φs : Sl → Prop} (hp : PS X st (tAsg t (gName i))) (h : EvMt W X t Γ c φs) (hl : n + c ≤ LIM) (k : ∀ sl, φs sl → P.nx (Γ.set i sl) (n + c)) : Sm W X st Γ n P := fun R0 H0 Rl R σ H E s en => by
  refine wS_of hp ?_
  refine h R0 H0 Rl σ R n H s hl _ fun p R' H' sl g j hp mc f => ?_
  have s' := s.grow g j
  have h0 : H0 p = none := by
    cases q : H0 p with
    | none => rfl
    | some o => obtain ⟨o', e⟩ := s.gr.hb p o q; rw [hp] at e; cases e
  have nB : ¬ W.B p := So.nB s.j hp
  refine en.nx _ _ R' _ H' (s'.setM mc.isM ?_ ?_) (k sl f)
  · cases sl with
    | ml ds => obtain ⟨xs, a, b, r⟩ := mc; exact ⟨p, xs, rfl, a, h0, nB, b, r⟩
    | md ds => obtain ⟨xs, a, b, r⟩ := mc; exact ⟨p, xs, rfl, a, h0, nB, b, r⟩
    | _ => exact mc.elim
  · intro j t _ a b e
    have := s.env.ok j t _ a e
    cases t with
    | ml ds => obtain ⟨p', xs, e', _, _, _, h', _⟩ := this; cases e'; rw [hp] at h'; cases h'
    | md ds => obtain ⟨p', xs, e', _, _, _, h', _⟩ := this; cases e'; rw [hp] at h'; cases h'
    | _ => cases b
theorem sm_asg {tg : Expr} (h : Ev W X e Γ c φ) (hl : n + c ≤ LIM) (k : ∀ d, φ d → ∃ as, Tg X tg d as ∧ P.nx (setG Γ as) (n + c)) (hs : swapsWithSole [tg] e pos.line X.env = pure false := by rfl) (hw : swappedStores [tg] e X.env = pure none := by rfl)
    (h1 : (assignEach [tg] X.env).map (·.2) = [assign tg X.env] := by rfl) : Sm W X (.Assign [tg] e pos) Γ n P := fun R0 H0 Rl R σ H E s en => by
  refine wS_of (ps_asg (wE_ok e) (wG_ok tg) hs hw h1) ?_
  refine h R0 H0 Rl σ R n H s hl _ fun v R' H' d g j f r => ?_
  obtain ⟨as, ht, q⟩ := k d f
  exact ht v σ R' H' _ g.rh r fun bs hb => en.nx _ _ R' _ H' ((s.grow g j).setAll hb) q
/-- a, b = e1, e2 -/
theorem sm_par {i j : Nat} {x y : Str} {a b : Expr} {px py pt : Pos} {kt k2 : Nat} {pt2 : Pos} {φs : List Sl → Prop} (hc : X.calm = true) (hN : X.N.Nodup) (hi : X.N[i]? = some x) (hj : X.N[j]? = some y) (hij : i ≠ j)
    (hx : X.env.scope.names.lookup x = some .local) (hy : X.env.scope.names.lookup y = some .local) (h : EvS W X [a, b] Γ c φs) (hl : n + c ≤ LIM) (k : ∀ ss, φs ss → ∃ d1 d2, ss = [.dat d1, .dat d2] ∧ P.nx ((Γ.set i (.dat d1)).set j (.dat d2)) (n + c))
    (hw : swappedStores [.Tuple [.Name x px, .Name y py] kt pt] (.Tuple [a, b] k2 pt2) X.env = pure (some [x, y]))
    (hs : swapsWithSole [.Tuple [.Name x px, .Name y py] kt pt] (.Tuple [a, b] k2 pt2) pos.line X.env = pure false := by rfl) : Sm W X (.Assign [.Tuple [.Name x px, .Name y py] kt pt] (.Tuple [a, b] k2 pt2) pos) Γ n P := fun R0 H0 Rl R σ H E s en => by
  refine wS_of (ps_par hc hN hi hj hij hx hy (wA_ok [a, b]) hw hs) ?_
  refine h R0 H0 Rl σ R n H s hl _ fun vs R' H' ss g j f r => ?_
  obtain ⟨d1, d2, rfl, q⟩ := k ss f
  cases r with | cons r1 r => cases r with | cons r2 r => cases r; cases r1 with | dat r1 => cases r2 with | dat r2 =>
    exact ⟨_, _, rfl, en.nx _ _ R' _ H' (((s.grow g j).set r1).set r2) q⟩
theorem sm_if {C : Expr} {x y : List Stmt} {ψ : Bool → Prop} (hc : EvT W X C Γ c ψ) (hl : n + c ≤ LIM) (h1 : ψ true → Sms W X x Γ (n + c) P) (h2 : ψ false → Sms W X y Γ (n + c) P) : Sm W X (.If C x y pos) Γ n P := fun R0 H0 Rl R σ H E s en => by
  refine wS_of (ps_if (wT_ok C) (wSs_ok x) (wSs_ok y)) ?_
  refine hc R0 H0 Rl σ R n H s hl _ fun b R' H' g j f => ?_
  cases b with
  | true => exact iteT (h1 f R0 H0 Rl R' σ H' E (s.grow g j) en)
  | false => exact iteF (h2 f R0 H0 Rl R' σ H' E (s.grow g j) en)
theorem sm_expr (h : Ev W X e Γ c φ) (hl : n + c ≤ LIM) (k : (∃ d, φ d) → P.nx Γ (n + c)) (hs : swapsWith e none pos.line X.env = pure false := by rfl) : Sm W X (.Expr e pos) Γ n P := fun R0 H0 Rl R σ H E s en => by
  refine wS_of (ps_expr (wE_ok e) hs) ?_
  refine h R0 H0 Rl σ R n H s hl _ fun v R' H' d g j f r => ?_
  exact en.nx _ _ R' _ H' (s.grow g j) (k ⟨d, f⟩)
theorem sm_brk (h : P.bk Γ n) : Sm W X (.Break pos) Γ n P := fun R0 H0 Rl R σ H E s en => wS_of ps_break (en.bk _ _ R σ H s h)
theorem sm_cont (h : P.ct Γ n) : Sm W X (.Continue pos) Γ n P := fun R0 H0 Rl R σ H E s en => wS_of ps_continue (en.ct _ _ R σ H s h)
theorem sm_pass (h : P.nx Γ n) : Sm W X (.Pass pos) Γ n P := fun R0 H0 Rl R σ H E s en => wS_of ps_pass (en.nx _ _ R σ H s h)
theorem So.relo {K : PySem.W.Frag} {R0 H0 Rl R H : Hp} {σ : L2.St} (s : So W K R0 H0 Rl Γ R n σ H) {Rm : Hp} (h : Same Rm R) : So W K R0 H0 Rm Γ R n σ H := ⟨s.gr, h, s.rb, s.j, s.env⟩
theorem sm_for {α : Type} {xs : List α} {enc : α → D} {tg iter : Expr} {body : List Stmt} (hp : PassesOwn (model X.prog X.w) X.A X.env X.xe) (hc : X.calm = true) (hi : EvI W X tg iter Γ c (Is (xs.map enc))) (hl : n + c ≤ LIM) (I : Nat → List Sl → Nat → Prop) (h0 : I 0 Γ (n + c))
    (hs : ∀ i d Γ' n', xs[i]? = some d → I i Γ' n' → ∃ as, Tg X tg (enc d) as ∧ Sms W X body (setG Γ' as) n' ⟨I (i + 1), P.rt, P.nx, I (i + 1), P.rm⟩) (hd : ∀ Γ' n', I xs.length Γ' n' → P.nx Γ' n')
    (hf : ∀ x, foldedSetIterable iter X.env x = pure x := by intro _; rfl) : Sm W X (.For tg iter body [] pos) Γ n P := fun R0 H0 Rl R σ H E s en => by
  refine wS_of (ps_for hp hc (wI_ok tg iter) (wG_ok tg) (wSs_ok body) hf) ?_
  refine hi R0 H0 Rl σ R n H s hl _ fun J R1 H1 ds g1 j1 f1 ⟨G, Y, wk, hG, hY⟩ => ?_
  obtain rfl : ds = xs.map enc := f1
  rw [List.length_map] at wk
  have s1 := s.grow g1 j1
  refine for_it wk (fun i σ' H' => ∃ Γ' n' R', So W X.K R0 H0 R1 Γ' R' n' σ' H' ∧ I i Γ' n') ⟨Γ, _, R1, s1.relo (Same.refl _), h0⟩ ?_ ?_ ?_
  · rintro i σ' H' _ ⟨Γ', n', R', s', _⟩
    exact hG R' H' s'.lo s'.rh
  · rintro i x σ' H' H'' hi ⟨Γ', n', R', s', q⟩ y
    obtain ⟨R2, dd, g2, kp, hdd, rx⟩ := hY i R' H' x H'' (by rw [List.length_map]; exact hi) s'.lo s'.rh y
    obtain ⟨d, hd', ed⟩ : ∃ d, xs[i]? = some d ∧ enc d = dd := by
      rw [List.getElem?_map] at hdd
      cases q : xs[i]? with
      | none => rw [q] at hdd; cases hdd
      | some d => rw [q] at hdd; exact ⟨d, rfl, Option.some.inj hdd⟩
    subst ed
    obtain ⟨as, ht, hb⟩ := hs i d Γ' n' hd' q
    refine ht x σ' R2 H'' _ g2.rh rx fun bs hbs => ?_
    have s2 := (s'.grow g2 (W.loc s'.j fun b o _ e => kp b o e)).setAll hbs
    refine hb R0 H0 R1 R2 _ H'' _ s2 ⟨fun Γ2 n2 R3 σ3 H3 s3 z => ⟨Γ2, n2, R3, s3, z⟩, fun d2 n2 R3 v H3 g lo j rb r z => en.rt d2 n2 R3 v H3 g ((s1.lo).trans lo) j rb r z, fun Γ2 n2 R3 σ3 H3 s3 z => en.nx Γ2 n2 R3 σ3 H3 (s3.relo (s1.lo.trans s3.lo)) z, fun Γ2 n2 R3 σ3 H3 s3 z => ⟨Γ2, n2, R3, s3, z⟩, fun n2 R3 v H3 g lo j rb z => en.rm n2 R3 v H3 g ((s1.lo).trans lo) j rb z⟩
  · rintro σ' H' ⟨Γ', n', R', s', q⟩
    exact en.nx Γ' n' R' σ' H' (s'.relo (s1.lo.trans s'.lo)) (hd Γ' n' q)
/-- xs.append(e) to a slot's mutable list -/
theorem sm_append {i : Nat} {x : Str} {ds : List D} {apos cpos npos : Pos} (hN : X.N[i]? = some x) (hv : Vis X.env.scope x) (hΓ : Γ[i]? = some (.ml ds)) (h : Ev W X e Γ c φ) (hl : n + c ≤ LIM) (hlen : ds.length < 4000) (k : ∀ d, φ d → P.nx (Γ.set i (.ml (ds ++ [d]))) (n + c))
    (hd : (x == ("__debug__" : Str)) = false := by decide) (hcd : (x == ("__classdict__" : Str)) = false := by decide)
    (hbase : attributeBase (.Name x npos) "append" X.env (eval (.Name x npos) X.env) = eval (.Name x npos) X.env := by rfl)
    (hfew : ((backTo cpos (starEach [e] X.env)).all (fun x => !x.1) && (backToKw cpos (keywordEach [] X.env)).all (fun x => x.1.isSome)
      && decide (([e] : List Expr).length + ([] : List Keyword).length + (if ([] : List Keyword).isEmpty then 0 else 1) < 30)) = true := by rfl)
    (hline : (apos.endLine == cpos.line) = true := by rfl) (hs : starEach [e] X.env = (false, eval e X.env) :: starEach [] X.env := by rfl) (hplain : (backTo cpos (starEach [] X.env)).any (·.1) = false := by rfl)
    (hsw : swapsWith (.Call (.Attribute (.Name x npos) "append" apos) [e] [] cpos) none pos.line X.env = pure false := by rfl) :
    Sm W X (.Expr (.Call (.Attribute (.Name x npos) "append" apos) [e] [] cpos) pos) Γ n P := fun R0 H0 Rl R σ H E s en => by
  refine wS_of (ps_expr (pe_bm PySem.F.plainAttrs_list PySem.F.slot_list_append PySem.F.type_list_append mt_append (pe_var hN hv hd hcd) (pa_cons (wE_ok e) pa_nil hs) hbase hfew hline hs hplain) hsw) ?_
  have hlt : i < σ.length := by rw [s.env.len]; exact (List.getElem?_eq_some_iff.mp hΓ).1
  obtain ⟨p, xs, e1, hR, h0, nB, hH, r⟩ := s.env.ok i _ σ[i] hΓ (List.getElem?_eq_getElem hlt)
  have hσ : σ[i]? = some (some (.ref p)) := by rw [List.getElem?_eq_getElem hlt, e1]
  refine ⟨_, hσ, .inl ⟨rfl, _, SqL.of hH⟩, ?_⟩
  refine h R0 H0 Rl σ R n H s hl _ fun v R' H' d g j f rv => ?_
  have hH' : H' p = some (.lst xs) := g.hh p _ nB hH
  have hR' : R' p = none := g.nw p _ hH hR
  refine ⟨p, xs, v, rfl, rfl, hH', Nat.lt_of_lt_of_le (by rw [r.len]; exact hlen : xs.length < 4000) (by decide), ?_⟩
  refine en.nx _ _ R' _ _ ((s.grow g j).write hΓ rfl rfl hσ hR' h0 nB ?_) (k d f)
  exact ⟨p, xs ++ [v], rfl, hR', h0, nB, upd_same, (r.mono g.rr).append (.cons rv .nil)⟩
/-- a slot's mutable list is told as data -/
theorem So.freezeL {K : PySem.W.Frag} {R0 H0 Rl R H : Hp} {σ : L2.St} {i : Nat} {ds : List D} (s : So W K R0 H0 Rl Γ R n σ H) (hΓ : Γ[i]? = some (.ml ds)) : ∃ R', Same R R' ∧ So W K R0 H0 Rl (Γ.set i (.dat (.lst ds))) R' n σ H := by
  have hlt : i < σ.length := by rw [s.env.len]; exact (List.getElem?_eq_some_iff.mp hΓ).1
  obtain ⟨p, xs, e1, hR, h0, nB, hH, r⟩ := s.env.ok i _ σ[i] hΓ (List.getElem?_eq_getElem hlt)
  have hσ : σ[i]? = some (some (.ref p)) := by rw [List.getElem?_eq_getElem hlt, e1]
  exact ⟨_, Same.freeze hR, s.frz hΓ rfl hσ hR h0 nB hH (.lst (SqL.of upd_same) (r.mono (Same.freeze hR)))⟩
theorem So.freezeD {K : PySem.W.Frag} {R0 H0 Rl R H : Hp} {σ : L2.St} {i : Nat} {ds : List (Key × D)} (s : So W K R0 H0 Rl Γ R n σ H) (hΓ : Γ[i]? = some (.md ds)) : ∃ p u, H p = some u ∧ Mut (some u) ∧ ∀ od, So W K R0 H0 Rl (Γ.set i (.dat (.dct ds))) (upd R p (.frz od u)) n σ (upd H p (.frz od u)) := by
  have hlt : i < σ.length := by rw [s.env.len]; exact (List.getElem?_eq_some_iff.mp hΓ).1
  obtain ⟨p, xs, e1, hR, h0, nB, hH, r⟩ := s.env.ok i _ σ[i] hΓ (List.getElem?_eq_getElem hlt)
  have hσ : σ[i]? = some (some (.ref p)) := by rw [List.getElem?_eq_getElem hlt, e1]
  refine ⟨p, _, hH, trivial, fun od => ?_⟩
  have sm : Same R (upd R p (.frz od (.dK xs))) := Same.freeze hR
  have hl : i < Γ.length := (List.getElem?_eq_some_iff.mp hΓ).1
  refine ⟨s.gr.mfz h0 hR, s.lo.trans sm, fun b hb => by rw [upd_ne (show b ≠ p from fun z => nB (z ▸ hb))]; exact s.rb b hb, W.loc s.j fun b o hb e => by
    rw [upd_ne (show b ≠ p from fun z => hb.elim (fun h => nB (z ▸ h)) fun ⟨φ, h⟩ => (by rw [z, hH, h] at e; cases e))]; exact e, by simp [s.env.len], fun j t u a b => ?_, fun k j t u p' a b c e f g => ?_⟩
  · by_cases q : i = j
    · subst q
      rw [List.getElem?_set_self hl] at a; cases a
      rw [hσ] at b; cases b
      exact ⟨_, rfl, .dct ⟨od, upd_same⟩ (r.mono sm)⟩
    · rw [List.getElem?_set_ne q] at a
      have h := s.env.ok j t u a b
      cases t with
      | un => trivial
      | dat d => obtain ⟨v, e, h⟩ := h; exact ⟨v, e, h.mono sm⟩
      | at_ d => exact h
      | ml ds' =>
        obtain ⟨p', xs', e, h1, h2, h3, h4, h5⟩ := h
        subst e
        have ne : p' ≠ p := fun z => q (s.env.dis i j _ _ p hΓ a rfl rfl hσ (z ▸ b))
        exact ⟨p', xs', rfl, by rw [upd_ne ne]; exact h1, h2, h3, by rw [upd_ne ne]; exact h4, h5.mono sm⟩
      | md ds' =>
        obtain ⟨p', xs', e, h1, h2, h3, h4, h5⟩ := h
        subst e
        have ne : p' ≠ p := fun z => q (s.env.dis i j _ _ p hΓ a rfl rfl hσ (z ▸ b))
        exact ⟨p', xs', rfl, by rw [upd_ne ne]; exact h1, h2, h3, by rw [upd_ne ne]; exact h4, h5.mono sm⟩
  · by_cases q : i = k
    · subst q
      rw [List.getElem?_set_self hl] at a; cases a; cases c
    · by_cases q' : i = j
      · subst q'
        rw [List.getElem?_set_self hl] at b; cases b; cases e
      · rw [List.getElem?_set_ne q] at a
        rw [List.getElem?_set_ne q'] at b
        exact s.env.dis k j t u p' a b c e f g
theorem ss_frzL {i : Nat} {ds : List D} (hΓ : Γ[i]? = some (.ml ds)) (h : Sms W X sts (Γ.set i (.dat (.lst ds))) n P) : Sms W X sts Γ n P := fun R0 H0 Rl R σ H E s en => by
  obtain ⟨R', _, s'⟩ := s.freezeL hΓ
  exact h R0 H0 Rl R' σ H E s' en
theorem ss_frzD {i : Nat} {ds : List (Key × D)} (hΓ : Γ[i]? = some (.md ds)) (h : Sms W X sts (Γ.set i (.dat (.dct ds))) n P) : Sms W X sts Γ n P := fun R0 H0 Rl R σ H E s en => by
  obtain ⟨p, u, hp, mu, z⟩ := s.freezeD hΓ
  exact wSs_lock ⟨p, u, hp, mu, fun od => h R0 H0 Rl _ σ _ E (z od) en⟩
end

/-! ### the body of a def -/
abbrev FnP (K : PySem.W.Frag) (x : Str) (st : Stmt) (f : Addr) (fd : FuncData) : Prop := FunD K x x (defArgs st) (defBody st) (defScope st) [] [] f fd
def unsl (n : Nat) : List Sl := List.replicate n .un
theorem argL_env {K : PySem.W.Frag} {W : Wd} {R H : Hp} {N : List Str} {vs : List V} {as : List Sl} (r : ArgL K R vs as) (hl : vs.length ≤ N.length) : Env' K W H R H (L2.start N vs) (as ++ unsl (N.length - as.length)) := by
  have hv := r.len
  have len : (L2.start N vs).length = (as ++ unsl (N.length - as.length)).length := by
    unfold L2.start unsl
    rw [List.length_append, List.length_append, List.length_map, List.length_replicate, List.length_replicate, hv]
  have key : ∀ {vs : List V} {as : List Sl}, ArgL K R vs as → ∀ (m : Nat) (i : Nat) (s : Sl) (o : Option V), (as ++ unsl m)[i]? = some s → (vs.map some ++ List.replicate m none)[i]? = some o → s.isM = false ∧ SlOk K W H R H o s := by
    intro vs as r m
    induction r with
    | nil =>
      intro i s o a b
      have : s ∈ unsl m := by simpa using List.mem_of_getElem? a
      rw [List.eq_of_mem_replicate this]
      exact ⟨rfl, trivial⟩
    | cons h t ih =>
      intro i s o a b
      cases i with
      | zero =>
        simp at a b
        subst a; subst b
        cases h with
        | dat h => exact ⟨rfl, _, rfl, h⟩
        | at_ a => exact ⟨rfl, rfl⟩
      | succ i => exact ih i s o (by simpa using a) (by simpa using b)
  have e : N.length - vs.length = N.length - as.length := by rw [hv]
  refine ⟨len, fun i s o a b => ?_, fun i j s t p a b c _ _ _ => ?_⟩
  · unfold L2.start at b
    rw [e] at b
    exact (key r _ i s o a b).2
  · have hi : i < (L2.start N vs).length := by rw [len]; exact (List.getElem?_eq_some_iff.mp a).1
    obtain ⟨o, q⟩ : ∃ o, (L2.start N vs)[i]? = some o := ⟨_, List.getElem?_eq_getElem hi⟩
    unfold L2.start at q
    rw [e] at q
    have this := (key r (N.length - as.length) i s o a q).1
    rw [this] at c; cases c
section
variable {P : Program} {w : World} {K : PySem.W.Frag} {mg : Str → Option Value} {base : Heap}
/-- a def keeps its promise -/
theorem fn_ok {x : Str} {st : Stmt} {f : Addr} {fd : FuncData} {N ps : List Str} {k c : Nat} {S : Wd → List Sl → (D → Prop) → Prop} (F : FnP K x st f fd) (sc : FnScope N ps (defScope st)) (hS : ∀ W as φ, S W as φ → as.length = ps.length) (hNl : ps.length ≤ N.length)
    (body : ∀ (cdv : Value) (A : Around) (outer : List Env) (s : Shared) (H : Hp) (E : XK) (W : Wd) (as : List Sl) (φ : D → Prop) (n : Nat), Room k (A.deeper (envOfC x (defScope st) s.heap.objs.size f cdv)) → S W as φ → n + c ≤ LIM →
      Sms W (cxOf CX0 P w K mg base N x (defScope st) f cdv A outer s H E).nox (defBody st) (as ++ unsl (N.length - as.length)) n ⟨fun _ n' => φ .non ∧ n' ≤ n + c, fun d n' => φ d ∧ n' ≤ n + c, fun _ _ => False, fun _ _ => False, fun _ _ _ _ _ => False⟩) :
    FnOk P w K mg base CX0 (k + 1) f fd ps (spF K c S) := by
  refine F.ok sc (fun vs H Q E h => ?_) (fun cdv A outer s H vs Q E hr h => ?_)
  · obtain ⟨W, R, n, as, φ, _, _, _, _, ra, hS', _⟩ := h
    rw [ra.len]; exact hS W as φ hS'
  · obtain ⟨W, R, n, as, φ, rh, rb, j, hn, ra, hS', k⟩ := h
    refine ⟨_, PSs.nox (wSs_ok _), ?_⟩
    refine body cdv A outer s H E W as φ n hr hS' hn R H R R (L2.start N vs) H _ ⟨Gr.refl rh, Same.refl _, rb, j, argL_env ra (by rw [ra.len, hS W as φ hS']; exact hNl)⟩ ⟨?_, ?_, fun _ _ _ _ _ _ z => z.elim, fun _ _ _ _ _ _ z => z.elim, fun _ _ _ _ _ _ _ _ z => z.elim⟩
    · rintro Γ' n' R' σ' H' s' ⟨f, hle⟩
      exact k .non R' H' .non s'.gr (W.mono s'.j hle) f .non
    · rintro d n' R' v H' g lo j' rb' r ⟨f, hle⟩
      exact k v R' H' d g (W.mono j' hle) f r
end
end Qq
/-! Qf: operations on data, built-ins on data. -/
namespace Qq
open PySem PySem.Spec PyProof.Rows L2
section
variable {K : PySem.W.Frag} {R H : Hp}
theorem r2_val {r : L2.R2} {dx dy d : D} (h : ∀ x y R H (Q : VK), Same R H → Rp K R x dx → Rp K R y dy → ∀ v, Rp K R v d → (∀ v, Rp K R v d → Q v H) → r x y H Q) (w : ∀ R x y, Rp K R x dx → Rp K R y dy → ∃ v, Rp K R v d) : R2D K r dx dy d := fun x y R H Q hr rx ry k => by
  obtain ⟨v, rv⟩ := w R x y rx ry
  exact h x y R H Q hr rx ry v rv fun v rv => k v R H (Gr.refl hr) rv
theorem r2_I0 {f : Int → Int → Int} {i j : Int} : R2D K (rI0 fun i j => .int (f i j)) (.int i) (.int j) (.int (f i j)) := fun x y R H Q hr rx ry k => by
  cases rx; cases ry; exact ⟨i, j, rfl, rfl, k _ R H (Gr.refl hr) (.int _)⟩
theorem r2_B0 {f : Int → Int → Bool} {i j : Int} : R2D K (rI0 fun i j => .bl (f i j)) (.int i) (.int j) (.bl (f i j)) := fun x y R H Q hr rx ry k => by
  cases rx; cases ry; exact ⟨i, j, rfl, rfl, k _ R H (Gr.refl hr) (.bl _)⟩
theorem r2_I {C : Int → Int → Prop} {f : Int → Int → Int} {i j : Int} (hc : C i j) : R2D K (rI C fun i j => .int (f i j)) (.int i) (.int j) (.int (f i j)) := fun x y R H Q hr rx ry k => by
  cases rx; cases ry; exact ⟨i, j, rfl, rfl, hc, k _ R H (Gr.refl hr) (.int _)⟩
/-! ### equality of scalars -/
def scD : D → Bool
  | .non => true | .bl _ => true | .int _ => true | .str _ => true
  | _ => false
/-- == of scalars that may be compared -/
def eqS : D → D → Bool
  | .non, .non => true
  | .bl a, .bl b => decide (a = b)
  | .int a, .int b => decide (a = b)
  | .str a, .str b => decide (a = b)
  | _, _ => false
def cmpS : D → D → Bool
  | .bl _, .int _ => false
  | .int _, .bl _ => false
  | a, b => scD a && scD b
theorem r2_eq {dx dy : D} (h : cmpS dx dy = true) : R2D K rEq dx dy (.bl (eqS dx dy)) := fun x y R H Q hr rx ry k => by
  have e : scal x y = true ∧ decide (x = y) = eqS dx dy := by
    cases rx <;> cases ry <;> first | exact ⟨rfl, by simp [eqS]⟩ | (simp [cmpS, scD] at h) 
  exact ⟨e.1, by rw [e.2]; exact k _ R H (Gr.refl hr) (.bl _)⟩
theorem r2_ne {dx dy : D} (h : cmpS dx dy = true) : R2D K rNe dx dy (.bl (!eqS dx dy)) := fun x y R H Q hr rx ry k => by
  have e : scal x y = true ∧ decide (x = y) = eqS dx dy := by
    cases rx <;> cases ry <;> first | exact ⟨rfl, by simp [eqS]⟩ | (simp [cmpS, scD] at h)
  exact ⟨e.1, by rw [e.2]; exact k _ R H (Gr.refl hr) (.bl _)⟩
def isNonD : D → Bool
  | .non => true
  | _ => false
theorem non_dec {x : V} {dx : D} (r : Rp K R x dx) : decide (x = .non) = isNonD dx := by
  cases r <;> first | rfl | (exact decide_eq_false (fun z => nomatch z))
theorem r2_isN {dx : D} : R2D K rIsN dx .non (.bl (isNonD dx)) := fun x y R H Q hr rx ry k => by
  cases ry; exact ⟨rfl, by rw [non_dec rx]; exact k _ R H (Gr.refl hr) (.bl _)⟩
theorem r2_notN {dx : D} : R2D K rNotN dx .non (.bl (!isNonD dx)) := fun x y R H Q hr rx ry k => by
  cases ry; exact ⟨rfl, by rw [non_dec rx]; exact k _ R H (Gr.refl hr) (.bl _)⟩
/-! ### texts -/
def ltS (a b : Str) : Bool := decide (a.cps.toList < b.cps.toList)
abbrev rLtS : L2.R2 := fun x y H Q => ∃ i j, x = .str i ∧ y = .str j ∧ Q (.bl (decide (i.cps.toList < j.cps.toList))) H
abbrev rLeS : L2.R2 := fun x y H Q => ∃ i j, x = .str i ∧ y = .str j ∧ Q (.bl (!decide (j.cps.toList < i.cps.toList))) H
theorem r2_ltS {a b : Str} : R2D K rLtS (.str a) (.str b) (.bl (ltS a b)) := fun x y R H Q hr rx ry k => by
  cases rx; cases ry; exact ⟨a, b, rfl, rfl, k _ R H (Gr.refl hr) (.bl _)⟩
theorem r2_leS {a b : Str} : R2D K rLeS (.str a) (.str b) (.bl (!ltS b a)) := fun x y R H Q hr rx ry k => by
  cases rx; cases ry; exact ⟨a, b, rfl, rfl, k _ R H (Gr.refl hr) (.bl _)⟩
/-! ### in -/
def inD (x : D) (ds : List D) : Bool := ds.any fun y => eqS y x
def okIn (x : D) (ds : List D) : Bool := scD x && ds.all fun y => cmpS y x
theorem eqV_eqS {x y : V} {dx dy : D} (rx : Rp K R x dx) (ry : Rp K R y dy) (h : cmpS dx dy = true) : eqV x y = eqS dx dy := by
  cases rx <;> cases ry <;> first | rfl | (simp [cmpS, scD] at h) | simp [eqV, eqS]
theorem flat_scD {x : V} {dx : D} (rx : Rp K R x dx) (h : scD dx = true) : flatV x = true := by
  cases rx <;> first | rfl | (simp [scD] at h)
theorem sc_cmp {a b : D} (h : cmpS a b = true) : scD a = true ∧ scD b = true := by
  cases a <;> cases b <;> simp_all [cmpS, scD]
theorem inV_inD {x : V} {dx : D} (rx : Rp K R x dx) : ∀ {xs : List V} {ds : List D}, RpL K R xs ds → okIn dx ds = true → inV x xs = inD dx ds ∧ xs.all flatV = true
  | _, _, .nil, _ => ⟨rfl, rfl⟩
  | _, _, .cons (v := y) (d := dy) (vs := ys) (ds := ds) r t, h => by
    unfold okIn at h
    rw [Bool.and_eq_true, List.all_cons, Bool.and_eq_true] at h
    obtain ⟨h1, h2, h3⟩ := h
    have ih := inV_inD rx t (by unfold okIn; rw [h1, h3]; rfl)
    constructor
    · show (y :: ys).any _ = (dy :: ds).any _
      rw [List.any_cons, List.any_cons, eqV_eqS r rx h2]
      exact congrArg _ ih.1
    · rw [List.all_cons, flat_scD r (sc_cmp h2).1, ih.2]; rfl
theorem r2_in {neg : Bool} {dx : D} {ds : List D} (h : okIn dx ds = true) : R2D K (rIn K neg) dx (.tup ds) (.bl (if neg then !inD dx ds else inD dx ds)) := fun x y R H Q hr rx ry k => by
  cases ry with
  | @tup a xs _ q r =>
    obtain ⟨e1, e2⟩ := inV_inD rx r h
    unfold okIn at h
    rw [Bool.and_eq_true] at h
    exact ⟨a, xs, rfl, .inr (sqT_mono hr q), flat_scD rx h.1, e2, by rw [e1]; exact k _ R H (Gr.refl hr) (.bl _)⟩
theorem r2_inL {neg : Bool} {dx : D} {ds : List D} (h : okIn dx ds = true) : R2D K (rIn K neg) dx (.lst ds) (.bl (if neg then !inD dx ds else inD dx ds)) := fun x y R H Q hr rx ry k => by
  cases ry with
  | @lst a xs _ q r =>
    obtain ⟨e1, e2⟩ := inV_inD rx r h
    unfold okIn at h
    rw [Bool.and_eq_true] at h
    exact ⟨a, xs, rfl, .inl (sqL_mono hr q), flat_scD rx h.1, e2, by rw [e1]; exact k _ R H (Gr.refl hr) (.bl _)⟩
/-! ### subscripts -/
theorem atI_rp {xs : List V} {ds : List D} (r : RpL K R xs ds) {i : Int} {d : D} (h : atI ds i = some d) : ∃ v, atI xs i = some v ∧ Rp K R v d := by
  unfold atI at h ⊢
  rw [r.len]
  cases q : ixN ds.length i with
  | none => rw [q] at h; cases h
  | some j =>
    rw [q] at h
    exact r.get' h
theorem r2_ixT {ds : List D} {i : Int} {d : D} (h : atI ds i = some d) : R2D K (rIxT K) (.tup ds) (.int i) d := fun x y R H Q hr rx ry k => by
  cases ry; cases rx with
  | @tup a xs _ q r =>
    obtain ⟨v, e, rv⟩ := atI_rp r h
    exact ⟨a, xs, i, v, rfl, rfl, sqT_mono hr q, e, k _ R H (Gr.refl hr) rv⟩
theorem r2_ixL {ds : List D} {i : Int} {d : D} (h : atI ds i = some d) : R2D K (rIxL K) (.lst ds) (.int i) d := fun x y R H Q hr rx ry k => by
  cases ry; cases rx with
  | @lst a xs _ q r =>
    obtain ⟨v, e, rv⟩ := atI_rp r h
    exact ⟨a, xs, i, v, rfl, rfl, sqL_mono hr q, e, k _ R H (Gr.refl hr) rv⟩
end
section
variable {W : Wd} {X : Cx} {Γ : List Sl} {n c c0 c1 c2 c3 : Nat} {φ ψ : D → Prop} {e a b : Expr} {pos : Pos} {d dx dy : D}
theorem ev_ixT {φa φb : D → Prop} (ha : Ev W X a Γ c1 φa) (hb : Ev W X b Γ c2 φb) (h : ∀ dx dy, φa dx → φb dy → ∃ ds i d, dx = .tup ds ∧ dy = .int i ∧ atI ds i = some d ∧ φ d) (hs : PlainIx b := by exact fun _ _ => rfl) : Ev W X (.Subscript a b pos) Γ (c1 + c2) φ :=
  ev_op2 (mk := fun a b => .Subscript a b pos) (fun h1 h2 => pe_ix ix_tup h1 h2 hs) ha hb fun dx dy f1 f2 => by
    obtain ⟨ds, i, d, rfl, rfl, q, f⟩ := h dx dy f1 f2
    exact ⟨d, r2_ixT q, f⟩
theorem ev_ixL {φa φb : D → Prop} (ha : Ev W X a Γ c1 φa) (hb : Ev W X b Γ c2 φb) (h : ∀ dx dy, φa dx → φb dy → ∃ ds i d, dx = .lst ds ∧ dy = .int i ∧ atI ds i = some d ∧ φ d) (hs : PlainIx b := by exact fun _ _ => rfl) : Ev W X (.Subscript a b pos) Γ (c1 + c2) φ :=
  ev_op2 (mk := fun a b => .Subscript a b pos) (fun h1 h2 => pe_ix ix_list h1 h2 hs) ha hb fun dx dy f1 f2 => by
    obtain ⟨ds, i, d, rfl, rfl, q, f⟩ := h dx dy f1 f2
    exact ⟨d, r2_ixL q, f⟩
theorem ev_ixTI {ds : List D} {i : Int} (ha : Ev W X a Γ c1 (Is (.tup ds))) (hb : Ev W X b Γ c2 (Is (.int i))) (h : atI ds i = some d) (hs : PlainIx b := by exact fun _ _ => rfl) : Ev W X (.Subscript a b pos) Γ (c1 + c2) (Is d) :=
  ev_ixT ha hb (fun x y e f => ⟨ds, i, d, e, f, h, rfl⟩) hs
theorem ev_ixLI {ds : List D} {i : Int} (ha : Ev W X a Γ c1 (Is (.lst ds))) (hb : Ev W X b Γ c2 (Is (.int i))) (h : atI ds i = some d) (hs : PlainIx b := by exact fun _ _ => rfl) : Ev W X (.Subscript a b pos) Γ (c1 + c2) (Is d) :=
  ev_ixL ha hb (fun x y e f => ⟨ds, i, d, e, f, h, rfl⟩) hs
/-- d[k] -/
theorem ev_dget {ds : List (Key × D)} {k : Key} (hu : X.A.units + 1 < cLine) (ha : Ev W X a Γ c1 (Is (.dct ds))) (hb : Ev W X b Γ c2 (Is (kD k))) (h : getK ds k = some d) (hs : NoSl b := by exact fun _ _ => rfl) : Ev W X (.Subscript a b pos) Γ (c1 + c2) (Is d) := fun R0 H0 Rl σ R n H s hn Q k' => by
  refine wE_of (pe_dget hu (wE_ok a) (wE_ok b) hs) ?_
  refine ha R0 H0 Rl σ R n H s (by omega) _ fun x R1 H1 dx g1 j1 f1 r1 => ?_
  refine hb R0 H0 Rl σ R1 _ H1 (s.grow g1 j1) (by omega) _ fun y R2 H2 dy g2 j2 f2 r2 => ?_
  rw [show dx = .dct ds from f1] at r1
  rw [show dy = kD k from f2] at r2
  have ey := rp_kD r2
  subst ey
  cases r1 with
  | @dct a kvs _ q0 r =>
    obtain ⟨o0, q0⟩ := q0
    have q : Rd _ a (.dK kvs) := .inr ⟨o0, q0⟩
    have r' := r.mono g2.rr
    cases qv : valV kvs k with
    | none => have := (r'.val k).2 qv; rw [h] at this; cases this
    | some v =>
      obtain ⟨y, e1, rv⟩ := (r'.val k).1 v qv
      rw [h] at e1; cases e1
      exact ⟨a, v, rfl, .inl ⟨kvs, k, rd_mono (g2.rr.trans g2.rh) q, rfl, qv.symm⟩, k' v R2 H2 d (g1.trans g2) (by rwa [Nat.add_assoc] at j2) rfl rv⟩
/-- k in d -/
theorem ev_din {ds : List (Key × D)} {k : Key} (hu : X.A.units + 1 < cLine) (ha : Ev W X a Γ c1 (Is (kD k))) (hb : Ev W X b Γ c2 (Is (.dct ds))) (hm : behindInMarks .In b = false := by rfl) : Ev W X (.Compare a [.In] [b] pos) Γ (c1 + c2) (Is (.bl (getK ds k).isSome)) := fun R0 H0 Rl σ R n H s hn Q k' => by
  refine wE_of (pe_cmp (pc_din hu (wE_ok a) (wE_ok b)) hm) ?_
  refine ha R0 H0 Rl σ R n H s (by omega) _ fun y R1 H1 dy g1 j1 f1 r1 => ?_
  refine hb R0 H0 Rl σ R1 _ H1 (s.grow g1 j1) (by omega) _ fun x R2 H2 dx g2 j2 f2 r2 => ?_
  rw [show dy = kD k from f1] at r1
  rw [show dx = .dct ds from f2] at r2
  have ey := rp_kD r1
  subst ey
  cases r2 with
  | @dct a kvs _ q0 r =>
    obtain ⟨o0, q0⟩ := q0
    have q : Rd _ a (.dK kvs) := .inr ⟨o0, q0⟩
    refine ⟨a, valV kvs k, rfl, .inl ⟨kvs, k, rd_mono g2.rh q, rfl, rfl⟩, ?_⟩
    have e : (valV kvs k).isSome = (getK ds k).isSome := by
      cases qv : valV kvs k with
      | none => rw [(r.val k).2 qv]; rfl
      | some v => obtain ⟨y, e1, _⟩ := (r.val k).1 v qv; rw [e1]; rfl
    rw [e]
    exact k' _ R2 H2 _ (g1.trans g2) (by rwa [Nat.add_assoc] at j2) rfl (.bl _)
theorem ev_dnotin {ds : List (Key × D)} {k : Key} (hu : X.A.units + 1 < cLine) (ha : Ev W X a Γ c1 (Is (kD k))) (hb : Ev W X b Γ c2 (Is (.dct ds))) (hm : behindInMarks .NotIn b = false := by rfl) : Ev W X (.Compare a [.NotIn] [b] pos) Γ (c1 + c2) (Is (.bl (!(getK ds k).isSome))) := fun R0 H0 Rl σ R n H s hn Q k' => by
  refine wE_of (pe_cmp (pc_dnotin hu (wE_ok a) (wE_ok b)) hm) ?_
  refine ha R0 H0 Rl σ R n H s (by omega) _ fun y R1 H1 dy g1 j1 f1 r1 => ?_
  refine hb R0 H0 Rl σ R1 _ H1 (s.grow g1 j1) (by omega) _ fun x R2 H2 dx g2 j2 f2 r2 => ?_
  rw [show dy = kD k from f1] at r1
  rw [show dx = .dct ds from f2] at r2
  have ey := rp_kD r1
  subst ey
  cases r2 with
  | @dct a kvs _ q0 r =>
    obtain ⟨o0, q0⟩ := q0
    have q : Rd _ a (.dK kvs) := .inr ⟨o0, q0⟩
    refine ⟨a, valV kvs k, rfl, .inl ⟨kvs, k, rd_mono g2.rh q, rfl, rfl⟩, ?_⟩
    have e : (valV kvs k).isSome = (getK ds k).isSome := by
      cases qv : valV kvs k with
      | none => rw [(r.val k).2 qv]; rfl
      | some v => obtain ⟨y, e1, _⟩ := (r.val k).1 v qv; rw [e1]; rfl
    rw [e]
    exact k' _ R2 H2 _ (g1.trans g2) (by rwa [Nat.add_assoc] at j2) rfl (.bl _)
/-- d.get(k) -/
theorem ev_get1 {ds : List (Key × D)} {k : Key} {apos cpos : Pos} (hu : X.A.units + 1 < cLine) (ha : Ev W X a Γ c1 (Is (.dct ds))) (hb : Ev W X b Γ c2 (Is (kD k))) (m : M1 X a "get" apos b cpos := by exact ⟨rfl, rfl, rfl, rfl⟩) :
    Ev W X (.Call (.Attribute a "get" apos) [b] [] cpos) Γ (c1 + c2) (Is ((getK ds k).getD .non)) := fun R0 H0 Rl σ R n H s hn Q k' => by
  refine wE_of (pe_dget1 hu (wE_ok a) (wE_ok b) m) ?_
  refine ha R0 H0 Rl σ R n H s (by omega) _ fun x R1 H1 dx g1 j1 f1 r1 => ?_
  rw [show dx = .dct ds from f1] at r1
  cases r1 with
  | @dct a kvs _ q0 r =>
    obtain ⟨o0, q0⟩ := q0
    have q : Rd _ a (.dK kvs) := .inr ⟨o0, q0⟩
    refine ⟨a, rfl, .inl ⟨kvs, rd_mono g1.rh q⟩, ?_⟩
    refine hb R0 H0 Rl σ R1 _ H1 (s.grow g1 j1) (by omega) _ fun y R2 H2 dy g2 j2 f2 r2 => ?_
    rw [show dy = kD k from f2] at r2
    have ey := rp_kD r2
    subst ey
    have r' := r.mono g2.rr
    refine ⟨valV kvs k, .inl ⟨kvs, k, rd_mono (g2.rr.trans g2.rh) q, rfl, rfl⟩, ?_⟩
    have j3 : W.J (n + (c1 + c2)) H2 := by rwa [Nat.add_assoc] at j2
    cases qv : valV kvs k with
    | none =>
      rw [(r'.val k).2 qv] at k'
      exact k' _ R2 H2 _ (g1.trans g2) j3 rfl .non
    | some v =>
      obtain ⟨y, e1, rv⟩ := (r'.val k).1 v qv
      rw [e1] at k'
      exact k' _ R2 H2 _ (g1.trans g2) j3 rfl rv

/-! ### isinstance -/
def tyD : D → String
  | .non => "NoneType" | .bl _ => "bool" | .int _ => "int" | .str _ => "str" | .tup _ => "tuple" | .lst _ => "list" | .dct _ => "dict" | .rws _ => "tuple"
theorem tyx {K : PySem.W.Frag} {R H : Hp} (hr : Same R H) {v : V} {d : D} (r : Rp K R v d) : TyX K H v (.type (tyD d)) := by
  cases r with
  | non => exact .base .non
  | bl b => exact .base (.bl b)
  | int i => exact .base (.int i)
  | str x => exact .base (.str x)
  | @tup a xs ds q r =>
    rcases sqT_mono hr q with (q | ⟨o, q⟩) | ⟨o, its, n, q, c, _⟩
    · exact .base (.tup q)
    · exact .fTuple q
    · exact .kTuple q c
  | @lst a xs ds q r =>
    rcases sqL_mono hr q with (q | ⟨o, q⟩) | ⟨o, its, n, q, c, _⟩
    · exact .base (.lst q)
    · exact .base (.frz q)
    · exact .kList q c
  | @dct a kvs ds q r => obtain ⟨o, q⟩ := q; exact .fDict (hr _ _ q)
  | @rws a xs ds q r => obtain ⟨o, q, _⟩ := q; exact .fTuple (hr _ _ q)
theorem ev_isi {T : String} {x2 : Str} {p p2 : Pos} {z : Bool} (hg : Gl X "isinstance") (hm : X.mg "isinstance" = none) (hg2 : Gl X x2) (hm2 : X.mg x2 = none) (hv2 : bootBuiltins x2 = some (.type T)) (ha : Ev W X a Γ c (Is d)) (h : kitB (tyD d) T = some z)
    (hn : x2 ≠ "__name__" := by decide) (hdb : (x2 == ("__debug__" : Str)) = false := by decide)
    (hs : starEach [a, .Name x2 p2] X.env = (false, eval a X.env) :: starEach [.Name x2 p2] X.env := by rfl) (hs2 : starEach [.Name x2 p2] X.env = (false, eval (.Name x2 p2) X.env) :: starEach [] X.env := by rfl) (hpl : (backTo pos (starEach [.Name x2 p2] X.env)).any (·.1) = false := by rfl) :
    Ev W X (.Call (.Name "isinstance" p) [a, .Name x2 p2] [] pos) Γ c (Is (.bl z)) := fun R0 H0 Rl σ R n H s hn' Q k => by
  refine wE_of (pe_callB call_isi hg hm PyProof.Rows.boot_isinstance (pa_cons (wE_ok a) (pa_cons (pe_bltn (v := .ty T) hg2 hm2 hv2 rfl hn hdb) pa_nil hs2) hs) (by decide) (by decide) hs hpl) ?_
  refine ha R0 H0 Rl σ R n H s hn' _ fun v R1 H1 d' g1 j1 f1 r1 => ?_
  rw [show d' = d from f1] at r1
  exact ⟨v, .ty T, _, _, z, rfl, .ty T, tyx g1.rh r1, kit_ty h, k _ R1 H1 _ g1 j1 rfl (.bl z)⟩

/-! ### built-ins -/
def lenD : D → Option Nat
  | .tup ds => some ds.length
  | .rws ds => some ds.length
  | .lst ds => some ds.length
  | .str z => some z.length
  | _ => none
abbrev rLenA (K : PySem.W.Frag) : List V → Hp → VK → Prop := fun xs H Q => (∃ p ys, xs = [V.ref p] ∧ (SqL K H p ys ∨ SqT K H p ys) ∧ Q (.int ys.length) H) ∨ (∃ z, xs = [.str z] ∧ z.length ≤ sizeLine ∧ Q (.int z.length) H)
theorem call_lenA : CallR X (.builtin "len") (rLenA X.K) := call_len_seq.or call_len_str
def strFits : D → Bool
  | .str z => decide (z.length ≤ 100000)
  | _ => true
theorem cd_len {ds : D} {m : Nat} (h : lenD ds = some m) (hz : strFits ds = true) : CD X.K (rLenA X.K) [ds] (.int m) := fun vs R H Q hr r k => by
  cases r with | cons r t => cases t; cases r with
  | @tup a xs ds q r => cases h; exact .inl ⟨a, xs, rfl, .inr (sqT_mono hr q), by rw [r.len]; exact k _ R H (Gr.refl hr) (.int _)⟩
  | @lst a xs ds q r => cases h; exact .inl ⟨a, xs, rfl, .inl (sqL_mono hr q), by rw [r.len]; exact k _ R H (Gr.refl hr) (.int _)⟩
  | @rws a xs ds q r => cases h; obtain ⟨o, q, _⟩ := q; exact .inl ⟨a, xs, rfl, .inr (sqT_mono hr (.inl (.inr ⟨o, q⟩))), by rw [r.len]; exact k _ R H (Gr.refl hr) (.int _)⟩
  | str z => cases h; exact .inr ⟨z, rfl, Nat.le_trans (of_decide_eq_true hz) (by decide), k _ R H (Gr.refl hr) (.int _)⟩
  | _ => cases h
variable {p : Pos}
abbrev Bn (X : Cx) (x : Str) : Prop := X.mg x = none
theorem st1 (a : Expr) (env : Env) (pos : Pos) : True := trivial
theorem ev_len {m : Nat} (hg : Gl X "len") (hm : Bn X "len") (ha : Ev W X a Γ c (Is d)) (h : lenD d = some m) (hz : strFits d = true) (he : starEach [a] X.env = (false, eval a X.env) :: starEach [] X.env := by rfl) (hpl : (backTo pos (starEach [] X.env)).any (·.1) = false := by rfl) :
    Ev W X (.Call (.Name "len" p) [a] [] pos) Γ c (Is (.int m)) := ev_callB call_lenA hg hm PySem.boot_len (es_consI ha es_nil he) (cdn (ds := [d]) rfl (cd_len h hz)) (by decide) (by decide) he hpl
theorem rp_bools {K : PySem.W.Frag} {R : Hp} : ∀ {xs : List V} {bs : List Bool}, RpL K R xs (bs.map D.bl) → xs = bs.map V.bl
  | _, [], h => by cases h; rfl
  | _, b :: bs, h => by cases h with | cons r t => cases r; rw [List.map_cons, rp_bools t]
theorem rp_ints {K : PySem.W.Frag} {R : Hp} : ∀ {xs : List V} {bs : List Int}, RpL K R xs (bs.map D.int) → xs = bs.map V.int
  | _, [], h => by cases h; rfl
  | _, b :: bs, h => by cases h with | cons r t => cases r; rw [List.map_cons, rp_ints t]
theorem rp_strs {K : PySem.W.Frag} {R : Hp} : ∀ {xs : List V} {bs : List Str}, RpL K R xs (bs.map D.str) → xs = bs.map V.str
  | _, [], h => by cases h; rfl
  | _, b :: bs, h => by cases h with | cons r t => cases r; rw [List.map_cons, rp_strs t]
theorem ints_rp {K : PySem.W.Frag} {R : Hp} : ∀ {bs : List Int}, RpL K R (bs.map V.int) (bs.map D.int)
  | [] => .nil
  | _ :: _ => .cons (.int _) ints_rp
theorem strs_rp {K : PySem.W.Frag} {R : Hp} : ∀ {bs : List Str}, RpL K R (bs.map V.str) (bs.map D.str)
  | [] => .nil
  | _ :: _ => .cons (.str _) strs_rp
theorem cd_all {bs : List Bool} : CD X.K (rAll X.K) [.lst (bs.map .bl)] (.bl (bs.all id)) := fun vs R H Q hr r k => by
  cases r with | cons r t => cases t; cases r with
  | @lst a xs ds q r => exact ⟨a, bs, rfl, by rw [← rp_bools r]; exact sqL_mono hr q, k _ R H (Gr.refl hr) (.bl _)⟩
theorem cd_any {bs : List Bool} : CD X.K (rAny X.K) [.lst (bs.map .bl)] (.bl (bs.any id)) := fun vs R H Q hr r k => by
  cases r with | cons r t => cases t; cases r with
  | @lst a xs ds q r => exact ⟨a, bs, rfl, by rw [← rp_bools r]; exact sqL_mono hr q, k _ R H (Gr.refl hr) (.bl _)⟩
theorem ev_all {bs : List Bool} (hc : X.calm = true) (hg : Gl X "all") (hm : Bn X "all") (ha : Ev W X a Γ c (Is (.lst (bs.map .bl)))) (he : starEach [a] X.env = (false, eval a X.env) :: starEach [] X.env := by rfl) (hpl : (backTo pos (starEach [] X.env)).any (·.1) = false := by rfl) :
    Ev W X (.Call (.Name "all" p) [a] [] pos) Γ c (Is (.bl (bs.all id))) := ev_callB (cr_all hc) hg hm PyProof.Rows.boot_all (es_consI ha es_nil he) (cdn (ds := [_]) rfl cd_all) (by decide) (by decide) he hpl
theorem ev_any {bs : List Bool} (hc : X.calm = true) (hg : Gl X "any") (hm : Bn X "any") (ha : Ev W X a Γ c (Is (.lst (bs.map .bl)))) (he : starEach [a] X.env = (false, eval a X.env) :: starEach [] X.env := by rfl) (hpl : (backTo pos (starEach [] X.env)).any (·.1) = false := by rfl) :
    Ev W X (.Call (.Name "any" p) [a] [] pos) Γ c (Is (.bl (bs.any id))) := ev_callB (cr_any hc) hg hm PyProof.Rows.boot_any (es_consI ha es_nil he) (cdn (ds := [_]) rfl cd_any) (by decide) (by decide) he hpl
/-- tuple(..) -/
abbrev rTupA (K : PySem.W.Frag) : List V → Hp → VK → Prop := fun xs H Q => ∃ p ys, xs = [.ref p] ∧ ((SqL K H p ys ∧ ∀ l, H l = none → Q (.ref l) (upd H l (.tup ys))) ∨ (SqT K H p ys ∧ Q (.ref p) H))
theorem cd_tupL {ds : List D} : CD X.K (rTupA X.K) [.lst ds] (.tup ds) := fun vs R H Q hr r k => by
  cases r with | cons r t => cases t; cases r with
  | @lst a xs ds q r => exact ⟨a, xs, rfl, .inl ⟨sqL_mono hr q, fun l hl => k _ _ _ (Gr.new hr hl) (.tup (SqT.of upd_same) (r.mono (Same.freeze (hr.free hl))))⟩⟩
theorem cd_tupT {ds : List D} : CD X.K (rTupA X.K) [.tup ds] (.tup ds) := fun vs R H Q hr r k => by
  cases r with | cons r t => cases t; cases r with
  | @tup a xs ds q r => exact ⟨a, xs, rfl, .inr ⟨sqT_mono hr q, k _ _ _ (Gr.refl hr) (.tup q r)⟩⟩
theorem ev_tupleL {φa : D → Prop} (hg : Gl X "tuple") (hm : Bn X "tuple") (ha : Ev W X a Γ c φa) (h : ∀ d, φa d → ∃ ds, (d = .lst ds ∨ d = .tup ds) ∧ φ (.tup ds)) (he : starEach [a] X.env = (false, eval a X.env) :: starEach [] X.env := by rfl) (hpl : (backTo pos (starEach [] X.env)).any (·.1) = false := by rfl) :
    Ev W X (.Call (.Name "tuple" p) [a] [] pos) Γ c φ := ev_callT call_tuple_of hg hm PyProof.Rows.boot_tuple (es_cons ha es_nil he) (fun ss ⟨d, r, e, f, g⟩ => by
      obtain rfl : r = [] := g
      obtain ⟨ds, q, z⟩ := h d f
      rcases q with rfl | rfl
      · exact ⟨[_], _, e, cd_tupL, z⟩
      · exact ⟨[_], _, e, cd_tupT, z⟩) (by decide) (by decide) he hpl
theorem ev_tupleI {ds : List D} (hg : Gl X "tuple") (hm : Bn X "tuple") (ha : Ev W X a Γ c (Is (.lst ds))) (he : starEach [a] X.env = (false, eval a X.env) :: starEach [] X.env := by rfl) (hpl : (backTo pos (starEach [] X.env)).any (·.1) = false := by rfl) :
    Ev W X (.Call (.Name "tuple" p) [a] [] pos) Γ c (Is (.tup ds)) := ev_tupleL hg hm ha (fun d e => ⟨ds, .inl e, rfl⟩) he hpl
end
end Qq
/-! Qg: isinstance by class, words for the walk "ev". -/
namespace Qq
open PySem PySem.Spec PyProof.Rows L2
def isIntT : D → Bool
  | .int _ => true | .bl _ => true
  | _ => false
def isBoolT : D → Bool
  | .bl _ => true
  | _ => false
def isStrT : D → Bool
  | .str _ => true
  | _ => false
def isTupT : D → Bool
  | .tup _ => true
  | .rws _ => true
  | _ => false
theorem kb_int (d : D) : kitB (tyD d) "int" = some (isIntT d) := by cases d <;> (dsimp only [tyD, isIntT]; decide +kernel)
theorem kb_bool (d : D) : kitB (tyD d) "bool" = some (isBoolT d) := by cases d <;> (dsimp only [tyD, isBoolT]; decide +kernel)
theorem kb_str (d : D) : kitB (tyD d) "str" = some (isStrT d) := by cases d <;> (dsimp only [tyD, isStrT]; decide +kernel)
theorem kb_tup (d : D) : kitB (tyD d) "tuple" = some (isTupT d) := by cases d <;> (dsimp only [tyD, isTupT]; decide +kernel)
theorem boot_bool : bootBuiltins "bool" = some (.type "bool") := by decide +kernel
section
variable {W : Wd} {X : Cx} {Γ : List Sl} {n c c0 c1 c2 c3 : Nat} {φ ψ : D → Prop} {e a b : Expr} {pos p p2 : Pos} {d dx dy : D}
theorem ev_isInt (hg : Gl X "isinstance") (hm : Bn X "isinstance") (hg2 : Gl X "int") (hm2 : Bn X "int") (ha : Ev W X a Γ c (Is d))
    (hs : starEach [a, .Name "int" p2] X.env = (false, eval a X.env) :: starEach [.Name "int" p2] X.env := by rfl) (hs2 : starEach [.Name "int" p2] X.env = (false, eval (.Name "int" p2) X.env) :: starEach [] X.env := by rfl) (hpl : (backTo pos (starEach [.Name "int" p2] X.env)).any (·.1) = false := by rfl) :
    Ev W X (.Call (.Name "isinstance" p) [a, .Name "int" p2] [] pos) Γ c (Is (.bl (isIntT d))) := ev_isi hg hm hg2 hm2 PyProof.Rows.boot_int ha (kb_int d) (by decide) (by decide) hs hs2 hpl
theorem ev_isBool (hg : Gl X "isinstance") (hm : Bn X "isinstance") (hg2 : Gl X "bool") (hm2 : Bn X "bool") (ha : Ev W X a Γ c (Is d))
    (hs : starEach [a, .Name "bool" p2] X.env = (false, eval a X.env) :: starEach [.Name "bool" p2] X.env := by rfl) (hs2 : starEach [.Name "bool" p2] X.env = (false, eval (.Name "bool" p2) X.env) :: starEach [] X.env := by rfl) (hpl : (backTo pos (starEach [.Name "bool" p2] X.env)).any (·.1) = false := by rfl) :
    Ev W X (.Call (.Name "isinstance" p) [a, .Name "bool" p2] [] pos) Γ c (Is (.bl (isBoolT d))) := ev_isi hg hm hg2 hm2 boot_bool ha (kb_bool d) (by decide) (by decide) hs hs2 hpl
theorem ev_isStr (hg : Gl X "isinstance") (hm : Bn X "isinstance") (hg2 : Gl X "str") (hm2 : Bn X "str") (ha : Ev W X a Γ c (Is d))
    (hs : starEach [a, .Name "str" p2] X.env = (false, eval a X.env) :: starEach [.Name "str" p2] X.env := by rfl) (hs2 : starEach [.Name "str" p2] X.env = (false, eval (.Name "str" p2) X.env) :: starEach [] X.env := by rfl) (hpl : (backTo pos (starEach [.Name "str" p2] X.env)).any (·.1) = false := by rfl) :
    Ev W X (.Call (.Name "isinstance" p) [a, .Name "str" p2] [] pos) Γ c (Is (.bl (isStrT d))) := ev_isi hg hm hg2 hm2 PyProof.Rows.boot_str ha (kb_str d) (by decide) (by decide) hs hs2 hpl
theorem ev_isTup (hg : Gl X "isinstance") (hm : Bn X "isinstance") (hg2 : Gl X "tuple") (hm2 : Bn X "tuple") (ha : Ev W X a Γ c (Is d))
    (hs : starEach [a, .Name "tuple" p2] X.env = (false, eval a X.env) :: starEach [.Name "tuple" p2] X.env := by rfl) (hs2 : starEach [.Name "tuple" p2] X.env = (false, eval (.Name "tuple" p2) X.env) :: starEach [] X.env := by rfl) (hpl : (backTo pos (starEach [.Name "tuple" p2] X.env)).any (·.1) = false := by rfl) :
    Ev W X (.Call (.Name "isinstance" p) [a, .Name "tuple" p2] [] pos) Γ c (Is (.bl (isTupT d))) := ev_isi hg hm hg2 hm2 PyProof.Rows.boot_tuple ha (kb_tup d) (by decide) (by decide) hs hs2 hpl
theorem ev_ltI {i j : Int} (ha : Ev W X a Γ c1 (Is (.int i))) (hb : Ev W X b Γ c2 (Is (.int j))) : Ev W X (.Compare a [.Lt] [b] pos) Γ (c1 + c2) (Is (.bl (decide (i < j)))) := ev_cmpI op_lt (nomark _) ha hb r2_B0
theorem ev_leI {i j : Int} (ha : Ev W X a Γ c1 (Is (.int i))) (hb : Ev W X b Γ c2 (Is (.int j))) : Ev W X (.Compare a [.LtE] [b] pos) Γ (c1 + c2) (Is (.bl (decide (i ≤ j)))) := ev_cmpI op_le (nomark _) ha hb r2_B0
theorem ev_gtI {i j : Int} (ha : Ev W X a Γ c1 (Is (.int i))) (hb : Ev W X b Γ c2 (Is (.int j))) : Ev W X (.Compare a [.Gt] [b] pos) Γ (c1 + c2) (Is (.bl (decide (j < i)))) := ev_cmpI op_gt (nomark _) ha hb r2_B0
theorem ev_geI {i j : Int} (ha : Ev W X a Γ c1 (Is (.int i))) (hb : Ev W X b Γ c2 (Is (.int j))) : Ev W X (.Compare a [.GtE] [b] pos) Γ (c1 + c2) (Is (.bl (decide (j ≤ i)))) := ev_cmpI op_ge (nomark _) ha hb r2_B0
theorem ev_eq (ha : Ev W X a Γ c1 (Is dx)) (hb : Ev W X b Γ c2 (Is dy)) (h : cmpS dx dy = true) : Ev W X (.Compare a [.Eq] [b] pos) Γ (c1 + c2) (Is (.bl (eqS dx dy))) := ev_cmpI op_eq (nomark _) ha hb (r2_eq h)
theorem ev_ne (ha : Ev W X a Γ c1 (Is dx)) (hb : Ev W X b Γ c2 (Is dy)) (h : cmpS dx dy = true) : Ev W X (.Compare a [.NotEq] [b] pos) Γ (c1 + c2) (Is (.bl (!eqS dx dy))) := ev_cmpI op_ne (nomark _) ha hb (r2_ne h)
theorem ev_isN {j : Nat} {q : Pos} (ha : Ev W X a Γ c1 (Is dx)) : Ev W X (.Compare a [.Is] [.Constant .none j q] pos) Γ (c1 + 0) (Is (.bl (isNonD dx))) := ev_cmpI op_isN1 (nomark _) ha ev_non r2_isN
theorem ev_notN {j : Nat} {q : Pos} (ha : Ev W X a Γ c1 (Is dx)) : Ev W X (.Compare a [.IsNot] [.Constant .none j q] pos) Γ (c1 + 0) (Is (.bl (!isNonD dx))) := ev_cmpI op_notN1 (nomark _) ha ev_non r2_notN
theorem ev_ltSS {i j : Str} (ha : Ev W X a Γ c1 (Is (.str i))) (hb : Ev W X b Γ c2 (Is (.str j))) : Ev W X (.Compare a [.Lt] [b] pos) Γ (c1 + c2) (Is (.bl (ltS i j))) := ev_cmpI op_lt_str (nomark _) ha hb r2_ltS
theorem ev_chII {C : Expr} {i j k : Int} (ha : Ev W X a Γ c1 (Is (.int i))) (hb : Ev W X b Γ c2 (Is (.int j))) (hc : Ev W X C Γ c3 (Is (.int k))) (hm : lastMarks [.LtE, .LtE] [b, C] = false := by with_unfolding_all rfl) :
    Ev W X (.Compare a [.LtE, .LtE] [b, C] pos) Γ (c1 + c2 + c3) (Is (.bl (decide (i ≤ j) && decide (j ≤ k)))) := ev_chain op_le op_le ha hb hc r2_B0 (fun _ => r2_B0) hm
theorem ev_chSS {C : Expr} {i j k : Str} (ha : Ev W X a Γ c1 (Is (.str i))) (hb : Ev W X b Γ c2 (Is (.str j))) (hc : Ev W X C Γ c3 (Is (.str k))) (hm : lastMarks [.LtE, .LtE] [b, C] = false := by with_unfolding_all rfl) :
    Ev W X (.Compare a [.LtE, .LtE] [b, C] pos) Γ (c1 + c2 + c3) (Is (.bl (!ltS j i && !ltS k j))) := ev_chain op_le_str op_le_str ha hb hc r2_leS (fun _ => r2_leS) hm
theorem ev_inT {ds : List D} (ha : Ev W X a Γ c1 (Is dx)) (hb : Ev W X b Γ c2 (Is (.tup ds))) (h : okIn dx ds = true) (hm : behindInMarks .In b = false := by rfl) : Ev W X (.Compare a [.In] [b] pos) Γ (c1 + c2) (Is (.bl (inD dx ds))) := ev_cmpI op_in_seq hm ha hb (r2_in (neg := false) h)
theorem ev_niT {ds : List D} (ha : Ev W X a Γ c1 (Is dx)) (hb : Ev W X b Γ c2 (Is (.tup ds))) (h : okIn dx ds = true) (hm : behindInMarks .NotIn b = false := by rfl) : Ev W X (.Compare a [.NotIn] [b] pos) Γ (c1 + c2) (Is (.bl (!inD dx ds))) := ev_cmpI op_notIn_seq hm ha hb (r2_in (neg := true) h)
theorem ev_inL {ds : List D} (ha : Ev W X a Γ c1 (Is dx)) (hb : Ev W X b Γ c2 (Is (.lst ds))) (h : okIn dx ds = true) (hm : behindInMarks .In b = false := by rfl) : Ev W X (.Compare a [.In] [b] pos) Γ (c1 + c2) (Is (.bl (inD dx ds))) := ev_cmpI op_in_seq hm ha hb (r2_inL (neg := false) h)
theorem ev_addI {i j : Int} (ha : Ev W X a Γ c1 (Is (.int i))) (hb : Ev W X b Γ c2 (Is (.int j))) : Ev W X (.BinOp a .Add b pos) Γ (c1 + c2) (Is (.int (i + j))) := ev_binI op_add ha hb r2_I0
theorem ev_subI {i j : Int} (ha : Ev W X a Γ c1 (Is (.int i))) (hb : Ev W X b Γ c2 (Is (.int j))) : Ev W X (.BinOp a .Sub b pos) Γ (c1 + c2) (Is (.int (i - j))) := ev_binI op_sub ha hb r2_I0
theorem ev_neg {i : Int} (ha : Ev W X a Γ c (Is (.int i))) : Ev W X (.UnaryOp .USub a pos) Γ c (Is (.int (-i))) := fun R0 H0 Rl σ R n H s hn Q k => by
  refine wE_of (pe_un un_neg (wE_ok a)) ?_
  refine ha R0 H0 Rl σ R n H s hn _ fun v R1 H1 d g1 j1 f1 r1 => ?_
  rw [show d = .int i from f1] at r1
  cases r1
  exact ⟨i, rfl, k _ R1 H1 _ g1 j1 rfl (.int _)⟩
/-- a test that is a value -/
theorem et_v {z : Bool} (h : Ev W X e Γ c (Is (.bl z))) (he : ∀ whole, isTrue e X.env whole = (do let v ← whole; standAt e.pos; holding [v] (truthy v)) := by intro _; rfl) : EvT W X e Γ c (Is z) := et_val h (fun d f => ⟨z, f, rfl⟩) he
theorem et_and {x y : Bool} {rest : List Expr} (h1 : EvT W X a Γ c1 (Is x)) (h2 : x = true → EvW W X (.BoolOp .And (b :: rest) pos) Γ c2 (Is y)) : EvW W X (.BoolOp .And (a :: b :: rest) pos) Γ (c1 + c2) (Is (x && y)) :=
  eW_and h1 (fun e => by subst e; exact h2 rfl) (fun e => by subst e; rfl)
theorem et_or {x y : Bool} {rest : List Expr} (h1 : EvT W X a Γ c1 (Is x)) (h2 : x = false → EvW W X (.BoolOp .Or (b :: rest) pos) Γ c2 (Is y)) : EvW W X (.BoolOp .Or (a :: b :: rest) pos) Γ (c1 + c2) (Is (x || y)) :=
  eW_or h1 (fun e => by subst e; exact h2 rfl) (fun e => by subst e; rfl)
/-- a list comprehension over typed items, its element a function of the item -/
theorem ev_lcF {elt tg iter : Expr} {scope : Scope} {own : List (Str × Nat)} {α : Type} {xs : List α} {enc : α → D} {F : α → D} (asf : α → List (Nat × D)) (hc : X.calm = true) (hN : X.N.Nodup) (ok : BlkOk X.N X.env.scope scope own) (hi : EvI W X tg iter Γ 0 (Is (xs.map enc)))
    (ht : ∀ d ∈ xs, AtB X scope (fun Y => Tg Y tg (enc d) (asf d) ∧ Ev W Y elt (setG (wipeG Γ (own.map (·.2))) (asf d)) 0 (Is (F d))) ∧ ∀ a ∈ asf d, a.1 ∈ own.map (·.2)) (hl : xs.length ≤ 4000)
    (hs : ∀ x, foldedSetIterable iter X.env x = pure x := by intro _; rfl) : Ev W X (.ListComp elt [⟨tg, iter, [], 0⟩] scope pos) Γ 0 (Is (.lst (xs.map F))) :=
  ev_of_m (em_lc (p := fun _ => true) (c1 := 0) (φ := fun d => Is (F d)) hc hN ok hi asf (fun d hd => by
    obtain ⟨h1, h2⟩ := ht d hd
    exact ⟨fun s H C cl fp => let ⟨x, y⟩ := h1 s H C cl fp; ⟨x, ets_nil, fun _ => y⟩, h2⟩) hl (by omega) hs) fun sl ⟨es, e2, al⟩ => by
    subst e2
    have z : xs.filter (fun _ => true) = xs := by rw [List.filter_eq_self]; intro _ _; rfl
    rw [z] at al
    show D.lst es = _
    rw [al.isMap]
/-- with a test -/
theorem ev_lcP {elt tg iter c : Expr} {scope : Scope} {own : List (Str × Nat)} {α : Type} {xs : List α} {enc : α → D} {F : α → D} {p : α → Bool} (asf : α → List (Nat × D)) (hc : X.calm = true) (hN : X.N.Nodup) (ok : BlkOk X.N X.env.scope scope own) (hi : EvI W X tg iter Γ 0 (Is (xs.map enc)))
    (ht : ∀ d ∈ xs, AtB X scope (fun Y => Tg Y tg (enc d) (asf d) ∧ EvT W Y c (setG (wipeG Γ (own.map (·.2))) (asf d)) 0 (Is (p d)) ∧ (p d = true → Ev W Y elt (setG (wipeG Γ (own.map (·.2))) (asf d)) 0 (Is (F d)))) ∧ ∀ a ∈ asf d, a.1 ∈ own.map (·.2)) (hl : xs.length ≤ 4000)
    (hs : ∀ x, foldedSetIterable iter X.env x = pure x := by intro _; rfl) : Ev W X (.ListComp elt [⟨tg, iter, [c], 0⟩] scope pos) Γ 0 (Is (.lst ((xs.filter p).map F))) :=
  ev_of_m (em_lc (p := p) (c1 := 0) (φ := fun d => Is (F d)) hc hN ok hi asf (fun d hd => by
    obtain ⟨h1, h2⟩ := ht d hd
    exact ⟨fun s H C cl fp => let ⟨x, y, z⟩ := h1 s H C cl fp; ⟨x, ets_one y, z⟩, h2⟩) hl (by omega) hs) fun sl ⟨es, e2, al⟩ => by
    subst e2
    show D.lst es = _
    rw [al.isMap]
/-- the bools of all(..) -/
theorem ev_lcB {elt tg iter : Expr} {scope : Scope} {own : List (Str × Nat)} {α : Type} {xs : List α} {enc : α → D} {F : α → Bool} (asf : α → List (Nat × D)) (hc : X.calm = true) (hN : X.N.Nodup) (ok : BlkOk X.N X.env.scope scope own) (hi : EvI W X tg iter Γ 0 (Is (xs.map enc)))
    (ht : ∀ d ∈ xs, AtB X scope (fun Y => Tg Y tg (enc d) (asf d) ∧ Ev W Y elt (setG (wipeG Γ (own.map (·.2))) (asf d)) 0 (Is (.bl (F d)))) ∧ ∀ a ∈ asf d, a.1 ∈ own.map (·.2)) (hl : xs.length ≤ 4000)
    (hs : ∀ x, foldedSetIterable iter X.env x = pure x := by intro _; rfl) : Ev W X (.ListComp elt [⟨tg, iter, [], 0⟩] scope pos) Γ 0 (Is (.lst ((xs.map F).map D.bl))) := by
  have := ev_lcF (F := fun d => .bl (F d)) asf hc hN ok hi ht hl hs (pos := pos)
  rwa [List.map_map]
theorem ev_ifI {C : Expr} {z : Bool} {da db : D} (hc : EvT W X C Γ c1 (Is z)) (h1 : z = true → Ev W X a Γ c2 (Is da)) (h2 : z = false → Ev W X b Γ c2 (Is db)) : Ev W X (.IfExp C a b pos) Γ (c1 + c2) (Is (if z = true then da else db)) :=
  ev_if hc (fun e => (h1 (show true = z from e).symm).imp fun d f => by rw [show d = da from f, ← show true = z from e]; rfl) (fun e => (h2 (show false = z from e).symm).imp fun d f => by rw [show d = db from f, ← show false = z from e]; rfl)
theorem et_not' {z : Bool} (h : EvT W X a Γ c (Is z)) : EvT W X (.UnaryOp .Not a pos) Γ c (Is (!z)) := et_not h
section
variable {st : Stmt} {sts rest x y : List Stmt} {P : Pst} {C : Expr} {z : Bool}
theorem ss_ifF (hc : EvT W X C Γ c (Is z)) (hz : z = false) (hl : n + c ≤ LIM) (k : Sms W X rest Γ (n + c) P) : Sms W X (.If C x [] pos :: rest) Γ n P :=
  ss_cons (sm_if hc hl (fun e => by rw [hz] at e; cases e) (fun _ => ss_nil k))
theorem ss_ifT (hc : EvT W X C Γ c (Is z)) (hz : z = true) (hl : n + c ≤ LIM) (k : Sms W X x Γ (n + c) ⟨fun Γ' n' => Sms W X rest Γ' n' P, P.rt, P.bk, P.ct, P.rm⟩) : Sms W X (.If C x y pos :: rest) Γ n P :=
  ss_cons (sm_if hc hl (fun _ => k) (fun e => by rw [hz] at e; cases e))
/-- whichever way -/
theorem ss_if (hc : EvT W X C Γ c (Is z)) (hl : n + c ≤ LIM) (k1 : z = true → Sms W X x Γ (n + c) ⟨fun Γ' n' => Sms W X rest Γ' n' P, P.rt, P.bk, P.ct, P.rm⟩) (k2 : z = false → Sms W X y Γ (n + c) ⟨fun Γ' n' => Sms W X rest Γ' n' P, P.rt, P.bk, P.ct, P.rm⟩) : Sms W X (.If C x y pos :: rest) Γ n P :=
  ss_cons (sm_if hc hl (fun e => k1 (show true = z from e).symm) (fun e => k2 (show false = z from e).symm))
theorem ss_ret (h : Ev W X e Γ c (Is d)) (hl : n + c ≤ LIM) (k : P.rt d (n + c)) : Sms W X [.Return (some e) pos] Γ n P := ss_one (sm_ret h hl fun d' f => by rw [show d' = d from f]; exact k)
theorem ss_set {i : Nat} {x : Str} {pos' : Pos} (hN : X.N.Nodup) (hi : X.N[i]? = some x) (hx : Loc X.env.scope x) (h : Ev W X e Γ c (Is d)) (hl : n + c ≤ LIM) (k : Sms W X rest (Γ.set i (.dat d)) (n + c) P)
    (hs : swapsWith e (some (.Name x pos')) pos.line X.env = pure false := by rfl) (hf : X.fn x = true ∨ X.env.scope.names.lookup x = some .local := by first | exact .inl rfl | exact .inr rfl | assumption) :
    Sms W X (.Assign [.Name x pos'] e pos :: rest) Γ n P := ss_cons (sm_set hN hi hx h hl (fun d' f => by rw [show d' = d from f]; exact k) hs hf)
end
theorem ei_tupI {ds : List D} {tg : Expr} (h : Ev W X e Γ c (Is (.tup ds))) : EvI W X tg e Γ c (Is ds) := ei_tup h fun d f => ⟨ds, f, rfl⟩
theorem ei_lstI {ds : List D} {tg : Expr} (h : Ev W X e Γ c (Is (.lst ds))) : EvI W X tg e Γ c (Is ds) := ei_lst h fun d f => ⟨ds, f, rfl⟩
theorem ei_strI {z : Str} {tg : Expr} (h : Ev W X e Γ c (Is (.str z))) : EvI W X tg e Γ c (Is (signs z)) := ei_str h fun d f => ⟨z, f, rfl⟩
end
end Qq
/-! Qh: calls by function specs, slices, zip, range. -/
namespace Qq
open PySem PySem.Spec PyProof.Rows L2
/-- specs of pure defs by position -/
def SQ1 (pre : D → Prop) (F : D → D) : Wd → List Sl → (D → Prop) → Prop := fun _ as φ => ∃ a, as = [.dat a] ∧ pre a ∧ φ (F a)
def SQ2 (pre : D → D → Prop) (F : D → D → D) : Wd → List Sl → (D → Prop) → Prop := fun _ as φ => ∃ a b, as = [.dat a, .dat b] ∧ pre a b ∧ φ (F a b)
def SQ3 (pre : D → D → D → Prop) (F : D → D → D → D) : Wd → List Sl → (D → Prop) → Prop := fun _ as φ => ∃ a b c, as = [.dat a, .dat b, .dat c] ∧ pre a b c ∧ φ (F a b c)
def SQ4 (pre : D → D → D → D → Prop) (F : D → D → D → D → D) : Wd → List Sl → (D → Prop) → Prop := fun _ as φ => ∃ a b c d, as = [.dat a, .dat b, .dat c, .dat d] ∧ pre a b c d ∧ φ (F a b c d)
section
variable {W : Wd} {X : Cx} {Γ : List Sl} {n c c0 c1 c2 c3 : Nat} {φ ψ : D → Prop} {e a b : Expr} {pos p p2 : Pos} {d dx dy : D} {x : Str} {es : List Expr} {k : Nat} {ps : List Str} {d1 d2 d3 d4 : D}
theorem ev_c1 {pre : D → Prop} {F : D → D} (C : Cal X.prog X.w X.K X.mg X.base k x ps 0 (SQ1 pre F)) (hr : Room k X.A) (hg : Gl X x) (ha : EvS W X (e :: es) Γ c (Is [.dat d1])) (h : pre d1) {r : D} (q : F d1 = r) (hdb : (x == ("__debug__" : Str)) = false := by decide)
    (he : starEach (e :: es) X.env = (false, eval e X.env) :: starEach es X.env := by rfl) (hpl : (backTo pos (starEach es X.env)).any (·.1) = false := by rfl) : Ev W X (.Call (.Name x p) (e :: es) [] pos) Γ (c + 0) (Is r) :=
  ev_call C hr hg ha (fun ss q' => ⟨d1, q', h, q⟩) hdb he hpl
theorem ev_c2 {pre : D → D → Prop} {F : D → D → D} (C : Cal X.prog X.w X.K X.mg X.base k x ps 0 (SQ2 pre F)) (hr : Room k X.A) (hg : Gl X x) (ha : EvS W X (e :: es) Γ c (Is [.dat d1, .dat d2])) (h : pre d1 d2) {r : D} (q : F d1 d2 = r) (hdb : (x == ("__debug__" : Str)) = false := by decide)
    (he : starEach (e :: es) X.env = (false, eval e X.env) :: starEach es X.env := by rfl) (hpl : (backTo pos (starEach es X.env)).any (·.1) = false := by rfl) : Ev W X (.Call (.Name x p) (e :: es) [] pos) Γ (c + 0) (Is r) :=
  ev_call C hr hg ha (fun ss q' => ⟨d1, d2, q', h, q⟩) hdb he hpl
theorem ev_c3 {pre : D → D → D → Prop} {F : D → D → D → D} (C : Cal X.prog X.w X.K X.mg X.base k x ps 0 (SQ3 pre F)) (hr : Room k X.A) (hg : Gl X x) (ha : EvS W X (e :: es) Γ c (Is [.dat d1, .dat d2, .dat d3])) (h : pre d1 d2 d3) {r : D} (q : F d1 d2 d3 = r) (hdb : (x == ("__debug__" : Str)) = false := by decide)
    (he : starEach (e :: es) X.env = (false, eval e X.env) :: starEach es X.env := by rfl) (hpl : (backTo pos (starEach es X.env)).any (·.1) = false := by rfl) : Ev W X (.Call (.Name x p) (e :: es) [] pos) Γ (c + 0) (Is r) :=
  ev_call C hr hg ha (fun ss q' => ⟨d1, d2, d3, q', h, q⟩) hdb he hpl
theorem ev_c4 {pre : D → D → D → D → Prop} {F : D → D → D → D → D} (C : Cal X.prog X.w X.K X.mg X.base k x ps 0 (SQ4 pre F)) (hr : Room k X.A) (hg : Gl X x) (ha : EvS W X (e :: es) Γ c (Is [.dat d1, .dat d2, .dat d3, .dat d4])) (h : pre d1 d2 d3 d4) {r : D} (q : F d1 d2 d3 d4 = r) (hdb : (x == ("__debug__" : Str)) = false := by decide)
    (he : starEach (e :: es) X.env = (false, eval e X.env) :: starEach es X.env := by rfl) (hpl : (backTo pos (starEach es X.env)).any (·.1) = false := by rfl) : Ev W X (.Call (.Name x p) (e :: es) [] pos) Γ (c + 0) (Is r) :=
  ev_call C hr hg ha (fun ss q' => ⟨d1, d2, d3, d4, q', h, q⟩) hdb he hpl
def toD : List Sl → List D
  | [] => []
  | .dat d :: r => d :: toD r
  | _ :: r => toD r
def allDat : List Sl → Bool
  | [] => true
  | .dat _ :: r => allDat r
  | _ :: _ => false
theorem toD_eq : ∀ {ss : List Sl}, allDat ss = true → ss = (toD ss).map .dat
  | [], _ => rfl
  | .dat d :: r, h => by show _ = Sl.dat d :: _; rw [← toD_eq (ss := r) h]
  | .un :: _, h => by cases h
  | .ml _ :: _, h => by cases h
  | .md _ :: _, h => by cases h
  | .at_ _ :: _, h => by cases h
theorem ev_tupJ {es : List Expr} {kk : Nat} {ss : List Sl} (ha : EvS W X es Γ c (Is ss)) (h : allDat ss = true) (hl : decide ((toD ss).length ≤ 4000) = true) : Ev W X (.Tuple es kk pos) Γ c (Is (.tup (toD ss))) := ev_tupI ha (toD_eq h) (of_decide_eq_true hl)
theorem ev_lstJ {es : List Expr} {ss : List Sl} (ha : EvS W X es Γ c (Is ss)) (h : allDat ss = true) (hl : decide ((toD ss).length ≤ 4000) = true) : Ev W X (.List es pos) Γ c (Is (.lst (toD ss))) := ev_lstI ha (toD_eq h) (of_decide_eq_true hl)
theorem ev_andF {rest : List Expr} (h1 : Ev W X a Γ c1 (Is (.bl false))) : Ev W X (.BoolOp .And (a :: b :: rest) pos) Γ c1 (Is (.bl false)) := fun R0 H0 Rl σ R n H s hn Q k => by
  refine wE_of (pe_and (wE_ok a) (wE_ok _)) ?_
  refine h1 R0 H0 Rl σ R n H s (by omega) _ fun v R1 H1 d g1 j1 f1 r1 => ?_
  rw [show d = .bl false from f1] at r1
  cases r1
  exact ⟨false, rfl, iteF (k _ R1 H1 _ g1 j1 rfl (.bl false))⟩
theorem ev_orT {rest : List Expr} (h1 : Ev W X a Γ c1 (Is (.bl true))) : Ev W X (.BoolOp .Or (a :: b :: rest) pos) Γ c1 (Is (.bl true)) := fun R0 H0 Rl σ R n H s hn Q k => by
  refine wE_of (pe_or (wE_ok a) (wE_ok _)) ?_
  refine h1 R0 H0 Rl σ R n H s (by omega) _ fun v R1 H1 d g1 j1 f1 r1 => ?_
  rw [show d = .bl true from f1] at r1
  cases r1
  exact ⟨true, rfl, iteT (k _ R1 H1 _ g1 j1 rfl (.bl true))⟩
theorem et_andF {rest : List Expr} (h1 : EvT W X a Γ c1 (Is false)) : EvW W X (.BoolOp .And (a :: b :: rest) pos) Γ c1 (Is false) := fun R0 H0 Rl σ R n H s hn Q k => by
  refine wW_of (pw_and (wT_ok a) (wW_ok _)) ?_
  refine h1 R0 H0 Rl σ R n H s (by omega) _ fun v R1 H1 g1 j1 f1 => ?_
  obtain rfl : v = false := f1
  exact iteF (k _ R1 H1 g1 j1 rfl)
theorem et_orT {rest : List Expr} (h1 : EvT W X a Γ c1 (Is true)) : EvW W X (.BoolOp .Or (a :: b :: rest) pos) Γ c1 (Is true) := fun R0 H0 Rl σ R n H s hn Q k => by
  refine wW_of (pw_or (wT_ok a) (wW_ok _)) ?_
  refine h1 R0 H0 Rl σ R n H s (by omega) _ fun v R1 H1 g1 j1 f1 => ?_
  obtain rfl : v = true := f1
  exact iteT (k _ R1 H1 g1 j1 rfl)
theorem ev_ifT {C : Expr} {ψ : D → Prop} (hc : EvT W X C Γ c1 (Is true)) (h1 : Ev W X a Γ c2 ψ) : Ev W X (.IfExp C a b pos) Γ (c1 + c2) ψ := fun R0 H0 Rl σ R n H s hn Q k => by
  refine wE_of (pe_ifExp (wT_ok C) (wE_ok a) (wE_ok b)) ?_
  refine hc R0 H0 Rl σ R n H s (by omega) _ fun v R1 H1 g1 j1 f1 => ?_
  obtain rfl : v = true := f1
  exact iteT (h1 R0 H0 Rl σ R1 _ H1 (s.grow g1 j1) (by omega) _ fun v R2 H2 d g2 j2 f2 r2 => k v R2 H2 d (g1.trans g2) (by rwa [Nat.add_assoc] at j2) f2 r2)
theorem ev_ifF {C : Expr} {ψ : D → Prop} (hc : EvT W X C Γ c1 (Is false)) (h1 : Ev W X b Γ c2 ψ) : Ev W X (.IfExp C a b pos) Γ (c1 + c2) ψ := fun R0 H0 Rl σ R n H s hn Q k => by
  refine wE_of (pe_ifExp (wT_ok C) (wE_ok a) (wE_ok b)) ?_
  refine hc R0 H0 Rl σ R n H s (by omega) _ fun v R1 H1 g1 j1 f1 => ?_
  obtain rfl : v = false := f1
  exact iteF (h1 R0 H0 Rl σ R1 _ H1 (s.grow g1 j1) (by omega) _ fun v R2 H2 d g2 j2 f2 r2 => k v R2 H2 d (g1.trans g2) (by rwa [Nat.add_assoc] at j2) f2 r2)
theorem ev_andF' {x : Bool} {rest : List Expr} (h1 : Ev W X a Γ c1 (Is (.bl x))) (hx : x = false) : Ev W X (.BoolOp .And (a :: b :: rest) pos) Γ c1 (Is (.bl false)) := ev_andF (hx ▸ h1)
theorem ev_orT' {x : Bool} {rest : List Expr} (h1 : Ev W X a Γ c1 (Is (.bl x))) (hx : x = true) : Ev W X (.BoolOp .Or (a :: b :: rest) pos) Γ c1 (Is (.bl true)) := ev_orT (hx ▸ h1)
theorem et_andF' {x : Bool} {rest : List Expr} (h1 : EvT W X a Γ c1 (Is x)) (hx : x = false) : EvW W X (.BoolOp .And (a :: b :: rest) pos) Γ c1 (Is false) := et_andF (hx ▸ h1)
theorem et_orT' {x : Bool} {rest : List Expr} (h1 : EvT W X a Γ c1 (Is x)) (hx : x = true) : EvW W X (.BoolOp .Or (a :: b :: rest) pos) Γ c1 (Is true) := et_orT (hx ▸ h1)
theorem ev_ifT' {C : Expr} {x : Bool} {ψ : D → Prop} (hc : EvT W X C Γ c1 (Is x)) (hx : x = true) (h1 : Ev W X a Γ c2 ψ) : Ev W X (.IfExp C a b pos) Γ (c1 + c2) ψ := ev_ifT (hx ▸ hc) h1
theorem ev_ifF' {C : Expr} {x : Bool} {ψ : D → Prop} (hc : EvT W X C Γ c1 (Is x)) (hx : x = false) (h1 : Ev W X b Γ c2 ψ) : Ev W X (.IfExp C a b pos) Γ (c1 + c2) ψ := ev_ifF (hx ▸ hc) h1
theorem ei_zipI {kk : Nat} {es : List Expr} {tpos : Pos} {e2 : Expr} {ss : List Sl} {as bs : List D} (hg : Gl X "zip") (hm : Bn X "zip") (h : EvS W X [e, e2] Γ c (Is ss)) (hss : ss = [.dat (.tup as), .dat (.tup bs)] ∨ ss = [.dat (.lst as), .dat (.lst bs)])
    (hs : starEach [e, e2] X.env = (false, eval e X.env) :: starEach [e2] X.env := by rfl) (hpl : (backTo pos (starEach [e2] X.env)).any (·.1) = false := by rfl) : EvI W X (.Tuple es kk tpos) (.Call (.Name "zip" p) [e, e2] [] pos) Γ c (Is (zipD as bs)) :=
  ei_zip hg hm h (fun s q => ⟨as, bs, by rw [show s = ss from q]; exact hss, rfl⟩) hs hpl
theorem et_ltI {i j : Int} (ha : Ev W X a Γ c1 (Is (.int i))) (hb : Ev W X b Γ c2 (Is (.int j))) : EvT W X (.Compare a [.Lt] [b] pos) Γ (c1 + c2) (Is (decide (i < j))) := et_cmpI op_lt (nomark _) ha hb r2_B0
theorem et_leI {i j : Int} (ha : Ev W X a Γ c1 (Is (.int i))) (hb : Ev W X b Γ c2 (Is (.int j))) : EvT W X (.Compare a [.LtE] [b] pos) Γ (c1 + c2) (Is (decide (i ≤ j))) := et_cmpI op_le (nomark _) ha hb r2_B0
theorem et_gtI {i j : Int} (ha : Ev W X a Γ c1 (Is (.int i))) (hb : Ev W X b Γ c2 (Is (.int j))) : EvT W X (.Compare a [.Gt] [b] pos) Γ (c1 + c2) (Is (decide (j < i))) := et_cmpI op_gt (nomark _) ha hb r2_B0
theorem et_geI {i j : Int} (ha : Ev W X a Γ c1 (Is (.int i))) (hb : Ev W X b Γ c2 (Is (.int j))) : EvT W X (.Compare a [.GtE] [b] pos) Γ (c1 + c2) (Is (decide (j ≤ i))) := et_cmpI op_ge (nomark _) ha hb r2_B0
theorem et_ltSS {i j : Str} (ha : Ev W X a Γ c1 (Is (.str i))) (hb : Ev W X b Γ c2 (Is (.str j))) : EvT W X (.Compare a [.Lt] [b] pos) Γ (c1 + c2) (Is (ltS i j)) := et_cmpI op_lt_str (nomark _) ha hb r2_ltS
theorem et_eq (ha : Ev W X a Γ c1 (Is dx)) (hb : Ev W X b Γ c2 (Is dy)) (h : cmpS dx dy = true) : EvT W X (.Compare a [.Eq] [b] pos) Γ (c1 + c2) (Is (eqS dx dy)) := et_cmpI op_eq (nomark _) ha hb (r2_eq h)
theorem et_ne (ha : Ev W X a Γ c1 (Is dx)) (hb : Ev W X b Γ c2 (Is dy)) (h : cmpS dx dy = true) : EvT W X (.Compare a [.NotEq] [b] pos) Γ (c1 + c2) (Is (!eqS dx dy)) := et_cmpI op_ne (nomark _) ha hb (r2_ne h)
theorem et_isN {j : Nat} {q : Pos} (ha : Ev W X a Γ c1 (Is dx)) : EvT W X (.Compare a [.Is] [.Constant .none j q] pos) Γ (c1 + 0) (Is (isNonD dx)) := et_cmpI op_isN1 (nomark _) ha ev_non r2_isN
theorem et_notN {j : Nat} {q : Pos} (ha : Ev W X a Γ c1 (Is dx)) : EvT W X (.Compare a [.IsNot] [.Constant .none j q] pos) Γ (c1 + 0) (Is (!isNonD dx)) := et_cmpI op_notN1 (nomark _) ha ev_non r2_notN
theorem et_inT {ds : List D} (ha : Ev W X a Γ c1 (Is dx)) (hb : Ev W X b Γ c2 (Is (.tup ds))) (h : okIn dx ds = true) (hm : behindInMarks .In b = false := by rfl) : EvT W X (.Compare a [.In] [b] pos) Γ (c1 + c2) (Is (inD dx ds)) := et_cmpI op_in_seq hm ha hb (r2_in (neg := false) h)
theorem et_niT {ds : List D} (ha : Ev W X a Γ c1 (Is dx)) (hb : Ev W X b Γ c2 (Is (.tup ds))) (h : okIn dx ds = true) (hm : behindInMarks .NotIn b = false := by rfl) : EvT W X (.Compare a [.NotIn] [b] pos) Γ (c1 + c2) (Is (!inD dx ds)) := et_cmpI op_notIn_seq hm ha hb (r2_in (neg := true) h)
theorem et_chain {op op' : CmpOp} {r r' : L2.R2} {C : Expr} {dz : D} {x y : Bool} (ho : OpR X (compareOp op) r) (ho' : OpR X (compareOp op') r') (ha : Ev W X a Γ c1 (Is dx)) (hb : Ev W X b Γ c2 (Is dy)) (hc : Ev W X C Γ c3 (Is dz))
    (h1 : R2D X.K r dx dy (.bl x)) (h2 : x = true → R2D X.K r' dy dz (.bl y)) (hm : lastMarks [op, op'] [b, C] = false := by with_unfolding_all rfl) : EvT W X (.Compare a [op, op'] [b, C] pos) Γ (c1 + c2 + c3) (Is (x && y)) := fun R0 H0 Rl σ R n H s hn Q k => by
  refine wT_of (pt_chain ho ho' (wE_ok a) (wE_ok b) (wE_ok C) hm) ?_
  refine ha R0 H0 Rl σ R n H s (by omega) _ fun v R1 H1 d1 g1 j1 f1 r1 => ?_
  rw [show d1 = dx from f1] at r1
  refine hb R0 H0 Rl σ R1 _ H1 (s.grow g1 j1) (by omega) _ fun u R2 H2 d2 g2 j2 f2 r2 => ?_
  rw [show d2 = dy from f2] at r2
  refine h1 v u R2 H2 _ g2.rh (r1.mono g2.rr) r2 fun z R3 H3 g3 r3 => ?_
  cases r3
  have s3 := ((s.grow g1 j1).grow g2 j2).grow (g3.of0) (g3.j j2)
  refine ⟨x, rfl, ?_⟩
  cases x with
  | true =>
    refine iteT (hc R0 H0 Rl σ R3 _ H3 s3 (by omega) _ fun w R4 H4 d4 g4 j4 f4 r4 => ?_)
    rw [show d4 = dz from f4] at r4
    refine h2 rfl u w R4 H4 _ g4.rh ((r2.mono g3.rr).mono g4.rr) r4 fun z R5 H5 g5 r5 => ?_
    cases r5
    exact ⟨_, rfl, k _ R5 H5 ((((g1.trans g2).trans g3.of0).trans g4).trans g5.of0) (W.mono (g5.j j4) (by omega)) rfl⟩
  | false => exact iteF ⟨_, rfl, k _ R3 H3 ((g1.trans g2).trans g3.of0) (W.mono (g3.j j2) (by omega)) rfl⟩
theorem et_chII {C : Expr} {i j k : Int} (ha : Ev W X a Γ c1 (Is (.int i))) (hb : Ev W X b Γ c2 (Is (.int j))) (hc : Ev W X C Γ c3 (Is (.int k))) (hm : lastMarks [.LtE, .LtE] [b, C] = false := by with_unfolding_all rfl) :
    EvT W X (.Compare a [.LtE, .LtE] [b, C] pos) Γ (c1 + c2 + c3) (Is (decide (i ≤ j) && decide (j ≤ k))) := et_chain op_le op_le ha hb hc r2_B0 (fun _ => r2_B0) hm
theorem et_chSS {C : Expr} {i j k : Str} (ha : Ev W X a Γ c1 (Is (.str i))) (hb : Ev W X b Γ c2 (Is (.str j))) (hc : Ev W X C Γ c3 (Is (.str k))) (hm : lastMarks [.LtE, .LtE] [b, C] = false := by with_unfolding_all rfl) :
    EvT W X (.Compare a [.LtE, .LtE] [b, C] pos) Γ (c1 + c2 + c3) (Is (!ltS j i && !ltS k j)) := et_chain op_le_str op_le_str ha hb hc r2_leS (fun _ => r2_leS) hm
/-- a dict's in, as a test -/
theorem et_din {ds : List (Key × D)} {k : Key} (hu : X.A.units + 1 < cLine) (ha : Ev W X a Γ c1 (Is (kD k))) (hb : Ev W X b Γ c2 (Is (.dct ds))) (hm : behindInMarks .In b = false := by rfl) : EvT W X (.Compare a [.In] [b] pos) Γ (c1 + c2) (Is (getK ds k).isSome) := fun R0 H0 Rl σ R n H s hn Q k' => by
  refine wT_of (pt_cmp (pc_din hu (wE_ok a) (wE_ok b)) hm) ?_
  refine ha R0 H0 Rl σ R n H s (by omega) _ fun y R1 H1 dy g1 j1 f1 r1 => ?_
  refine hb R0 H0 Rl σ R1 _ H1 (s.grow g1 j1) (by omega) _ fun x R2 H2 dx g2 j2 f2 r2 => ?_
  rw [show dy = kD k from f1] at r1
  rw [show dx = .dct ds from f2] at r2
  have ey := rp_kD r1
  subst ey
  cases r2 with
  | @dct a kvs _ q0 r =>
    obtain ⟨o0, q0⟩ := q0
    have q : Rd _ a (.dK kvs) := .inr ⟨o0, q0⟩
    refine ⟨a, valV kvs k, rfl, .inl ⟨kvs, k, rd_mono g2.rh q, rfl, rfl⟩, _, rfl, ?_⟩
    have e : (valV kvs k).isSome = (getK ds k).isSome := by
      cases qv : valV kvs k with
      | none => rw [(r.val k).2 qv]; rfl
      | some v => obtain ⟨y, e1, _⟩ := (r.val k).1 v qv; rw [e1]; rfl
    rw [e]
    exact k' _ R2 H2 (g1.trans g2) (by rwa [Nat.add_assoc] at j2) rfl
theorem et_dnotin {ds : List (Key × D)} {k : Key} (hu : X.A.units + 1 < cLine) (ha : Ev W X a Γ c1 (Is (kD k))) (hb : Ev W X b Γ c2 (Is (.dct ds))) (hm : behindInMarks .NotIn b = false := by rfl) : EvT W X (.Compare a [.NotIn] [b] pos) Γ (c1 + c2) (Is (!(getK ds k).isSome)) := fun R0 H0 Rl σ R n H s hn Q k' => by
  refine wT_of (pt_cmp (pc_dnotin hu (wE_ok a) (wE_ok b)) hm) ?_
  refine ha R0 H0 Rl σ R n H s (by omega) _ fun y R1 H1 dy g1 j1 f1 r1 => ?_
  refine hb R0 H0 Rl σ R1 _ H1 (s.grow g1 j1) (by omega) _ fun x R2 H2 dx g2 j2 f2 r2 => ?_
  rw [show dy = kD k from f1] at r1
  rw [show dx = .dct ds from f2] at r2
  have ey := rp_kD r1
  subst ey
  cases r2 with
  | @dct a kvs _ q0 r =>
    obtain ⟨o0, q0⟩ := q0
    have q : Rd _ a (.dK kvs) := .inr ⟨o0, q0⟩
    refine ⟨a, valV kvs k, rfl, .inl ⟨kvs, k, rd_mono g2.rh q, rfl, rfl⟩, _, rfl, ?_⟩
    have e : (valV kvs k).isSome = (getK ds k).isSome := by
      cases qv : valV kvs k with
      | none => rw [(r.val k).2 qv]; rfl
      | some v => obtain ⟨y, e1, _⟩ := (r.val k).1 v qv; rw [e1]; rfl
    rw [e]
    exact k' _ R2 H2 (g1.trans g2) (by rwa [Nat.add_assoc] at j2) rfl
theorem Ev.z (h : Ev W X e Γ c φ) (q : c = 0) : Ev W X e Γ 0 φ := q ▸ h
theorem EvT.z {φ : Bool → Prop} (h : EvT W X e Γ c φ) (q : c = 0) : EvT W X e Γ 0 φ := q ▸ h
theorem EvI.z {tg : Expr} {φ : List D → Prop} (h : EvI W X tg e Γ c φ) (q : c = 0) : EvI W X tg e Γ 0 φ := q ▸ h
theorem Tg.to {tg : Expr} {as bs : List (Nat × D)} (h : Tg X tg d as) (q : as = bs) : Tg X tg d bs := q ▸ h
theorem EvI.to {tg iter : Expr} {xs ys : List D} (h : EvI W X tg iter Γ c (Is xs)) (q : xs = ys) : EvI W X tg iter Γ c (Is ys) := q ▸ h
theorem ss_retE {n : Nat} {P : Pst} {r : D} (h : Ev W X e Γ c (Is d)) (hl : n + c ≤ LIM) (q : d = r) (k : P.rt r (n + c)) : Sms W X [.Return (some e) pos] Γ n P := ss_ret h hl (q ▸ k)
theorem ei_rangeI {tg : Expr} {j : Int} (hg : Gl X "range") (hm : Bn X "range") (h : Ev W X e Γ c (Is (.int j))) (h1 : j < 100000) (h2 : -100000 < j) (hs : starEach [e] X.env = [(false, eval e X.env)] := by rfl) : EvI W X tg (.Call (.Name "range" p) [e] [] pos) Γ c (Is (rangeD 0 j.toNat)) :=
  ei_range1 hg hm h (fun d q => ⟨j, q, h1, h2, rfl⟩) hs
/-! ### slices -/
def cutD (xs : List D) (lo hi : Option Int) : List D := (xs.drop (HT.sIx xs.length 0 lo)).take (HT.sIx xs.length xs.length hi - HT.sIx xs.length 0 lo)
theorem cut_rp {K : PySem.W.Frag} {R : Hp} {xs : List V} {ds : List D} (r : RpL K R xs ds) (lo hi : Option Int) : RpL K R (cutV xs lo hi) (cutD ds lo hi) := by
  unfold cutV cutD
  rw [r.len]
  exact (r.drop _).take _
/-- a part of a slice -/
def EvO (W : Wd) (X : Cx) (e : Option Expr) (Γ : List Sl) (o : Option Int) : Prop := ∀ R0 H0 Rl σ R n H, So W X.K R0 H0 Rl Γ R n σ H → n ≤ LIM → ∀ Q : Option Int → Hp → Prop, (∀ R' H', Gr W R H R' H' → W.J n H' → Q o H') → ∃ (t : TO) (Q0 : Option Int → Hp → Prop), PO X e t ∧ t σ H Q0 ∧ ∀ v H', Q0 v H' → Q v H'
def wO (X : Cx) (e : Option Expr) : TO := fun σ H Q => ∃ (t : TO) (Q0 : Option Int → Hp → Prop), PO X e t ∧ t σ H Q0 ∧ ∀ v H', Q0 v H' → Q v H'
theorem wO_ok (e : Option Expr) : PO X e (wO X e) := ⟨fun pins s σ H Q I ⟨t, Q0, h, q, m⟩ => thn (h.run pins s σ H Q0 I q) fun u s' ⟨o, H', I', r, z⟩ => ⟨o, H', I', r, m o H' z⟩⟩
theorem eo_none : EvO W X none Γ none := fun R0 H0 Rl σ R n H s hn Q k => ⟨_, Q, po_none, k R H (Gr.refl s.rh) s.j, fun _ _ z => z⟩
theorem eo_some {i : Int} (h : Ev W X e Γ 0 (Is (.int i))) : EvO W X (some e) Γ (some i) := fun R0 H0 Rl σ R n H s hn Q k => ⟨_, Q, po_some (wE_ok e), h R0 H0 Rl σ R n H s hn _ fun v R' H' d g j f r => by
  rw [show d = .int i from f] at r
  cases r
  exact ⟨i, rfl, k R' H' g j⟩, fun _ _ z => z⟩
theorem whole_cut {ds : List D} {lo hi : Option Int} (h : HT.sIx ds.length 0 lo = 0 ∧ HT.sIx ds.length ds.length hi = ds.length) : cutD ds lo hi = ds := by
  unfold cutD
  rw [h.1, h.2, List.drop_zero, Nat.sub_zero, List.take_length]
theorem ev_slT {lo hi : Option Expr} {l u : Option Int} {ds : List D} (ha : Ev W X a Γ c (Is (.tup ds))) (hl : EvO W X lo Γ l) (hu : EvO W X hi Γ u) : Ev W X (.Subscript a (.Slice lo hi none p2) pos) Γ c (Is (.tup (cutD ds l u))) := fun R0 H0 Rl σ R n H s hn Q k => by
  refine wE_of (pe_slice sl_tupA (wE_ok a) (wO_ok lo) (wO_ok hi)) ?_
  refine ha R0 H0 Rl σ R n H s hn _ fun v R1 H1 d g1 j1 f1 r1 => ?_
  refine hl R0 H0 Rl σ R1 _ H1 (s.grow g1 j1) hn _ fun R2 H2 g2 j2 => ?_
  refine hu R0 H0 Rl σ R2 _ H2 ((s.grow g1 j1).grow g2 j2) hn _ fun R3 H3 g3 j3 => ?_
  rw [show d = .tup ds from f1] at r1
  cases (r1.mono g2.rr).mono g3.rr with
  | @tup a xs _ q r =>
    have e := r.len
    refine ⟨a, xs, rfl, sqT_mono g3.rh q, fun h => ?_, fun h p hp => ?_⟩
    · rw [e] at h
      have := k (.ref a) R3 H3 (.tup (cutD ds l u)) ((g1.trans g2).trans g3) j3 rfl
      rw [whole_cut h] at this
      exact this (.tup q r)
    · have g4 : Gr W0 R3 H3 (upd R3 p (.tup (cutV xs l u))) (upd H3 p (.tup (cutV xs l u))) := Gr.new g3.rh hp
      exact k _ _ _ _ (((g1.trans g2).trans g3).trans g4.of0) (g4.j j3) rfl (.tup (SqT.of upd_same) ((cut_rp r l u).mono g4.rr))
theorem ev_slL {lo hi : Option Expr} {l u : Option Int} {ds : List D} (ha : Ev W X a Γ c (Is (.lst ds))) (hl : EvO W X lo Γ l) (hu : EvO W X hi Γ u) : Ev W X (.Subscript a (.Slice lo hi none p2) pos) Γ c (Is (.lst (cutD ds l u))) := fun R0 H0 Rl σ R n H s hn Q k => by
  refine wE_of (pe_slice sl_list (wE_ok a) (wO_ok lo) (wO_ok hi)) ?_
  refine ha R0 H0 Rl σ R n H s hn _ fun v R1 H1 d g1 j1 f1 r1 => ?_
  refine hl R0 H0 Rl σ R1 _ H1 (s.grow g1 j1) hn _ fun R2 H2 g2 j2 => ?_
  refine hu R0 H0 Rl σ R2 _ H2 ((s.grow g1 j1).grow g2 j2) hn _ fun R3 H3 g3 j3 => ?_
  rw [show d = .lst ds from f1] at r1
  cases (r1.mono g2.rr).mono g3.rr with
  | @lst a xs _ q r =>
    refine ⟨a, xs, rfl, sqL_mono g3.rh q, fun p hp => ?_⟩
    have g4 : Gr W0 R3 H3 (upd R3 p (.lst (cutV xs l u))) (upd H3 p (.lst (cutV xs l u))) := Gr.new g3.rh hp
    exact k _ _ _ _ (((g1.trans g2).trans g3).trans g4.of0) (g4.j j3) rfl (.lst (SqL.of upd_same) ((cut_rp r l u).mono g4.rr))
theorem cut_tail (ds : List D) : cutD ds (some 1) none = ds.drop 1 := by
  unfold cutD
  rw [HT.sIx_none]
  have : HT.sIx ds.length 0 (some ((1 : Nat) : Int)) = min 1 ds.length := HT.sIx_nat _ _ 1
  rw [show (some (1 : Int)) = some ((1 : Nat) : Int) from rfl, this]
  cases ds with
  | nil => rfl
  | cons d ds => simp
theorem cut_head (ds : List D) (k : Nat) : cutD ds none (some (k : Int)) = ds.take k := by
  unfold cutD
  rw [HT.sIx_none, HT.sIx_nat]
  simp [List.take_eq_take_iff]
end
/-- a def kept: to call it -/
theorem cal_of {P : Program} {w : World} {K : PySem.W.Frag} {mg : Str → Option Value} {base : Heap} {k : Nat} {x : Str} {ps : List Str} {c : Nat} {S : Wd → List Sl → (D → Prop) → Prop} {f : Addr} {fd : FuncData} (hm : mg x = some (.ref f)) (hk : PySem.W.keepIn K (.ref f) = true) (hb : Binds K fd ps []) (h : FnOk P w K mg base CX0 k f fd ps (spF K c S)) : Cal P w K mg base k x ps c S := ⟨⟨f, fd, hm, hk, hb, h⟩⟩
end Qq
/-! Qs: set(t) of a tuple of texts that all differ: how many it has. -/
namespace Qq
open PySem PySem.Spec PyProof.Rows L2
theorem str_in : ∀ {us : List Value} {zs : List Str}, StrsAre us zs → ∀ (j : Nat) (u : Value), us[j]? = some u → ∃ z t, zs[j]? = some z ∧ u = .str z t
  | _, _, .nil, j, u, h => by simp at h
  | _, _, .cons z t r, 0, u, h => by simp at h; exact ⟨z, t, rfl, h.symm⟩
  | _, _, .cons z t r, j + 1, u, h => by
    simp only [List.getElem?_cons_succ] at h ⊢
    exact str_in r j u h
section
variable {Pg : Program} {wd : World} {A : Around} {I : Addr} {fp wr : List Addr} {G : Array GenState → Array GenState → Prop} {m : Nat} {Pv : Nat → Value → Prop} {St : Nat → Shared → Prop} {E : Value → Shared → Prop}
/-- what the set holds behind i of the texts -/
abbrev HoldsS (Pg : Program) (wd : World) (h : Heap) (S : Addr) (zs : List Str) (i : Nat) : Prop := h.SetOf (PySem.strKind Pg wd) S (fun y => decide (y ∈ zs.take i)) i
theorem set_loop {R : Result → Shared → Prop} (W : WalksS Pg wd A.in1 I fp wr G m Pv St) (S : Addr) (nf : S ∉ fp) (zs : List Str) (hz : zs.length = m) (nd : zs.Nodup) (sm : m < 4000)
    (val : ∀ i v, Pv i v → ∃ z t, zs[i]? = some z ∧ v = .str z t) : ∀ (d i : Nat) (s : Shared), d + i = m → St i s → HoldsS Pg wd s.heap S zs i →
      (∀ s', Moved (S :: wr) G s s' → HoldsS Pg wd s'.heap S zs m → R (.ok (.ret .none)) s') → codeAny (model Pg wd) A (.builtin "set.update.loop" ⟨[.ref S, .ref I], []⟩) R s := by
  have nw : S ∉ wr := fun h => nf (W.sub _ h)
  intro d
  induction d with
  | zero =>
    intro i s e st hS k
    obtain rfl : i = m := by omega
    refine codeAny_builtin PyProof.Rows.F.entry_set_update_loop ?_; rw [Around.under_plainId PyProof.Rows.F.plain_set_update_loop _]
    show wpAny _ A.in1 (pyNext (.ref I) >>= _) _ _ s; refine wpAny_bind (W.done s _ _ st fun s' mv => ?_)
    show wpAny _ A.in1 (ret Value.none) _ _ s'; obtain ⟨o, es, ep, t, ho, rest⟩ := hS
    exact wpAny_pure (k s' (mv.mono fun b hb => List.mem_cons_of_mem _ hb) ⟨o, es, ep, t, mv.heap S _ nw ho, rest⟩)
  | succ d ih =>
    intro i s e st hS k
    have lt : i < m := by omega
    refine codeAny_builtin PyProof.Rows.F.entry_set_update_loop ?_; rw [Around.under_plainId PyProof.Rows.F.plain_set_update_loop _]
    show wpAny _ A.in1 (pyNext (.ref I) >>= _) _ _ s; refine wpAny_bind (W.item i s _ _ lt st fun v s' hv st' mv => ?_)
    obtain ⟨z, t, ez, rfl⟩ := val i v hv
    have hS' : HoldsS Pg wd s'.heap S zs i := by obtain ⟨o, es, ep, tb, ho, rest⟩ := hS; exact ⟨o, es, ep, tb, mv.heap S _ nw ho, rest⟩
    show wpAny _ A.in1 (holding [Value.str z t] (setAdd S (.str z t)) >>= _) _ _ s'
    refine wpAny_bind (wpAny_holding ?_); unfold setAdd; refine wpAny_holding ?_
    refine wpAny_bind ((PySem.strKind Pg wd).pyHash (k := z) (strKind_is _ _ _ _) ?_)
    refine wpAny_setAddHashed_of (knd := PySem.strKind Pg wd) (s := { s' with toks := s'.toks + 1 }) (strKind_is _ _ _ _) rfl hS' (by unfold scanBound; omega) fun h' sb hS2 => ?_
    have out : z ∉ zs.take i := fun hm => by
      obtain ⟨j, hj⟩ := List.getElem?_of_mem hm
      rw [List.getElem?_take] at hj
      split at hj
      · rename_i lj
        have e1 := (List.getElem?_eq_some_iff.mp hj).2
        have e2 := (List.getElem?_eq_some_iff.mp ez).2
        have := (List.getElem_inj nd).mp (e1.trans e2.symm)
        omega
      · cases hj
    have hS3 : HoldsS Pg wd h' S zs (i + 1) := by
      refine SetOf_congr hS2 (fun y => ?_) (by simp [out])
      rw [take_succ ez]
      by_cases q : y = z <;> simp [q]
    refine wpAny_pure ⟨plainId_quiet PyProof.Rows.F.plain_set_update_loop _, ih (i + 1) _ (by omega) (W.frame _ s' _ _ st' (Nat.le_succ _) fun b hb o e => ?_) hS3 fun s2 mv2 hS4 => ?_⟩
    · rw [sb.2 b (show b ≠ S from fun h => nf (h ▸ hb))]; exact e
    · refine k s2 (Moved.trans W.gtrans ((mv.mono fun b hb => List.mem_cons_of_mem _ hb).then_heap (Nat.le_succ _) fun b o hb e => ?_) mv2) hS4
      rw [sb.2 b (show b ≠ S from fun h => hb (h ▸ List.mem_cons_self))]; exact e
variable {s : Shared}
theorem set_of_tup {l : Addr} {items : Array Value} {zs : List Str} {Q : Value → Shared → Prop} (hh : A.handled = none) (hl : s.heap.IsTuple l items) (hi : StrsAre items.toList zs) (nd : zs.Nodup) (sm : zs.length < 4000)
    (h : ∀ (h' : Heap) (tk : Nat), HoldsS Pg wd h' s.heap.objs.size zs zs.length → (∀ b o, b < s.heap.objs.size → s.heap.get? b = some o → h'.get? b = some o) → Q (.ref s.heap.objs.size) { s with heap := h', toks := tk }) :
    wpAny (model Pg wd) A (call (.type "set") [.ref l]) Q E s := by
  obtain ⟨c, tl, hmro⟩ := PySem.F.called_set.mro; have hmade := PySem.F.called_set.made; have hsub := PySem.F.called_set.sub
  refine wpAny_call (codeAny_of_tree ?_); show wpAny _ _ (callAny (.type "set") _) _ _ _
  refine wpAny_pure ⟨Code.quiet_builtin _ (by decide +kernel), codeAny_builtin PySem.F.entry_type_call ?_⟩; rw [Around.under_plain (weight_type_call_type "set" [.ref l] []) rfl]
  have h1 := PySem.F.called_set.notType; have h2 := PySem.F.called_set.canCreate; have hct := PySem.F.typeCall_set_1 (.ref l)
  repeat (any_goals (first | assumption | wp_step))
  refine codeAny_mono (code_set_new_1 (.ref l) (E := E) (Q₁ := fun obj s₁ => ∃ led : Bool, obj = .ref s.heap.objs.size ∧ s₁ = { s with heap := s.heap.push { cls := .type "set", dict := none, data := .set #[] 0 (.fresh 0 0 led) } }) fun led => ⟨led, rfl, rfl⟩) fun r s1 hr => ?_
  cases r with
  | error e => exact hr
  | ok fl =>
    cases fl with
    | ret obj =>
      obtain ⟨led, rfl, rfl⟩ := hr
      generalize eo : ({ cls := .type "set", dict := none, data := .set #[] 0 (.fresh 0 0 led) } : Obj) = so
      have hS : (s.heap.push so).get? s.heap.objs.size = some so := Heap.get?_push_size _ (by rw [← eo]; rfl)
      have hT : Shared.TypeIs { s with heap := s.heap.push so } (.ref s.heap.objs.size) "set" := ⟨_, hS, by rw [← eo]⟩
      have hli := PySem.F.called_set.init.lookup; have hbi := PySem.F.called_set.init.bind (.ref s.heap.objs.size)
      repeat (any_goals (first | assumption | wp_step))
      refine codeAny_mono (codeAny_call_builtin (R := wants (fun r s2 => r = .none ∧ ∃ h' tk, s2 = { s with heap := h', toks := tk } ∧ HoldsS Pg wd h' s.heap.objs.size zs zs.length ∧ (∀ b o, b < s.heap.objs.size → s.heap.get? b = some o → h'.get? b = some o)) E)
        PySem.F.called_set.init.plain PySem.F.entry_set_init (check_set_init_1 hT ?_)) fun r2 s2 hr2 => ?_
      · obtain ⟨ol, hol, hcl, nl, hdl⟩ := hl
        obtain ⟨ocls, odict, odata, oslots⟩ := ol; simp only at hcl hdl; subst hcl; subst hdl
        have hol' : (s.heap.push so).get? l = some { cls := .type "tuple", dict := odict, data := .seq items nl, slots := oslots } := Heap.get?_push_of_some _ hol
        have q1 := PySem.F.sub_tuple_set; have q2 := PySem.F.sub_tuple_frozenset; have q3 : (Value.type "tuple" == Value.type "dict") = false := by decide
        have hl1 : (s.heap.push so).IsTuple l items := ⟨_, hol', rfl, nl, rfl⟩
        subst eo
        unfold Builtin.«set.__init__» noKeywords Builtin.Frozenset.updateFrom
        generalize hPI : pyIter = PI
        wp_walk
        subst hPI
        refine wpAny_pyIter_tuple hl1 ?_; refine wpAny_bind (wpAny_runValue ?_)
        have hlS : l < s.heap.objs.size := Heap.lt_size hol
        have hh3 : A.in1.in1.in1.handled = none := by simp [hh]
        generalize eh : s.heap.push ({ cls := .type "set", dict := none, data := .set #[] 0 (.fresh 0 0 led) } : Obj) = hp at *
        have sz : hp.objs.size = s.heap.objs.size + 1 := by rw [← eh]; exact Heap.size_push _ _
        have hlp : l < hp.objs.size := by rw [sz]; exact Nat.lt_succ_of_lt hlS
        have hSp : s.heap.objs.size < hp.objs.size := by rw [sz]; exact Nat.lt_succ_self _
        have hneI : l ≠ hp.objs.size := Nat.ne_of_lt hlp
        have hSf : s.heap.objs.size ∉ [hp.objs.size, l] := by simp only [List.mem_cons, List.mem_singleton, List.not_mem_nil, or_false, not_or]; exact ⟨Nat.ne_of_lt hSp, Nat.ne_of_gt hlS⟩
        have hsz : zs.length = items.size := by rw [← StrsAre.len_eq hi, Array.length_toList]
        refine set_loop ((Walks.tuple hh3 _ l hneI items).toS) s.heap.objs.size hSf zs hsz nd (by omega) (fun i v hv => str_in hi i v (by rw [Array.getElem?_toList]; exact hv)) items.size 0 _ (by omega)
          ⟨⟨_, Heap.get?_push_size _ rfl, rfl, rfl⟩, (hl1.push _)⟩ ?hS0 ?hR
        case hS0 =>
          have hget := Heap.get?_push_of_some { cls := .type "tuple_iterator", data := .fields #[.ref l, .int 0 0] } hS
          exact SetOf_congr ((setObjOf_fresh (knd := PySem.strKind Pg wd) led).setOf hget (by unfold scanBound; omega)) (fun _ => by simp) rfl
        case hR =>
          intro s' hm hS'
          obtain ⟨h', g', d', tk', os'⟩ := s'
          have eg : g' = s.gens := hm.gens; have ed : d' = s.drawn := hm.drawn; have eo' : os' = s.os := hm.os
          subst eg; subst ed; subst eo'
          show wpAny _ _ _ _ _ _
          refine wpAny_pure ?_
          show wpAny _ _ (ret Value.none) _ _ _
          refine wpAny_pure ⟨rfl, h', tk', rfl, hsz ▸ hS', fun b o hb e => hm.heap b o ?_ (Heap.get?_push_of_some _ (by rw [← eh]; exact Heap.get?_push_of_some _ e))⟩
          simp only [List.mem_cons, List.mem_singleton, List.not_mem_nil, or_false, not_or]; exact ⟨Nat.ne_of_lt hb, Nat.ne_of_lt (Nat.lt_trans hb hSp)⟩
      · cases r2 with
        | error e => exact hr2
        | ok fl2 =>
          cases fl2 with
          | ret r =>
            obtain ⟨rfl, h', tk, rfl, hS', hk'⟩ := hr2
            repeat (any_goals (first | assumption | wp_step))
            exact h _ _ hS' hk'
          | _ => exact hr2.elim
    | _ => exact hr.elim
end

def tLS (K : PySem.W.Frag) (ta : TE) : TE := fun σ H Q => ta σ H fun x H1 => ∃ (l : Addr) (zs : List Str), x = .ref l ∧ SqT K H1 l (zs.map V.str) ∧ zs.Nodup ∧ zs.length < 4000 ∧ Q (.int zs.length) H1
theorem pe_ls {X : Cx} {a : Expr} {ta : TE} {p p2 q pos : Pos} (hc : X.calm = true) (hg : Gl X "len") (hm : X.mg "len" = none) (hg2 : Gl X "set") (hm2 : X.mg "set" = none) (ha : PE X a ta)
    (na : starEach [a] X.env = (false, eval a X.env) :: starEach [] X.env := by rfl) : PE X (.Call (.Name "len" p) [.Call (.Name "set" p2) [a] [] q] [] pos) (tLS X.K ta) := by
  refine ⟨fun pins s σ H Q I h => Call_ (ld_blt I hg hm boot_len (PyProof.Rows.callWith_builtin1 (PyProof.Rows.args_cons ?_ rfl) rfl rfl))⟩
  refine Call_ (ld_blt I hg2 hm2 boot_set (PyProof.Rows.callWith_type1 (PyProof.Rows.args_cons (thn (ha.run pins s σ H _ I h) fun v s1 ⟨x, H1, I1, r1, q1⟩ => PyProof.Rows.args_nil ?_) na) na rfl))
  obtain ⟨l, zs, rfl, hq, nd, sm, q1⟩ := q1
  cases r1
  obtain ⟨its, r, pl, hz⟩ := I1.tuple hq
  refine set_of_tup (I1.ok.hd hc) pl (by simpa using strsAre_of r) nd sm fun h' tk hS hk => PyProof.Rows.args_nil ?_
  obtain ⟨o, es, ep, t, ho, hex, hd, _, _, _, hf, hn⟩ := hS
  have I2 : Inv X pins σ H1 { s1 with heap := h', toks := tk } := I1.kept fun b o e => hk b o (Heap.lt_size e) e
  exact call_len_set ho hex hd hf (by rw [hn] <;> omega) ⟨.int zs.length, H1, I2.tok _, ⟨_, by rw [hn]⟩, q1⟩
theorem ev_lenset {W : Wd} {X : Cx} {Γ : List Sl} {c : Nat} {a : Expr} {pos p p2 q : Pos} {ns : List Str} (hc : X.calm = true) (hg : Gl X "len") (hm : Bn X "len") (hg2 : Gl X "set") (hm2 : Bn X "set") (ha : Ev W X a Γ c (Is (.tup (ns.map .str)))) (hnd : ns.Nodup) (hl : ns.length < 4000)
    (na : starEach [a] X.env = (false, eval a X.env) :: starEach [] X.env := by rfl) : Ev W X (.Call (.Name "len" p) [.Call (.Name "set" p2) [a] [] q] [] pos) Γ c (Is (.int (ns.length : Nat))) := fun R0 H0 Rl σ R n H s hn Q k => by
  refine wE_of (pe_ls hc hg hm hg2 hm2 (wE_ok a) na) ?_
  refine ha R0 H0 Rl σ R n H s hn _ fun v R1 H1 d g1 j1 f1 r1 => ?_
  rw [show d = .tup (ns.map .str) from f1] at r1
  cases r1 with
  | @tup a xs _ q r => exact ⟨a, ns, rfl, by rw [← rp_strs r]; exact sqT_mono g1.rh q, hnd, hl, k _ R1 H1 _ g1 j1 rfl (.int _)⟩
end Qq
namespace Qq
open PySem PySem.Spec PyProof.Rows L2
section
variable {W : Wd} {X : Cx} {Γ : List Sl} {n c c0 c1 c2 c3 : Nat} {φ ψ : D → Prop} {e a b : Expr} {pos p p2 q : Pos} {d dx dy : D}
theorem ev_allT {α : Type} {xs : List α} (hc : X.calm = true) (hg : Gl X "all") (hm : Bn X "all") (ha : Ev W X a Γ c (Is (.lst ((xs.map fun _ => true).map .bl)))) (he : starEach [a] X.env = (false, eval a X.env) :: starEach [] X.env := by rfl) (hpl : (backTo pos (starEach [] X.env)).any (·.1) = false := by rfl) :
    Ev W X (.Call (.Name "all" p) [a] [] pos) Γ c (Is (.bl true)) := (ev_all hc hg hm ha he hpl).to (by congr 1; rw [List.all_eq_true]; intro b hb; obtain ⟨_, _, rfl⟩ := List.mem_map.mp hb; rfl)
theorem ss_expr {n : Nat} {rest : List Stmt} {P : Pst} (h : Ev W X e Γ c φ) (hl : n + c ≤ LIM) (k : Sms W X rest Γ (n + c) P) (hs : swapsWith e none pos.line X.env = pure false := by rfl) : Sms W X (.Expr e pos :: rest) Γ n P := ss_cons (sm_expr h hl (fun _ => k) hs)
end
end Qq
/-! Qj: dict(t) of a tuple of pairs; tuples that have no dict. -/
namespace Qq
open PySem PySem.Spec PyProof.Rows L2
section
variable {X : Cx}
theorem pairs_of2 {pins : List (Addr × Obj)} {σ : L2.St} {H : Hp} {s : Shared} (I : Inv X pins σ H s) : ∀ {ps : List Addr} {kvs : List (Key × V)}, Paired (fun p kv => SqT X.K H p [kV kv.1, kv.2]) ps kvs →
    ∃ (prs : List (Key × Value)) (pv : List (Value × Value)), KV kvs prs ∧ prs.length = ps.length ∧ pv.length = ps.length ∧ ∀ (j : Nat) (k v : Value), pv[j]? = some (k, v) → ∃ b key, ps[j]? = some b ∧ IsTup s.heap b #[k, v] ∧ prs[j]? = some (key, v) ∧ keyIs key k = true
  | _, _, .nil => ⟨[], [], .nil, rfl, rfl, fun j k v e => by simp at e⟩
  | _, _, .cons (a := p) (b := kv) h t => by
    obtain ⟨prs, pv, r, hl, hl2, hp⟩ := pairs_of2 I t
    obtain ⟨its, rv, ht, _⟩ := I.tuple h
    obtain ⟨u, y, ei, ru, ry⟩ := vals2 rv
    subst ei
    refine ⟨(kv.1, y) :: prs, (u, y) :: pv, .cons ⟨rfl, ry⟩ r, by rw [List.length_cons, List.length_cons, hl], by rw [List.length_cons, List.length_cons, hl2], fun j k v e => ?_⟩
    cases j with
    | zero =>
      have e' : (u, y) = (k, v) := Option.some.inj e
      cases e'
      exact ⟨p, kv.1, rfl, ht, rfl, kV_is (P := X.prog) (w := X.w) ru⟩
    | succ j =>
      obtain ⟨b, key, e1, e2, e3, e4⟩ := hp j k v (by simpa using e)
      exact ⟨b, key, by simpa using e1, e2, by simpa using e3, e4⟩
/-- dict(t) of a tuple of pairs -/
theorem call_dictT (hcalm : X.calm = true) : CallR X (.type "dict") (fun xs H Q => ∃ (a : Addr) (o : Obj) (ps : List Addr) (kvs : List (Key × V)), xs = [.ref a] ∧ H a = some (.frz o (.tup (ps.map V.ref))) ∧ o.dict = none ∧ Paired (fun p kv => SqT X.K H p [kV kv.1, kv.2]) ps kvs ∧
    ∀ p, H p = none → Q (.ref p) (upd H p (.dK (mergeK [] kvs)))) := by
  intro pins s σ H xs us Q I r q
  obtain ⟨a, o, ps, kvs, ex, hq, hdn, hp, q⟩ := q
  subst ex
  obtain ⟨u, eu, rx⟩ := vals1 r
  subst eu
  cases rx
  obtain ⟨ho, hz, its, rv, o', ho', hc, n, hdat⟩ := I.hok a _ hq
  rw [ho] at ho'
  cases ho'
  have ei := refs_at rv
  subst ei
  rw [List.length_map] at hz
  obtain ⟨prs, pv, rel, hl, hl2, hpr⟩ := pairs_of2 I hp
  have P := PairArg.tuple (prog := X.prog) (w := X.w) a (ps.map Value.ref).toArray (fun j => ps.getD j 0) pv
  have hlen : (mergeK [] kvs).length ≤ sizeLine := by
    refine Nat.le_trans (length_mergeK kvs []) ?_
    rw [List.length_nil, Nat.zero_add, rel.length, hl]
    exact hz
  have hm : (s.heap.objs.size == sysModules) = false := beq_eq_false_iff_ne.mpr (Nat.ne_of_gt I.big)
  refine PySem.call_dict_pairs (knd := mixKind X.prog X.w) (kvs := prs) P (I.ok.hd hcalm) ⟨⟨o, n, ho, hc, hdn, hdat⟩, by simp [hl2], fun j k v e => ?_⟩ ⟨by rw [hl, hl2], fun i k v e => ?_⟩ (by rw [hl2]; exact hz) fun h' tk hd' k => ?_
  · obtain ⟨b, key, e1, e2, e3, e4⟩ := hpr j k v e
    exact ⟨by simp [e1, List.getD], .inl (by show s.heap.IsTuple (ps.getD j 0) _; rw [show (ps.getD j 0) = b by simp [List.getD, e1]]; exact e2)⟩
  · obtain ⟨b, key, e1, e2, e3, e4⟩ := hpr i k v e
    exact ⟨key, e3, e4⟩
  · exact ⟨.ref s.heap.objs.size, upd H s.heap.objs.size (.dK (mergeK [] kvs)), I.laid (t' := tk) (fun b o e => k b o (by simp) e) (Nat.le_refl _) (show ObjOk X.prog X.w _ _ _ (.dK (mergeK [] kvs)) from ⟨hlen, hm, merged [] prs, KV.merge rel .nil, hd'⟩), rfl, q _ (I.hok.fresh (Nat.le_refl _))⟩
/-- tuple(l), told with the object -/
theorem call_tupleX : CallR X (.type "tuple") (fun xs H Q => ∃ p ys, xs = [.ref p] ∧ SqL X.K H p ys ∧ ∀ l o, H l = none → o.dict = none → Q (.ref l) (upd H l (.frz o (.tup ys)))) := by
  intro pins s σ H xs us Q I r h
  obtain ⟨p, ys, rfl, hq, q⟩ := h
  obtain ⟨u, rfl, rx⟩ := vals1 r
  cases rx
  obtain ⟨its, r', pl, hz⟩ := I.list hq
  have hlen := r'.length
  refine call_tuple_list pl.isList (fun h' kp => ?_) (by simp only [List.size_toArray] <;> omega)
  have I1 : Inv X pins σ H { s with heap := h' } := I.kept (t' := s.toks) kp
  have I2 : Inv X pins σ (upd H h'.objs.size (.frz { cls := .type "tuple", data := .seq its.toArray } (.tup ys))) { s with heap := h'.push { cls := .type "tuple", data := .seq its.toArray } } :=
    I1.laid (t' := s.toks) (fun b o e => Heap.get?_push_of_some _ e) (Nat.le_refl _) (show ObjOk X.prog X.w _ _ _ (.frz _ (.tup ys)) from ⟨Heap.get?_push_size _ rfl, hz, its, r', IsTup.new _ _⟩)
  exact ⟨.ref h'.objs.size, _, I2, rfl, q _ _ (I1.hok.fresh (Nat.le_refl _)) rfl⟩
end
/-! ### on data -/
/-- pairs as data -/
def prsD (kds : List (Key × D)) : List D := kds.map fun p => .tup [kD p.1, p.2]
def mergeD (kds : List (Key × D)) : List (Key × D) → List (Key × D)
  | [] => kds
  | p :: r => mergeD (putD kds p.1 p.2) r
section
variable {K : PySem.W.Frag} {R : Hp}
theorem rp_merge : ∀ {more : List (Key × V)} {md : List (Key × D)} {kvs : List (Key × V)} {kds : List (Key × D)}, RpK K R more md → RpK K R kvs kds → RpK K R (mergeK kvs more) (mergeD kds md)
  | _, _, _, _, .nil, h => h
  | _, _, _, _, .cons (k := k) a t, h => by unfold mergeD; have z := rp_merge t (h.put k a); exact z
theorem prs_rp : ∀ {xs : List V} {kds : List (Key × D)}, RpL K R xs (prsD kds) → ∃ ps kvs, xs = ps.map V.ref ∧ Paired (fun p kv => SqT K R p [kV kv.1, kv.2]) ps kvs ∧ RpK K R kvs kds
  | _, [], h => by cases h; exact ⟨[], [], rfl, .nil, .nil⟩
  | _, (k, d) :: kds, h => by
    cases h with
    | cons r t =>
      obtain ⟨ps, kvs, rfl, e2, e3⟩ := prs_rp t
      cases r with
      | @tup a ys _ q z =>
        cases z with | cons z1 z2 => cases z2 with | cons z2 z3 => cases z3; cases rp_kD z1; exact ⟨a :: ps, (k, _) :: kvs, rfl, .cons q e2, .cons z2 e3⟩
end
theorem paired_mono {K : PySem.W.Frag} {R R' : Hp} (e : Same R R') {ps : List Addr} {kvs : List (Key × V)} (h : Paired (fun p kv => SqT K R p [kV kv.1, kv.2]) ps kvs) : Paired (fun p kv => SqT K R' p [kV kv.1, kv.2]) ps kvs := by
  induction h with
  | nil => exact .nil
  | cons a _ ih => exact .cons (sqT_mono e a) ih
section
variable {W : Wd} {X : Cx} {Γ : List Sl} {n c : Nat} {a : Expr} {pos p : Pos}
abbrev rDT : List V → Hp → VK → Prop := fun xs H Q => ∃ (a : Addr) (o : Obj) (ps : List Addr) (kvs : List (Key × V)), xs = [.ref a] ∧ H a = some (.frz o (.tup (ps.map V.ref))) ∧ o.dict = none ∧ Paired (fun p kv => SqT X.K H p [kV kv.1, kv.2]) ps kvs ∧
    ∀ p, H p = none → Q (.ref p) (upd H p (.dK (mergeK [] kvs)))
theorem em_dictT {kds : List (Key × D)} (hc : X.calm = true) (hg : Gl X "dict") (hm : Bn X "dict") (ha : Ev W X a Γ c (Is (.rws (prsD kds)))) (he : starEach [a] X.env = (false, eval a X.env) :: starEach [] X.env := by rfl) (hpl : (backTo pos (starEach [] X.env)).any (·.1) = false := by rfl) :
    EvM W X (.Call (.Name "dict" p) [a] [] pos) Γ c (fun sl => sl = .md (mergeD [] kds)) := fun R0 H0 Rl σ R n H s hn Q k => by
  refine wE_of (pe_callTy (call_dictT hc) hg hm PyProof.Rows.boot_dict (pa_cons (wE_ok a) pa_nil he) (by decide) (by decide) he hpl) ?_
  refine ha R0 H0 Rl σ R n H s hn _ fun v R1 H1 d g j f r => ?_
  rw [show d = .rws (prsD kds) from f] at r
  cases r with
  | @rws a xs ds q r =>
    obtain ⟨ps, kvs, rfl, e2, e3⟩ := prs_rp r
    obtain ⟨o, q, hd⟩ := q
    refine ⟨a, o, ps, kvs, rfl, g.rh _ _ q, hd, paired_mono g.rh e2, fun l hl => ?_⟩
    have hlH : H l = none := by
      cases q : H l with
      | none => rfl
      | some o => obtain ⟨o', e⟩ := g.hb l o q; rw [hl] at e; cases e
    exact k l R1 _ (.md (mergeD [] kds)) (g.trans (Gr.newM g.rh hl)) (W.loc j fun b o _ e => by rw [upd_ne (ne_of_none e hl)]; exact e) hlH ⟨_, g.rh.free hl, upd_same, rp_merge e3 .nil⟩ rfl
theorem ev_dictT {kds : List (Key × D)} (hc : X.calm = true) (hg : Gl X "dict") (hm : Bn X "dict") (ha : Ev W X a Γ c (Is (.rws (prsD kds)))) (he : starEach [a] X.env = (false, eval a X.env) :: starEach [] X.env := by rfl) (hpl : (backTo pos (starEach [] X.env)).any (·.1) = false := by rfl) :
    Ev W X (.Call (.Name "dict" p) [a] [] pos) Γ c (Is (.dct (mergeD [] kds))) := ev_of_m (em_dictT hc hg hm ha he hpl) fun sl e => by subst e; rfl
abbrev rTX : List V → Hp → VK → Prop := fun xs H Q => ∃ p ys, xs = [.ref p] ∧ SqL X.K H p ys ∧ ∀ l o, H l = none → o.dict = none → Q (.ref l) (upd H l (.frz o (.tup ys)))
theorem cd_tupX {ds : List D} : CD X.K (rTX (X := X)) [.lst ds] (.rws ds) := fun vs R H Q hr r k => by
  cases r with | cons r t => cases t; cases r with
  | @lst a xs ds q r => exact ⟨a, xs, rfl, sqL_mono hr q, fun l o hl hd => k _ _ _ (Gr.new hr hl) (.rws ⟨o, upd_same, hd⟩ (r.mono (Same.freeze (hr.free hl))))⟩
theorem ev_tupleX {ds : List D} (hg : Gl X "tuple") (hm : Bn X "tuple") (ha : Ev W X a Γ c (Is (.lst ds))) (he : starEach [a] X.env = (false, eval a X.env) :: starEach [] X.env := by rfl) (hpl : (backTo pos (starEach [] X.env)).any (·.1) = false := by rfl) :
    Ev W X (.Call (.Name "tuple" p) [a] [] pos) Γ c (Is (.rws ds)) := ev_callT call_tupleX hg hm PyProof.Rows.boot_tuple (es_consI ha es_nil he) (fun ss e => by
      obtain rfl := e
      exact ⟨[_], _, rfl, cd_tupX, rfl⟩) (by decide) (by decide) he hpl
theorem EvT.to {z z' : Bool} {e : Expr} (h : EvT W X e Γ c (Is z)) (q : z = z') : EvT W X e Γ c (Is z') := q ▸ h
/-- weakening -/
theorem Ev.weak {ds : List D} {e : Expr} (h : Ev W X e Γ c (Is (.rws ds))) : Ev W X e Γ c (Is (.tup ds)) := fun R0 H0 Rl σ R n H s hn Q k =>
  h R0 H0 Rl σ R n H s hn Q fun v R' H' d g j e r => by
    rw [show d = .rws ds from e] at r
    exact k v R' H' _ g j rfl r.weak
section
variable {st : Stmt} {sts rest x y : List Stmt} {P : Pst} {z : Bool}
/-- y = [.. for .. in .. if c] on one line -/
theorem ss_setLcP {i : Nat} {y : Str} {py spos : Pos} {elt tg iter c : Expr} {scope : Scope} {own : List (Str × Nat)} {α : Type} {xs : List α} {enc : α → D} {F : α → D} {p : α → Bool} (asf : α → List (Nat × D)) (hc : X.calm = true) (hN : X.N.Nodup) (hy : X.N[i]? = some y) (hyl : X.env.scope.names.lookup y = some .local)
    (hsw : swapsWith (.ListComp elt [⟨tg, iter, [c], 0⟩] scope pos) (some (.Name y py)) spos.line X.env = pure true) (hiΓ : i < Γ.length) (ok : BlkOk X.N X.env.scope scope own) (hi : EvI W X tg iter Γ 0 (Is (xs.map enc)))
    (ht : ∀ d ∈ xs, AtB X scope (fun Y => Tg Y tg (enc d) (asf d) ∧ EvT W Y c (setG (wipeG Γ (own.map (·.2))) (asf d)) 0 (Is (p d)) ∧ (p d = true → Ev W Y elt (setG (wipeG Γ (own.map (·.2))) (asf d)) 0 (Is (F d)))) ∧ ∀ a ∈ asf d, a.1 ∈ own.map (·.2)) (hl : xs.length ≤ 4000)
    (hn : n ≤ LIM) (k : Sms W X rest (Γ.set i (.dat (.lst ((xs.filter p).map F)))) n P) (hs : ∀ x, foldedSetIterable iter X.env x = pure x := by intro _; rfl) :
    Sms W X (.Assign [.Name y py] (.ListComp elt [⟨tg, iter, [c], 0⟩] scope pos) spos :: rest) Γ n P :=
  ss_cons (sm_setT (ps_setLc hc hN hy hyl hsw (wI_ok tg iter) ok (gB_ok (tg := tg)) (iB_ok (ifs := [c])) (eB_ok (elt := elt)) hs) (lc_t (p := p) (c := 0) (c0 := 0) (c1 := 0) (φ := fun d => Is (F d)) hc hN ok hi asf (fun d hd => by
    obtain ⟨h1, h2⟩ := ht d hd
    exact ⟨fun s H C cl fp => let ⟨x, y, z⟩ := h1 s H C cl fp; ⟨x, ets_one y, z⟩, h2⟩) hl (by omega)) (by omega) fun sl ⟨es, e2, al⟩ => by
      subst e2
      rw [al.isMap]
      exact ss_frzL (i := i) (ds := (xs.filter p).map F) (List.getElem?_set_self hiΓ) (by rw [List.set_set]; exact k))
theorem ss_setLcF {i : Nat} {y : Str} {py spos : Pos} {elt tg iter : Expr} {scope : Scope} {own : List (Str × Nat)} {α : Type} {xs : List α} {enc : α → D} {F : α → D} (asf : α → List (Nat × D)) (hc : X.calm = true) (hN : X.N.Nodup) (hy : X.N[i]? = some y) (hyl : X.env.scope.names.lookup y = some .local)
    (hsw : swapsWith (.ListComp elt [⟨tg, iter, [], 0⟩] scope pos) (some (.Name y py)) spos.line X.env = pure true) (hiΓ : i < Γ.length) (ok : BlkOk X.N X.env.scope scope own) (hi : EvI W X tg iter Γ 0 (Is (xs.map enc)))
    (ht : ∀ d ∈ xs, AtB X scope (fun Y => Tg Y tg (enc d) (asf d) ∧ Ev W Y elt (setG (wipeG Γ (own.map (·.2))) (asf d)) 0 (Is (F d))) ∧ ∀ a ∈ asf d, a.1 ∈ own.map (·.2)) (hl : xs.length ≤ 4000)
    (hn : n ≤ LIM) (k : Sms W X rest (Γ.set i (.dat (.lst (xs.map F)))) n P) (hs : ∀ x, foldedSetIterable iter X.env x = pure x := by intro _; rfl) :
    Sms W X (.Assign [.Name y py] (.ListComp elt [⟨tg, iter, [], 0⟩] scope pos) spos :: rest) Γ n P :=
  ss_cons (sm_setT (ps_setLc hc hN hy hyl hsw (wI_ok tg iter) ok (gB_ok (tg := tg)) (iB_ok (ifs := [])) (eB_ok (elt := elt)) hs) (lc_t (p := fun _ => true) (c := 0) (c0 := 0) (c1 := 0) (φ := fun d => Is (F d)) hc hN ok hi asf (fun d hd => by
    obtain ⟨h1, h2⟩ := ht d hd
    exact ⟨fun s H C cl fp => let ⟨x, y⟩ := h1 s H C cl fp; ⟨x, ets_nil, fun _ => y⟩, h2⟩) hl (by omega)) (by omega) fun sl ⟨es, e2, al⟩ => by
      subst e2
      have z : xs.filter (fun _ => true) = xs := by rw [List.filter_eq_self]; intro _ _; rfl
      rw [z] at al
      rw [al.isMap]
      exact ss_frzL (i := i) (ds := xs.map F) (List.getElem?_set_self hiΓ) (by rw [List.set_set]; exact k))
end
end
end Qq
/-! Qk: y = {k: v for .. in .. if c}. -/
namespace Qq
open PySem PySem.Spec PyProof.Rows L2
section
variable {X : Cx}
theorem ps_setDc {i : Nat} {y : Str} {py : Pos} {kx vx tg iter : Expr} {ifs : List Expr} {scope : Scope} {own : List (Str × Nat)} {pos spos : Pos} {wi : TI} {g : TG} {tt : TT} {tk tv : TE} (hc : X.calm = true) (hN : X.N.Nodup) (hy : X.N[i]? = some y) (hyl : X.env.scope.names.lookup y = some .local)
    (hsw : swapsWith (.DictComp kx vx [⟨tg, iter, ifs, 0⟩] scope pos) (some (.Name y py)) spos.line X.env = pure true) (hi : PI X tg iter wi) (ok : BlkOk X.N X.env.scope scope own)
    (hg : ∀ (s : Shared) (H : Hp) (C : Addr) (cl : List (Str × Addr)) (fp : List Addr), PG (L2.Cx.blk X s H scope (compEnvC scope cl C X.env) fp) tg g) (ht : ∀ (s : Shared) (H : Hp) (C : Addr) (cl : List (Str × Addr)) (fp : List Addr), PTs (L2.Cx.blk X s H scope (compEnvC scope cl C X.env) fp) ifs tt)
    (hk : ∀ (s : Shared) (H : Hp) (C : Addr) (cl : List (Str × Addr)) (fp : List Addr), PE (L2.Cx.blk X s H scope (compEnvC scope cl C X.env) fp) kx tk)
    (he : ∀ (s : Shared) (H : Hp) (C : Addr) (cl : List (Str × Addr)) (fp : List Addr), PE (L2.Cx.blk X s H scope (compEnvC scope cl C X.env) fp) vx tv) (hs : ∀ x, foldedSetIterable iter X.env x = pure x := by intro _; rfl) :
    PS X (.Assign [.Name y py] (.DictComp kx vx [⟨tg, iter, ifs, 0⟩] scope pos) spos) (tAsg (tDc wi g tt tk tv (own.map (·.2))) (gName i)) := by
  refine ⟨fun pins s σ H D I h => ?_⟩
  rw [exec_Assign_Name_used _ _ _ _ hsw]
  refine wpAny_bind (wpAny_standAt (wpAny_bind ?_))
  show wpAny _ X.A (do let _ ← comprehension (.DictComp kx vx [⟨tg, iter, ifs, 0⟩] scope pos) scope X.env (firstIterPos [⟨tg, iter, ifs, 0⟩] pos) newDict false (eval iter X.env) (some (assign (.Name y py) X.env))) _ _ s
  have h : tDc wi g tt tk tv (own.map (·.2)) σ H (fun x H1 => gName i x σ H1 D.nx) := h
  refine wpAny_bind (thn (dc_core (Qf := fun _ s' => SP X pins D .next s') hc hN I hi ok hg ht hk he hs h fun L C s' m H' I' q hn f => ?_) fun _ s' hq => wpAny_pure (wpAny_pure hq))
  show wpAny _ _ (assign (.Name y py) X.env (.ref L)) _ _ _
  refine wpAny_assign_Name (store_ok2 (v := V.ref L) I' hN hy (.inl hyl) rfl (fun s2 I2 ⟨a, sb, ha⟩ => ?_) (.inr hyl))
  obtain ⟨f0, f1, f2, f3, f4, f5⟩ := f
  have haC : C ≠ a := by
    rcases ha with z | z
    · rw [z]; exact f1
    · exact fun e => f4 y a z e.symm
  refine ⟨m, hn.sameBut sb haC, fun h3 sb3 => ?_⟩
  exact ⟨_, H', I2.turned (t' := s2.toks) (fun b o hb e => (sb3.2 b hb).trans e) f0 f1 f3 f4 f5, q⟩
end
theorem putD_len (a : List (Key × D)) (k : Key) (d : D) : (putD a k d).length ≤ a.length + 1 := by
  unfold putD
  split
  · rw [List.length_map]; omega
  · rw [List.length_append]; exact Nat.le_refl _
theorem mergeD_snoc : ∀ (b a : List (Key × D)) (k : Key) (d : D), mergeD a (b ++ [(k, d)]) = putD (mergeD a b) k d
  | [], _, _, _ => rfl
  | q :: b, a, k, d => mergeD_snoc b (putD a q.1 q.2) k d
theorem mergeD_len : ∀ (b a : List (Key × D)), (mergeD a b).length ≤ a.length + b.length
  | [], a => Nat.le_refl _
  | q :: b, a => by
    have h1 := mergeD_len b (putD a q.1 q.2)
    have h2 := putD_len a q.1 q.2
    rw [List.length_cons]
    show (mergeD (putD a q.1 q.2) b).length ≤ _
    omega
section
variable {J : It} {n : Nat} {G : Hp → Prop} {Y : Nat → Hp → V → Hp → Prop}
theorem dc_it (w : Walk J n G Y) {g : TG} {tt : TT} {tk tv : TE} {vs : List Nat} {σ : L2.St} {H1 : Hp} {D : Addr} {Qd : Hp → Prop} (Pv : Nat → Hp → Prop) (h0 : Pv 0 (upd H1 D (.dK []))) (hG : ∀ i H, i ≤ n → Pv i H → G H)
    (hs : ∀ i x H H', i < n → Pv i H → Y i H x H' → g x (wipe σ vs) H' fun σ2 H2 => wipe σ2 vs = wipe σ vs ∧ tt σ2 H2 fun b H3 =>
      if b = true then tk σ2 H3 fun y H4 => tv σ2 H4 fun z H5 => ∃ kvs k, y = kV k ∧ H5 D = some (.dK kvs) ∧ kvs.length < sizeLine ∧ Pv (i + 1) (upd H5 D (.dK (putK kvs k z))) else Pv (i + 1) H3) (hd : ∀ H, Pv n H → Qd H) :
    ∃ W : Nat → Nat → Hp → Prop, (∃ m, W 0 m (upd H1 D (.dK []))) ∧ ∀ i m H, W i m H →
      (J.stop i H ∧ Qd H) ∨ (J.go i H ∧ ∃ Nx : Hp → Prop, (∀ H', Nx H' → ∃ m', m' < m ∧ W (i + 1) m' H') ∧ ∀ x H', J.yld i H x H' → g x (wipe σ vs) H' fun σ2 H2 => wipe σ2 vs = wipe σ vs ∧ tt σ2 H2 fun b H3 =>
        if b = true then tk σ2 H3 fun y H4 => tv σ2 H4 fun z H5 => ∃ kvs k, y = kV k ∧ H5 D = some (.dK kvs) ∧ kvs.length < sizeLine ∧ Nx (upd H5 D (.dK (putK kvs k z))) else Nx H3) := by
  refine ⟨fun i m H => m = n - i ∧ i ≤ n ∧ Pv i H, ⟨n, by simp, Nat.zero_le _, h0⟩, ?_⟩
  rintro i m H ⟨rfl, hi, p⟩
  have q := hG i H hi p
  by_cases hlt : i < n
  · refine .inr ⟨w.goes i H hlt q, Pv (i + 1), fun H' p' => ⟨n - (i + 1), by omega, rfl, hlt, p'⟩, fun x H' y => hs i x H H' hlt p (w.yields i H x H' hlt q y)⟩
  · have e : i = n := by omega
    subst e
    exact .inl ⟨w.stops H q, hd H p⟩
end
section
variable {W : Wd} {X : Cx} {Γ : List Sl} {n c : Nat} {pos : Pos}
theorem dc_t {kx vx tg iter : Expr} {ifs : List Expr} {scope : Scope} {own : List (Str × Nat)} {α : Type} {xs : List α} {enc : α → D} {kf : α → Key} {F : α → D} {p : α → Bool} (hc : X.calm = true) (hN : X.N.Nodup) (ok : BlkOk X.N X.env.scope scope own)
    (hi : EvI W X tg iter Γ 0 (Is (xs.map enc))) (asf : α → List (Nat × D))
    (ht : ∀ d ∈ xs, AtB X scope (fun Y => Tg Y tg (enc d) (asf d) ∧ EvTs W Y ifs (setG (wipeG Γ (own.map (·.2))) (asf d)) (p d) ∧ (p d = true → Ev W Y kx (setG (wipeG Γ (own.map (·.2))) (asf d)) 0 (Is (kD (kf d))) ∧ Ev W Y vx (setG (wipeG Γ (own.map (·.2))) (asf d)) 0 (Is (F d)))) ∧ ∀ a ∈ asf d, a.1 ∈ own.map (·.2))
    (hl1 : xs.length ≤ 4000) :
    EvMt W X (tDc (wI X tg iter) (gB X scope tg) (iB X scope ifs) (eB X scope kx) (eB X scope vx) (own.map (·.2))) Γ 0 (fun sl => sl = .md (mergeD [] ((xs.filter p).map fun d => (kf d, F d)))) := fun R0 H0 Rl σ R n H s hn Q k => by
  refine hi R0 H0 Rl σ R n H s (by omega) _ fun J R1 H1 ds g1 j1 f1 ⟨G, Y, wk, hG, hY⟩ => ?_
  obtain rfl : ds = xs.map enc := f1
  rw [List.length_map] at wk
  intro Dd hD
  have s1 := s.grow g1 j1
  refine dc_it (g := gB X scope tg) (tt := iB X scope ifs) (tk := eB X scope kx) (tv := eB X scope vx) (vs := own.map (·.2)) (σ := σ) (H1 := H1) (D := Dd) (Qd := fun H' => Q (.ref Dd) H') wk (fun i H' => i ≤ xs.length ∧ ∃ R' acc, Gr W R1 H1 R' H' ∧ W.J n H' ∧ R' Dd = none ∧ H' Dd = some (.dK acc) ∧ RpK X.K R' acc (mergeD [] (((xs.take i).filter p).map fun d => (kf d, F d)))) ?_ ?_ ?_ ?_
  · exact ⟨Nat.zero_le _, R1, [], Gr.newM g1.rh hD, W.loc j1 fun b o hb e => by rw [upd_ne (ne_of_none e hD)]; exact e, g1.rh.free hD, upd_same, by rw [List.take_zero]; exact .nil⟩
  · rintro i H' _ ⟨_, R', acc, g, _⟩
    exact hG R' H' g.rr g.rh
  · rintro i x H' H'' hi ⟨_, R', acc, g, j, dR, dH, ra⟩ y
    obtain ⟨R2, dd, g2, kp, hdd, rx⟩ := hY i R' H' x H'' (by rw [List.length_map]; exact hi) g.rr g.rh y
    obtain ⟨d, hd, ed⟩ : ∃ d, xs[i]? = some d ∧ enc d = dd := by
      rw [List.getElem?_map] at hdd
      cases q : xs[i]? with
      | none => rw [q] at hdd; cases hdd
      | some d => rw [q] at hdd; exact ⟨d, rfl, Option.some.inj hdd⟩
    subst ed
    have hm : d ∈ xs := List.mem_of_getElem? hd
    obtain ⟨ht1, ht2⟩ := ht d hm
    have nB : ¬ W.B Dd := So.nB j1 hD
    intro s2 H2 C cl fp
    obtain ⟨tg1, tt1, te1⟩ := ht1 s2 H2 C cl fp
    refine tg1 x (wipe σ (own.map (·.2))) R2 H'' _ g2.rh rx ?_
    intro bs hbs
    refine ⟨(wipe_setAll (hbs.fst ht2)).trans (wipe_wipe fun _ z => z), ?_⟩
    have j2 : W.J n H'' := W.loc j fun b o _ e => kp b o e
    have sB := (((s1.grow g j).grow g2 j2).wipe (own.map (·.2))).setAll hbs
    intro s3 H3 C3 cl3 fp3
    obtain ⟨_, tt2, _⟩ := ht1 s3 H3 C3 cl3 fp3
    refine tt2 R0 H0 Rl _ R2 _ H'' sB (by omega) _ fun R3 H4 g3 j3 => ?_
    have dR2 : R2 Dd = none := g2.nw Dd _ dH dR
    have dH2 : H'' Dd = some (.dK acc) := kp _ _ dH
    have dR3 : R3 Dd = none := g3.nw Dd _ dH2 dR2
    have dH3 : H4 Dd = some (.dK acc) := g3.hh Dd _ nB dH2
    by_cases hp : p d = true
    · rw [hp]
      refine iteT ?_
      intro s5 H5 C5 cl5 fp5
      obtain ⟨_, _, te3⟩ := ht1 s5 H5 C5 cl5 fp5
      refine (te3 hp).1 R0 H0 Rl _ R3 _ H4 (sB.grow g3 j3) (by omega) _ fun v R4 H6 d' g4 j4 f4 r4 => ?_
      rw [show d' = kD (kf d) from f4] at r4
      have ek := rp_kD r4
      intro s6 H7 C6 cl6 fp6
      obtain ⟨_, _, te4⟩ := ht1 s6 H7 C6 cl6 fp6
      refine (te4 hp).2 R0 H0 Rl _ R4 _ H6 ((sB.grow g3 j3).grow g4 j4) (by omega) _ fun v2 R5 H8 d2 g5 j5 f5 r5 => ?_
      rw [show d2 = F d from f5] at r5
      have dR4 : R4 Dd = none := g4.nw Dd _ dH3 dR3
      have dH4 : H6 Dd = some (.dK acc) := g4.hh Dd _ nB dH3
      have dR5 : R5 Dd = none := g5.nw Dd _ dH4 dR4
      have dH5 : H8 Dd = some (.dK acc) := g5.hh Dd _ nB dH4
      have gA : Gr W R1 H1 R5 H8 := (((g.trans g2).trans g3).trans g4).trans g5
      have al := ra.len
      have ll : acc.length ≤ i := by
        rw [al]
        refine Nat.le_trans (mergeD_len _ _) ?_
        rw [List.length_nil, List.length_map, Nat.zero_add]
        exact Nat.le_trans (List.length_filter_le _ _) (by rw [List.length_take]; omega)
      refine ⟨acc, kf d, ek, dH5, Nat.lt_of_lt_of_le (by omega : acc.length < 4001) (by decide), by omega, R5, putK acc (kf d) v2, gA.mut hD dR5, W.loc j5 fun b o hb e => by rw [upd_ne (show b ≠ Dd from fun z => hb.elim (fun h => nB (z ▸ h)) fun ⟨φ, h⟩ => (by rw [z, dH5, h] at e; cases e))]; exact e, dR5, upd_same, ?_⟩
      rw [take_succ hd, List.filter_append, List.filter_cons, hp, List.map_append]
      show RpK X.K R5 _ (mergeD [] (_ ++ [(kf d, F d)]))
      rw [mergeD_snoc]
      exact (ra.mono (((g2.rr.trans g3.rr).trans g4.rr).trans g5.rr)).put _ r5
    · have hp' : p d = false := by simpa using hp
      rw [hp']
      refine iteF ⟨by omega, R3, acc, (g.trans g2).trans g3, j3, dR3, dH3, ?_⟩
      rw [take_succ hd, List.filter_append, List.filter_cons, hp']
      simpa using ra.mono (g2.rr.trans g3.rr)
  · rintro H' ⟨_, R', acc, g, j, dR, dH, ra⟩
    rw [List.take_length] at ra
    exact k Dd R' H' (.md _) (g1.trans g) j (by
      cases q : H Dd with
      | none => rfl
      | some o =>
        obtain ⟨o', e⟩ := g1.hb Dd o q
        rw [hD] at e; cases e) ⟨acc, dR, dH, ra⟩ rfl
theorem swd_true {kx vx : Expr} {gs : List Comprehension} {scope : Scope} {pos py : Pos} {y : Str} {l : Nat} {env : Env} (hk : env.scope.kind = .function) (hy : env.scope.names.lookup y = some .local) (hl : (py.line == pos.line) = true)
    (ha : (scope.names.any fun (n, k) => n == y && (k == .local || k == .cell)) = false) : swapsWith (.DictComp kx vx gs scope pos) (some (.Name y py)) l env = pure true := by
  have ky : env.kindOf y = some .local := hy
  have hb : env.blockKind = .function := by unfold Env.blockKind; rw [hk]; rfl
  unfold swapsWith
  simp only [hb, ky, ha, Expr.pos, hl]
  rfl
section
variable {sts rest : List Stmt} {P : Pst}
/-- y = {k: v for .. in .. if c} on one line: y's dict stays the def's own -/
theorem ss_setDcP {i : Nat} {y : Str} {py spos : Pos} {kx vx tg iter c : Expr} {scope : Scope} {own : List (Str × Nat)} {α : Type} {xs : List α} {enc : α → D} {kf : α → Key} {F : α → D} {p : α → Bool} (asf : α → List (Nat × D)) (hc : X.calm = true) (hN : X.N.Nodup) (hy : X.N[i]? = some y) (hyl : X.env.scope.names.lookup y = some .local)
    (hsw : swapsWith (.DictComp kx vx [⟨tg, iter, [c], 0⟩] scope pos) (some (.Name y py)) spos.line X.env = pure true) (hiΓ : i < Γ.length) (ok : BlkOk X.N X.env.scope scope own) (hi : EvI W X tg iter Γ 0 (Is (xs.map enc)))
    (ht : ∀ d ∈ xs, AtB X scope (fun Y => Tg Y tg (enc d) (asf d) ∧ EvT W Y c (setG (wipeG Γ (own.map (·.2))) (asf d)) 0 (Is (p d)) ∧ (p d = true → Ev W Y kx (setG (wipeG Γ (own.map (·.2))) (asf d)) 0 (Is (kD (kf d))) ∧ Ev W Y vx (setG (wipeG Γ (own.map (·.2))) (asf d)) 0 (Is (F d)))) ∧ ∀ a ∈ asf d, a.1 ∈ own.map (·.2)) (hl : xs.length ≤ 4000)
    (hn : n ≤ LIM) (k : Sms W X rest (Γ.set i (.md (mergeD [] ((xs.filter p).map fun d => (kf d, F d))))) n P) (hs : ∀ x, foldedSetIterable iter X.env x = pure x := by intro _; rfl) :
    Sms W X (.Assign [.Name y py] (.DictComp kx vx [⟨tg, iter, [c], 0⟩] scope pos) spos :: rest) Γ n P :=
  ss_cons (sm_setT (c := 0) (ps_setDc hc hN hy hyl hsw (wI_ok tg iter) ok (gB_ok (tg := tg)) (iB_ok (ifs := [c])) (eB_ok (elt := kx)) (eB_ok (elt := vx)) hs) (dc_t (p := p) (kf := kf) (F := F) hc hN ok hi asf (fun d hd => by
    obtain ⟨h1, h2⟩ := ht d hd
    exact ⟨fun s H C cl fp => let ⟨x, y, z⟩ := h1 s H C cl fp; ⟨x, ets_one y, z⟩, h2⟩) hl) (by omega) fun sl e2 => by
      subst e2
      exact k)
end
end
end Qq
/-! Ql: sorted(d.items(), key=lambda row: row[0]). -/
namespace Qq
open PySem PySem.Spec PyProof.Rows L2
open PySem.W (EachIs AllAlike.of Sortable.others dataLe_int)
section
variable {Pg : Program} {wd : World} {A : Around} {s : Shared}
/-- f(t), f being lambda row: row[0], t a tuple of two, an integer first -/
theorem row0_call {f c' t : Addr} {q : Str} {params : Arguments} {scope : Scope} {pm ctv y : Value} {i : Int} {u : Tok} {p1 p2 pos : Pos} {kk : Nat}
    (hf : s.heap.get? f = some (PySem.W.kla_obj "<lambda>" q params (.Subscript (.Name "row" p1) (.Constant (.int 0) kk p2) pos) scope [] pm c' ctv)) (hcd : s.heap.CodeRec (.ref c') q) (lim : s.heap.NoLimit) (hk : scope.kind = .function) (hco : scope.isCoroutine = false)
    (hgen : scope.isGenerator = false) (hloc : scope.names.lookup (Str.ofString "row") = some NameKind.local) (hnc : ∀ x ∈ scope.names, x.2 ≠ .cell)
    (hb : bindArgs (PySem.W.kla_fn "<lambda>" q params (.Subscript (.Name "row" p1) (.Constant (.int 0) kk p2) pos) scope [] pm (.ref c') ctv) ⟨[Value.ref t], []⟩ = pure [(Str.ofString "row", Value.ref t)]) (hd : A.depth < recursionLimit) (ht : IsTup s.heap t #[.int i u, y]) :
    wpAny (model Pg wd) A (call (.ref f) [.ref t]) (PySem.W.KeyPure (.int i) s) (fun _ _ => False) s := by
  refine wpAny_call ?_
  refine PySem.W.kla_callFunE hd hf rfl hco hgen rfl hcd ?_
  rw [hb]
  refine wpAny_pure (wpAny_newFunctionEnv hnc (fun x hx => by rw [List.mem_singleton.mp hx]; exact hloc) (fun h₁ hns hsb => ⟨lim.fresh _ hsb, ?_⟩) hk)
  have kp : ∀ b o, s.heap.get? b = some o → h₁.get? b = some o := fun b o e => hsb.extBut b o (Nat.ne_of_lt (Heap.lt_size e)) (Heap.get?_push_of_some _ e)
  refine PySem.W.kla_codeExpr ?_
  have ht1 : IsTup h₁ t #[.int i u, y] := ht.keeps kp
  refine PyProof.Rows.Subscript_ ?_
  refine wpAny_Name (wpAny_loadName_local hk hloc hns (v := .ref t) rfl ?_) (by decide)
  refine wpAny_Constant_int ?_
  refine subscriptTail_builtinR (x := .int i u) ht1.typeIs slot_tuple_getitem.lookup (PyProof.Rows.getItem_tuple (j := 0) (x := .int i u) (s := { s with heap := h₁, toks := _ }) ht1 (by decide) (by decide) rfl rfl ⟨rfl, ?_⟩)
  refine ⟨h₁, _, rfl, kp, ?_⟩
  exact .int i u

theorem each_refs {R : Value → Addr × Int → Prop} (hR : ∀ v b, R v b → v = .ref b.1) : ∀ {vs : List Value} {bs : List (Addr × Int)}, EachIs R vs bs → vs = bs.map fun b => Value.ref b.1
  | _, _, .nil => rfl
  | _, _, .cons r t => by rw [List.map_cons, ← hR _ _ r, ← each_refs hR t]
theorem each_zip {as : List Addr} {ks : List Int} {R : Value → Addr × Int → Prop} (hl : as.length = ks.length) (h : ∀ (j : Nat) (a : Addr) (k : Int), as[j]? = some a → ks[j]? = some k → R (.ref a) (a, k)) : EachIs R (as.map Value.ref) (as.zip ks) := by
  induction as generalizing ks with
  | nil => cases ks with
    | nil => exact .nil
    | cons _ _ => cases hl
  | cons a as ih => cases ks with
    | nil => cases hl
    | cons k ks => exact .cons (h 0 a k rfl rfl) (ih (Nat.succ.inj hl) fun j a' k' e1 e2 => h (j + 1) a' k' (by simpa using e1) (by simpa using e2))
/-- what sorted(items, key=f) leaves: the pairs at as, the list at L -/
structure SortLeft (es : Array DictEntry) (ks : List Int) (h h' : Heap) (as : List Addr) (L : Addr) : Prop where
  keep : ∀ b o, h.get? b = some o → h'.get? b = some o
  big : h.objs.size ≤ L
  bigs : ∀ t ∈ as, h.objs.size ≤ t
  off : L ∉ as
  nd : as.Nodup
  len : as.length = es.size
  pairs : ∀ (j : Nat) (a : Addr), as[j]? = some a → ∃ e, es[j]? = some e ∧ h'.get? a = some { cls := .type "tuple", data := .seq #[e.key, e.val] }
  list : ∃ c, h'.get? L = some { cls := .type "list", data := .seq (((as.zip ks).mergeSort fun a b => decide (a.2 ≤ b.2)).map fun b => Value.ref b.1).toArray c }
theorem sortIt {r d : Addr} {f : Value} {es : Array DictEntry} {ep : Nat} {ks : List Int} {Q E : Value → Shared → Prop} (hh : A.handled = none) (hv : s.heap.IsItemsView r d) (hm : DT.Raw s.heap d es ep) (hn : es.size ≤ sizeLine) (hl : ks.length = es.size)
    (hkey : ∀ (j : Nat) (e : DictEntry), es[j]? = some e → ∃ i t, ks[j]? = some i ∧ e.key = .int i t) (hu : A.units + 5 < cLine) (ha1 : argsOk "sorted" ⟨[.ref r], [(Str.ofString "key", f)]⟩) (ha2 : ∀ x, argsOk "list.sort" ⟨[.ref x], [(Str.ofString "key", f)]⟩) (ht : ∀ x, Builtin.«list.sort» ⟨[.ref x], [(Str.ofString "key", f)]⟩ = ksk_tree x f false)
    (turn : ∀ (h : Heap) (tk : Nat) (t : Addr) (i : Int) (u : Tok) (y : Value), (∀ b o, s.heap.get? b = some o → h.get? b = some o) → IsTup h t #[.int i u, y] →
      wpAny (model Pg wd) A.in1.in1 (call f [.ref t]) (PySem.W.KeyPure (.int i) { s with heap := h, toks := tk }) (fun _ _ => False) { s with heap := h, toks := tk })
    (k : ∀ h' tk as L, SortLeft es ks s.heap h' as L → Q (.ref L) { s with heap := h', toks := tk }) :
    wpAny (model Pg wd) A (call (.builtin "sorted") [.ref r] [(Str.ofString "key", f)]) Q E s := by
  refine call_function_entry_kw kind_sorted plain_sorted entry_sorted ha1 ?_
  unfold Builtin.«sorted»
  refine wpAny_bind (m := checkCount "sorted" 1 1 _) (wpAny_pure ?_)
  refine wpAny_bind (DT.collectI (A := A.in1) hh hv hm hn fun h' tk as hk hlt hla hG => ?_)
  refine wpAny_bind (wpAny_newList ?_ (by rw [List.length_map, hla]; exact hn))
  have hzl : as.length = ks.length := by omega
  have at1 : ∀ (j : Nat) (a : Addr), as[j]? = some a → ∃ i u y, ks[j]? = some i ∧ h'.get? a = some { cls := .type "tuple", data := .seq #[.int i u, y] } := fun j a e => by
    obtain ⟨en, e1, e2⟩ := hG.pairs j a e
    obtain ⟨i, t, e3, e4⟩ := hkey j en e1
    exact ⟨i, t, en.val, e3, by rw [e2, e4]⟩
  have eR : EachIs (fun v (b : Addr × Int) => v = .ref b.1 ∧ ∃ u y, h'.get? b.1 = some { cls := .type "tuple", data := .seq #[.int b.2 u, y] }) (as.map Value.ref) (as.zip ks) := each_zip hzl fun j a i e1 e2 => by
    obtain ⟨i', u, y, e3, e4⟩ := at1 j a e1
    rw [e2] at e3; cases e3
    exact ⟨rfl, u, y, e4⟩
  have hob : (h'.push { cls := .type "list", data := .seq (as.map Value.ref).toArray }).get? h'.objs.size = some (seqObj "list" (as.map Value.ref).toArray 0) := Heap.get?_push_size _ rfl
  have up1 : ∀ {g : Heap}, PySem.W.KeepsBut h'.objs.size (h'.push { cls := .type "list", data := .seq (as.map Value.ref).toArray }) g → ∀ b o, h'.get? b = some o → g.get? b = some o := fun {g} kp b o q => kp b o (Nat.ne_of_lt (Heap.lt_size q)) (Heap.get?_push_of_some _ q)
  refine wpAny_bind (wpAny_holding (wpAny_mono (PySem.W.list_sort_key_data (b := false) (β := Addr × Int) (fun b => .int b.2) hob eR (AllAlike.of fun _ _ => by simp [PySem.W.alike]) (Sortable.others fun _ => ⟨by simp, by simp⟩) (by rw [List.length_zip]; omega) (fun x _ => by show A.units + 1 + 1 + PyData.depth (.int x.2) < cLine; unfold PyData.depth; omega) (ha2 _) (ht _) ?_ ?_ (Q := fun v s' => Q (.ref h'.objs.size) s')) (fun _ s' x => wpAny_pure ⟨_, rfl, x⟩) fun _ _ e => e))
  · rintro v x ⟨rfl, u, y, ex⟩ hx h2 tk2 kp
    exact turn h2 tk2 x.1 x.2 u y (fun b o e => up1 kp b o (hk b o e)) ⟨_, up1 kp _ _ ex, rfl, 0, rfl⟩
  · intro out c h2 tk2 kp hL hlen eo
    have eq := each_refs (fun v b h => h.1) eo
    refine k h2 tk2 as h'.objs.size ⟨fun b o e => up1 kp b o (hk b o e), Nat.le_of_lt hlt, fun t ht => Nat.le_of_lt (hG.above t ht), fun z => Nat.lt_irrefl _ (hG.there z), List.Pairwise.imp (fun h => Nat.ne_of_lt h) hG.rise, hla, fun j a e => ?_, c, ?_⟩
    · obtain ⟨en, e1, e2⟩ := hG.pairs j a e
      exact ⟨en, e1, up1 kp _ _ e2⟩
    · rw [hL, eq, dataLe_int (fun b : Addr × Int => b.2)]
end
/-! ### the lambda is made -/
/-- all but the table stays -/
def KeepP (Pt : Addr) (H H' : Hp) : Prop := ∀ b o, b ≠ Pt → H b = some o → H' b = some o
section
variable {X : Cx} {pins : List (Addr × Obj)} {σ : L2.St} {H : Hp} {s : Shared}
theorem lam_made {ct Pt : Addr} {q : Str} {prm : Arguments} {bd : Expr} {sc : Scope} {ps0 : Pos} {E Q : Value → Shared → Prop} (I : Inv X pins σ H s) (TB : LamX.TabB X.base X.mg ct Pt) (hcode : X.env.code = .ref ct) (hq : X.env.qual ++ "<lambda>" = q)
    (hT : LamX.TabS H Pt q) (hdef : defaultsOf prm X.env = ([], [])) (hfree : ∀ y ∈ sc.names, y.2 = .free → ∃ c, X.env.cells.lookup y.1 = some c)
    (k : ∀ (f c' : Addr) (pm ctv : Value) (H1 : Hp) (s' : Shared), Inv X pins σ H1 s' → KeepP Pt H H1 → (∀ b, H b = none → ∀ ps, H1 b ≠ some (.tbl ps)) → LamX.TabS H1 Pt q → s'.heap.get? f = some (PySem.W.kla_obj "<lambda>" q prm bd sc (cloFrom X.env.cells sc.names []) pm c' ctv) →
      s'.heap.CodeRec (.ref c') q → Q (.ref f) s') :
    wpAny (model X.prog X.w) X.A (eval (.Lambda prm bd sc ps0) X.env) Q E s := by
  subst hq
  obtain ⟨tb, hP, h3, hamong⟩ := hT
  refine PySem.W.kla_eval hdef ?_
  have hbs : s.heap.BuiltinsAt X.mg Pt := TB.bm.keeps I.bk
  have hPs : s.heap.get? Pt = some { cls := .none, data := .fields tb } := I.hok Pt _ hP
  cases hcd : codeAmong ps0 tb.toList with
  | none =>
    refine PySem.W.kla_makeFunction (mg := X.mg) (c := ct) (P := Pt) (ps := tb) (closure_ok hfree) I.ok.glob (I.mod.glob.keeps I.bk) hcode (TB.code.keeps I.bk) hPs h3 hcd TB.gP hbs fun c' ctv h' tk hext hge hlt hrec htab => ?_
    have hrec0 := hrec
    obtain ⟨c2, oc, fs, tq, e2, hoc, hdat, hnm⟩ := hrec
    cases e2
    have hle : s.heap.objs.size ≤ h'.objs.size := Nat.le_trans hge (Nat.le_of_lt hlt)
    have fresh : H c' = none := I.hok.fresh hge
    have J := LamX.inv_table (t' := tk) (more := #[rawInt ps0.line, rawInt ps0.col, .ref c']) (h' := h'.push (PySem.W.kla_obj "<lambda>" (X.env.qual ++ "<lambda>") prm bd sc (cloFrom X.env.cells sc.names []) ((X.mg "__name__").getD .none) c' ctv)) I hP
      (fun b o nb e => Heap.get?_push_of_some _ (hext b o nb e)) (Heap.get?_push_of_some _ htab) hge ⟨oc, fs, tq, Heap.get?_push_of_some _ hoc, hdat, hnm⟩
    have keep : KeepP Pt H (upd (upd H Pt (.tbl (tb ++ #[rawInt ps0.line, rawInt ps0.col, .ref c']))) c' (LamX.CodeO c' (X.env.qual ++ "<lambda>"))) := fun b o nb e => by
      rw [upd_ne (ne_of_none e fresh), upd_ne nb]; exact e
    have flat : (tb ++ #[rawInt ps0.line, rawInt ps0.col, .ref c']).toList = tb.toList ++ [rawInt ps0.line, rawInt ps0.col, .ref c'] := by simp
    refine k h'.objs.size c' ((X.mg "__name__").getD .none) ctv _ _ J keep (fun b nb ps2 e => ?_) ⟨_, by rw [upd_ne (ne_of_none hP fresh), upd_same], by rw [flat]; exact PySem.TriplesOk_snoc _ _ _ _ h3, fun p2 cv hcv => ?_⟩ (Heap.get?_push_size _ rfl) ⟨c', oc, fs, tq, rfl, Heap.get?_push_of_some _ hoc, hdat, hnm⟩
    · by_cases z : b = c'
      · subst z
        rw [upd_same] at e
        exact LamX.codeO_ne ps2 (Option.some.inj e)
      · rw [upd_ne z, upd_ne (fun w => by rw [w, hP] at nb; cases nb), nb] at e
        cases e
    · rw [flat] at hcv
      rcases LamX.among_app _ h3 hcv with z | z
      · obtain ⟨c0, e1, e2⟩ := hamong p2 cv z
        exact ⟨c0, e1, keep _ _ (fun w => LamX.codeO_ne tb (Option.some.inj (by rw [w, hP] at e2; exact e2.symm))) e2⟩
      · exact ⟨c', z, upd_same⟩
  | some cv =>
    obtain ⟨c', e, hco⟩ := hamong ps0 cv hcd
    subst e
    refine PySem.W.kla_makeFunctionHit (mg := X.mg) (c := ct) (P := Pt) (ps := tb) (closure_ok hfree) I.ok.glob (I.mod.glob.keeps I.bk) hcode (TB.code.keeps I.bk) hPs h3 hcd hbs fun ctv h' tk hext hle => ?_
    have J : Inv X pins σ H { s with heap := h'.push (PySem.W.kla_obj "<lambda>" (X.env.qual ++ "<lambda>") prm bd sc (cloFrom X.env.cells sc.names []) ((X.mg "__name__").getD .none) c' ctv), toks := tk } := I.kept fun b o e => Heap.get?_push_of_some _ (hext b o e)
    obtain ⟨⟨oc, fs, tq, hoc, hdat, hnm⟩, _, _⟩ := J.hok c' _ hco
    exact k h'.objs.size c' ((X.mg "__name__").getD .none) ctv H _ J (fun _ _ _ e => e) (fun b nb ps2 e => by rw [nb] at e; cases e) ⟨tb, hP, h3, hamong⟩ (Heap.get?_push_size _ rfl) ⟨c', oc, fs, tq, rfl, hoc, hdat, hnm⟩
end
abbrev intK (kis : List (Int × V)) : List (Key × V) := kis.map fun p => (Sum.inl p.1, p.2)
theorem ms_zip (as : List Addr) (kis : List (Int × V)) : (((as.zip kis).mergeSort fun a b => decide (a.2.1 ≤ b.2.1)).map fun z => (z.1, z.2.1)) = (as.zip (kis.map (·.1))).mergeSort fun a b => decide (a.2 ≤ b.2) := by
  have h := List.map_mergeSort (f := fun z : Addr × Int × V => (z.1, z.2.1)) (r := fun a b => decide (a.2.1 ≤ b.2.1)) (s := fun a b => decide (a.2 ≤ b.2)) (l := as.zip kis) fun _ _ _ _ => rfl
  rw [h, List.zip_map_right]
  rfl
theorem paired_int {G : Hp} : ∀ {kis : List (Int × V)} {as : List Addr}, Paired (fun t (p : Key × V) => G t = some (HO.tup [kV p.1, p.2])) as (intK kis) → Paired (fun (t : Addr) (q : Int × V) => G t = some (HO.tup [.int q.1, q.2])) as kis
  | [], _, h => by cases h; exact .nil
  | _ :: _, _, h => by cases h with | cons a t => exact .cons a (paired_int t)
section
variable {X : Cx} {pins : List (Addr × Obj)} {σ : L2.St} {H : Hp} {s : Shared}
/-- the pairs and the list are tracked -/
theorem sort_laid {h' : Heap} {tk : Nat} {kis : List (Int × V)} {vs : List (Key × Value)} {es : Array DictEntry} {as : List Addr} {L : Addr} (I : Inv X pins σ H s) (hz : kis.length ≤ sizeLine) (kv : KV (intK kis) vs) (pk : Pairs (mixKind X.prog X.w) es.toList vs)
    (S : SortLeft es (kis.map (·.1)) s.heap h' as L) : ∃ H' : Hp, (∀ b o, H b = some o → H' b = some o) ∧ (∀ b, H b = none → ∀ ps, H' b ≠ some (.tbl ps)) ∧ H L = none ∧ (∀ t ∈ as, H t = none) ∧ as.length = kis.length ∧
      H' L = some (.lst (((as.zip kis).mergeSort fun a b => decide (a.2.1 ≤ b.2.1)).map fun z => V.ref z.1)) ∧ Paired (fun (t : Addr) (q : Int × V) => H' t = some (.tup [.int q.1, q.2])) as kis ∧ Inv X pins σ H' { s with heap := h', toks := tk } := by
  have l1 : kis.length = vs.length := by have := Paired.length kv; rwa [List.length_map] at this
  have l2 : es.size = vs.length := by have := pk.length; rwa [Array.length_toList] at this
  have lk : as.length = (intK kis).length := by rw [List.length_map, S.len, l2, l1]
  have lk2 : as.length = kis.length := by rw [lk, List.length_map]
  have new : ∀ t ∈ as, H t = none := fun t ht => I.hok.fresh (S.bigs t ht)
  have newL : H L = none := I.hok.fresh S.big
  generalize eU : HO.lst (((as.zip kis).mergeSort fun a b => decide (a.2.1 ≤ b.2.1)).map fun z => V.ref z.1) = oL
  have atP := LiI.putT_at as (intK kis) (upd H L oL) lk S.nd
  have off : ∀ b, b ∉ as → b ≠ L → LiI.putT (upd H L oL) as (intK kis) b = H b := fun b h1 h2 => by rw [LiI.putT_off as _ _ h1, upd_ne h2]
  have low : ∀ b o, s.heap.get? b = some o → b ∉ as ∧ b ≠ L := fun b o e => ⟨fun z => absurd (Heap.lt_size e) (Nat.not_lt.mpr (S.bigs b z)), fun z => absurd (Heap.lt_size e) (Nat.not_lt.mpr (z ▸ S.big))⟩
  have kp : ∀ b u, H b = some u → LiI.putT (upd H L oL) as (intK kis) b = some u := fun b u e => by
    rw [off b (fun z => by rw [new b z] at e; cases e) (fun z => by rw [z, newL] at e; cases e)]
    exact e
  have eL : LiI.putT (upd H L oL) as (intK kis) L = some oL := by rw [LiI.putT_off as _ _ S.off, upd_same]
  have atP' := paired_int atP
  refine ⟨LiI.putT (upd H L oL) as (intK kis), kp, fun b nb ps e => ?_, newL, new, lk2, eL, atP', ?_⟩
  · by_cases hb : b ∈ as
    · obtain ⟨j, pq, e1, e2, e3⟩ := LiI.paired_ix atP hb
      rw [e3] at e; cases e
    · by_cases hb2 : b = L
      · rw [hb2, eL, ← eU] at e; cases e
      · rw [off b hb hb2, nb] at e; cases e
  refine I.call' (ch := []) rfl ⟨fun b o q _ _ _ => S.keep b o q, fun b o q _ _ _ => ⟨o.slots, S.keep b o q⟩, fun b o q n _ => ?_, fun b o q _ => ⟨o, S.keep b o q⟩, fun b xs q => kp b _ q, fun b o u q => kp b _ q, fun b ps q => ⟨#[], by rw [kp b _ q]; simp⟩⟩ (fun b u q => ?_) I.bare fun b z => by simp at z
  · obtain ⟨z1, z2⟩ := low b o q
    rw [off b z1 z2]
    exact n
  · by_cases hb : b ∈ as
    · obtain ⟨j, pq, e1, e2, e3⟩ := LiI.paired_ix atP hb
      rw [e3] at q
      cases q
      obtain ⟨en, f1, f2⟩ := S.pairs j b e1
      obtain ⟨qv, g1, g2, g3⟩ := LiI.paired_get kv e2
      obtain ⟨h1, h2⟩ := pk.get? (i := j) (by rw [Array.getElem?_toList]; exact f1) g1
      have rk : RelV (kV pq.1) en.key := by
        rw [g2]
        exact relV_key (show keyIs _ en.key = true from h1)
      exact ⟨by show 2 ≤ sizeLine; decide, [en.key, en.val], .cons rk (.cons (by rw [h2]; exact g3) .nil), ⟨_, f2, rfl, _, rfl⟩⟩
    · by_cases hb2 : b = L
      · rw [hb2] at q ⊢
        rw [eL, ← eU] at q
        cases q
        obtain ⟨c, hc⟩ := S.list
        refine ⟨by rw [List.length_map, List.length_mergeSort, List.length_zip]; omega, _, c, ?_, hc⟩
        rw [← ms_zip, List.map_map]
        have : ∀ zs : List (Addr × Int × V), Vals (zs.map fun z => V.ref z.1) (zs.map ((fun b => Value.ref b.1) ∘ fun z => (z.1, z.2.1))) := fun zs => by
          induction zs with
          | nil => exact .nil
          | cons z zs ih => exact .cons rfl ih
        exact this _
      · rw [off b hb hb2] at q
        exact (I.hok b u q).stay (fun d v _ y => S.keep d v y) (fun d y => kp d _ y) fun d xs y => kp d _ y
end
/-- the lambda row: row[0] at a place of the def -/
structure Row0 (X : Cx) (ct Pt : Addr) (q : Str) (prm : Arguments) (sc : Scope) (bd : Expr) : Prop where
  tb : LamX.TabB X.base X.mg ct Pt
  code : X.env.code = .ref ct
  qual : X.env.qual ++ "<lambda>" = q
  dft : defaultsOf prm X.env = ([], [])
  nofree : ∀ y ∈ sc.names, y.2 ≠ .free
  nocell : ∀ y ∈ sc.names, y.2 ≠ .cell
  kind : sc.kind = .function
  co : sc.isCoroutine = false
  gen : sc.isGenerator = false
  loc : sc.names.lookup (Str.ofString "row") = some NameKind.local
  shape : ∃ p1 kk p2 pos, bd = .Subscript (.Name "row" p1) (.Constant (.int 0) kk p2) pos
  bind : ∀ (c' t : Addr) (pm ctv : Value) (cl : List (Str × Addr)), bindArgs (PySem.W.kla_fn "<lambda>" q prm bd sc cl pm (.ref c') ctv) ⟨[Value.ref t], []⟩ = pure [(Str.ofString "row", Value.ref t)]
theorem clo_nil {cells : List (Str × Addr)} : ∀ {ns : List (Str × NameKind)}, (∀ y ∈ ns, y.2 ≠ .free) → cloFrom cells ns [] = []
  | [], _ => rfl
  | (x, k) :: ns, h => by
    have h1 := h (x, k) (List.mem_cons_self ..)
    have h2 := clo_nil (cells := cells) (ns := ns) fun y hy => h y (List.mem_cons_of_mem _ hy)
    rw [cloFrom, if_neg (by simpa using h1)]
    exact h2
/-- sorted(e.items(), key=lambda row: row[0]) -/
def tSKL (Pt : Addr) (q : Str) (te : TE) : TE := fun σ H Q => te σ H fun x H1 => ∃ (d : Addr) (kis : List (Int × V)), x = .ref d ∧ Rd H1 d (.dK (intK kis)) ∧ LamX.TabS H1 Pt q ∧
  ∀ (H' : Hp) (L : Addr) (as : List Addr), KeepP Pt H1 H' → (∀ b, H1 b = none → ∀ ps, H' b ≠ some (.tbl ps)) → LamX.TabS H' Pt q → H1 L = none → (∀ t ∈ as, H1 t = none) → as.length = kis.length →
    H' L = some (.lst (((as.zip kis).mergeSort fun a b => decide (a.2.1 ≤ b.2.1)).map fun z => V.ref z.1)) → Paired (fun (t : Addr) (p : Int × V) => H' t = some (.tup [.int p.1, p.2])) as kis → Q (.ref L) H'
section
variable {X : Cx} {e : Expr} {te : TE} {p apos cpos pos lpos kpos : Pos}
theorem pe_sortedKL {ct Pt : Addr} {q : Str} {prm : Arguments} {sc : Scope} {bd : Expr} {k : Nat} (R0 : Row0 X ct Pt q prm sc bd) (hr : Room (k + 1) X.A) (hc : X.calm = true) (he : PE X e te) (hg : Gl X "sorted") (hm : X.mg "sorted" = none) (hbase : attributeBase e "items" X.env (eval e X.env) = eval e X.env := by rfl) (hline : (apos.endLine == cpos.line) = true := by rfl)
    (hs : backTo pos (starEach [.Call (.Attribute e "items" apos) [] [] cpos] X.env) = (false, eval (.Call (.Attribute e "items" apos) [] [] cpos) X.env) :: backTo pos (starEach [] X.env) := by rfl) (hpl : (backTo pos (starEach [.Call (.Attribute e "items" apos) [] [] cpos] X.env)).any (·.1) = false := by rfl)
    (hall : (backToKw pos (keywordEach [⟨some "key", .Lambda prm bd sc lpos, kpos⟩] X.env)).all (·.1.isSome) = true := by rfl) (hnone : (backToKw pos (keywordEach [⟨some "key", .Lambda prm bd sc lpos, kpos⟩] X.env)).any (·.1.isNone) = false := by rfl)
    (hks : (backToKw pos (keywordEach [⟨some "key", .Lambda prm bd sc lpos, kpos⟩] X.env)).filterMap (·.1) = [Str.ofString "key"] := by rfl) :
    PE X (.Call (.Name "sorted" p) [.Call (.Attribute e "items" apos) [] [] cpos] [⟨some "key", .Lambda prm bd sc lpos, kpos⟩] pos) (tSKL Pt q te) := by
  refine ⟨fun pins s σ H Q I hq => ?_⟩
  refine wpAny_Call_Name_kw (ld_blt I hg hm PyProof.Rows.boot_sorted ?_ (by decide) (by decide))
  refine PyProof.Rows.callWith_kw ?_ hs hpl hall hnone
  rw [hks, hs]
  refine Calls.spliced_cons ?_
  refine wpAny_Call_method (T := "dict") (id := "dict.items") hbase rfl hline F.plainAttrs_dict F.slot_dict_items F.type_dict_items (thn (he.run pins s σ H _ I hq) fun u s1 ⟨x, H1, I1, rx, d, kis, ex, hd, hT, fin⟩ => ?_)
  subst ex
  obtain rfl : u = Value.ref d := rx
  obtain ⟨hz, hs0, vs, kv, hdo⟩ := hd.ok I1.hok
  rw [List.length_map] at hz
  have I2 : L2.Inv X pins σ (upd H1 s1.heap.objs.size (L2.DX.itemsO s1.heap.objs.size d)) { s1 with heap := s1.heap.push { cls := .type "dict_items", data := .fields #[.ref d] } } :=
    I1.laid (t' := s1.toks) (fun b o e => Heap.get?_push_of_some _ e) (Nat.le_refl _) (L2.DX.itemsO_ok (Heap.get?_push_size _ rfl))
  have n1 : H1 s1.heap.objs.size = none := I1.hok.fresh (Nat.le_refl _)
  refine ⟨hdo.typeIs, hdo.mapOf.noDict, ?_⟩
  show wpAny _ _ (callWith cpos (.builtin "dict.items") [.ref d] [] []) _ X.xe s1
  refine method_meetsIn F.slot_dict_items F.entry_dict_items rfl (PySem.evalArgs_none ⟨rfl, hdo.typeIs, F.args_dict_items_1 _, _, meets_dict_items (mixKind X.prog X.w) d hs0, ⟨vs, hdo⟩, ?_⟩)
  refine Calls.spliced_nil ?_
  show wpAny _ _ (evalAll ((do let v ← eval (.Lambda prm bd sc lpos) X.env; standAt pos; pure v) :: (backToKw pos (keywordEach [] X.env)).map (·.2))) _ _ _
  have hT2 : LamX.TabS (upd H1 s1.heap.objs.size (L2.DX.itemsO s1.heap.objs.size d)) Pt q := LamX.TabS.ext hT fun b o e => by rw [upd_ne (ne_of_none e n1)]; exact e
  refine wpAny_evalAll_cons (wpAny_bind (lam_made I2 R0.tb R0.code R0.qual hT2 R0.dft (fun y hy e => absurd e (R0.nofree y hy)) fun f c' pm ctv H2 s2 I3 kp3 nt3 T3 hf hcd => wpAny_bind (wpAny_standAt (wpAny_pure (wpAny_evalAll_nil ?_)))))
  have hPn : ∀ b o, H1 b = some o → b ≠ Pt → H2 b = some o := fun b o e nb => kp3 b o nb (by rw [upd_ne (ne_of_none e n1)]; exact e)
  obtain ⟨ps0, hP0, _⟩ := hT
  have dP : d ≠ Pt := fun z => by
    rcases hd with hd | ⟨o, hd⟩ <;> rw [z, hP0] at hd <;> cases hd
  have vP : s1.heap.objs.size ≠ Pt := fun z => by rw [← z, n1] at hP0; cases hP0
  have hd2 : Rd H2 d (.dK (intK kis)) := hd.imp (fun e => hPn d _ e dP) fun ⟨o, e⟩ => ⟨o, hPn d _ e dP⟩
  have hv2 : H2 s1.heap.objs.size = some (L2.DX.itemsO s1.heap.objs.size d) := kp3 _ _ vP upd_same
  obtain ⟨_, _, vs2, kv2, o, es, ep, ho, hex, hdat, _, hpk, _⟩ := hd2.ok I3.hok
  have view : s2.heap.IsItemsView s1.heap.objs.size d := (show ObjOk X.prog X.w H2 s2.heap _ (L2.DX.itemsO s1.heap.objs.size d) from I3.hok _ _ hv2).1
  have l1 : kis.length = vs2.length := by have := Paired.length kv2; rwa [List.length_map] at this
  have l2 : es.size = vs2.length := by have := hpk.length; rwa [Array.length_toList] at this
  have hcl : cloFrom X.env.cells sc.names [] = [] := clo_nil R0.nofree
  rw [hcl] at hf
  obtain ⟨p1, kk, p2, p3, rfl⟩ := R0.shape
  show wpAny _ _ (call (.builtin "sorted") [.ref s1.heap.objs.size] [(Str.ofString "key", .ref f)]) _ _ _
  have hun := hr.un
  have hdp := hr.dp
  refine sortIt (ks := kis.map (·.1)) (I3.ok.hd hc) view ⟨o, ho, hex, hdat⟩ (by rw [l2, ← l1]; exact hz) (by rw [List.length_map, l1, l2]) (fun j en he => ?_) (by omega) (ksk_s1 _ _) (fun _ => ksk_l1 _ _) (fun _ => ksk_t1 _ _) (fun h tk t i u y kp ht => ?_) fun h' tk as L S => ?_
  · cases hq : kis[j]? with
    | none =>
      have h1 := List.getElem?_eq_none_iff.mp hq
      have h2 := (Array.getElem?_eq_some_iff.mp he).1
      omega
    | some pv =>
      obtain ⟨qv, g1, g2, g3⟩ := LiI.paired_get kv2 (i := j) (x := (Sum.inl pv.1, pv.2)) (by rw [List.getElem?_map, hq]; rfl)
      obtain ⟨h1, _⟩ := hpk.get? (i := j) (by rw [Array.getElem?_toList]; exact he) g1
      rw [← g2] at h1
      obtain ⟨t, ht⟩ := relV_key (show keyIs (Sum.inl pv.1) en.key = true from h1)
      exact ⟨pv.1, t, by rw [List.getElem?_map, hq]; rfl, ht⟩
  · exact row0_call (s := { s2 with heap := h, toks := tk }) (kp _ _ hf) (hcd.keeps kp) (I3.nolimit.keeps kp) R0.kind R0.co R0.gen R0.loc R0.nocell (R0.bind c' t pm ctv []) (by show X.A.depth < _; omega) ht
  · obtain ⟨H', k1, k2, k3, k4, k5, k6, k7, J⟩ := sort_laid (tk := tk) I3 hz kv2 hpk S
    have back : ∀ b, H2 b = none → H1 b = none := fun b e => by
      cases h1 : H1 b with
      | none => rfl
      | some o1 =>
        by_cases z : b = Pt
        · rw [z] at e; obtain ⟨_, z2, _⟩ := T3; rw [z2] at e; cases e
        · rw [hPn b o1 h1 z] at e; cases e
    exact ⟨.ref L, H', J, rfl, fin H' L as (fun b o nb e => k1 b o (hPn b o e nb)) (fun b nb ps e => by
        cases h2 : H2 b with
        | none => exact k2 b h2 ps e
        | some o2 =>
          rw [k1 b o2 h2] at e; cases e
          by_cases z : b = s1.heap.objs.size
          · rw [z, hv2] at h2; cases h2
          · exact nt3 b (by rw [upd_ne z]; exact nb) ps h2) (T3.ext k1) (back L k3) (fun t ht => back t (k4 t ht)) k5 k6 k7⟩
end
/-! ### on data -/
/-- a world that holds a table of code objects -/
structure TabW (W : Wd) (Pt : Addr) (q : Str) : Prop where
  b : W.B Pt
  tab : ∀ {n H}, W.J n H → LamX.TabS H Pt q
  step : ∀ {n H H'}, W.J n H → KeepP Pt H H' → LamX.TabS H' Pt q → W.J n H'
section
variable {K : PySem.W.Frag} {R R' : Hp}
theorem int_rp : ∀ {rs : List (Int × D)} {kvs : List (Key × V)}, RpK K R kvs (rs.map fun r => (Sum.inl r.1, r.2)) → ∃ kis, kvs = intK kis ∧ Paired (fun (p : Int × V) (r : Int × D) => p.1 = r.1 ∧ Rp K R p.2 r.2) kis rs
  | [], _, h => by cases h; exact ⟨[], rfl, .nil⟩
  | r :: rs, _, h => by
    cases h with
    | cons a t =>
      obtain ⟨kis, rfl, z⟩ := int_rp t
      exact ⟨(r.1, _) :: kis, rfl, .cons ⟨rfl, a⟩ z⟩
theorem rpL_all {α : Type} {f : α → V} {g : α → D} : ∀ {T : List α}, (∀ t ∈ T, Rp K R (f t) (g t)) → RpL K R (T.map f) (T.map g)
  | [], _ => .nil
  | t :: T, h => .cons (h t (List.mem_cons_self ..)) (rpL_all fun t ht => h t (List.mem_cons_of_mem _ ht))
theorem trip {G : Hp} : ∀ {as : List Addr} {kis : List (Int × V)} {rs : List (Int × D)}, Paired (fun (t : Addr) (p : Int × V) => G t = some (.tup [.int p.1, p.2])) as kis → Paired (fun (p : Int × V) (r : Int × D) => p.1 = r.1 ∧ Rp K R p.2 r.2) kis rs →
    ∃ T : List (Addr × (Int × V) × (Int × D)), T.map (fun t => (t.1, t.2.1)) = as.zip kis ∧ T.map (fun t => t.2.2) = rs ∧ ∀ t ∈ T, t.1 ∈ as ∧ G t.1 = some (.tup [.int t.2.1.1, t.2.1.2]) ∧ t.2.1.1 = t.2.2.1 ∧ Rp K R t.2.1.2 t.2.2.2
  | _, _, _, .nil, .nil => ⟨[], rfl, rfl, fun t h => nomatch h⟩
  | _, _, _, .cons (a := a) (b := p) h1 t1, .cons (b := r) h2 t2 => by
    obtain ⟨T, e1, e2, e3⟩ := trip t1 t2
    refine ⟨(a, p, r) :: T, by rw [List.map_cons, e1]; rfl, by rw [List.map_cons, e2], fun t ht => ?_⟩
    rcases List.mem_cons.mp ht with rfl | ht
    · exact ⟨List.mem_cons_self .., h1, h2.1, h2.2⟩
    · obtain ⟨a1, a2⟩ := e3 t ht
      exact ⟨List.mem_cons_of_mem _ a1, a2⟩
/-- rows sorted by their keys -/
def sortR (rs : List (Int × D)) : List (Int × D) := rs.mergeSort fun a b => decide (a.1 ≤ b.1)
theorem sorted_rp {G : Hp} {as : List Addr} {kis : List (Int × V)} {rs : List (Int × D)} (h1 : Paired (fun (t : Addr) (p : Int × V) => G t = some (.tup [.int p.1, p.2])) as kis) (h2 : Paired (fun (p : Int × V) (r : Int × D) => p.1 = r.1 ∧ Rp K R p.2 r.2) kis rs) (hR : Same R R') (hG : ∀ t ∈ as, R' t = G t) :
    RpL K R' (((as.zip kis).mergeSort fun a b => decide (a.2.1 ≤ b.2.1)).map fun z => V.ref z.1) ((sortR rs).map fun r => .tup [.int r.1, r.2]) := by
  obtain ⟨T, e1, e2, e3⟩ := trip h1 h2
  have m1 := List.map_mergeSort (f := fun t : Addr × (Int × V) × (Int × D) => (t.1, t.2.1)) (r := fun a b => decide (a.2.1.1 ≤ b.2.1.1)) (s := fun a b => decide (a.2.1 ≤ b.2.1)) (l := T) fun _ _ _ _ => rfl
  have m2 := List.map_mergeSort (f := fun t : Addr × (Int × V) × (Int × D) => t.2.2) (r := fun a b => decide (a.2.1.1 ≤ b.2.1.1)) (s := fun a b => decide (a.1 ≤ b.1)) (l := T) fun a ha b hb => by rw [(e3 a ha).2.2.1, (e3 b hb).2.2.1]
  rw [e1] at m1
  rw [e2] at m2
  unfold sortR
  rw [← m1, ← m2, List.map_map, List.map_map]
  refine rpL_all fun t ht => ?_
  have ht' : t ∈ T := List.mem_mergeSort.mp ht
  obtain ⟨a1, a2, a3, a4⟩ := e3 t ht'
  show Rp K R' (.ref t.1) (.tup [.int t.2.2.1, t.2.2.2])
  exact .tup (.inl (.inl (by rw [hG _ a1, a2]))) (.cons (by rw [a3]; exact .int _) (.cons (a4.mono hR) .nil))
end
section
variable {W : Wd} {X : Cx} {Γ : List Sl} {c : Nat} {e : Expr} {p apos cpos pos lpos kpos : Pos}
theorem ev_sortedKL {ct Pt : Addr} {q : Str} {prm : Arguments} {sc : Scope} {bd : Expr} {k : Nat} {rs : List (Int × D)} (tw : TabW W Pt q) (R0 : Row0 X ct Pt q prm sc bd) (hr : Room (k + 1) X.A) (hc : X.calm = true) (hg : Gl X "sorted") (hm : Bn X "sorted") (he : Ev W X e Γ c (Is (.dct (rs.map fun r => (Sum.inl r.1, r.2))))) (hbase : attributeBase e "items" X.env (eval e X.env) = eval e X.env := by rfl) (hline : (apos.endLine == cpos.line) = true := by rfl)
    (hs : backTo pos (starEach [.Call (.Attribute e "items" apos) [] [] cpos] X.env) = (false, eval (.Call (.Attribute e "items" apos) [] [] cpos) X.env) :: backTo pos (starEach [] X.env) := by rfl) (hpl : (backTo pos (starEach [.Call (.Attribute e "items" apos) [] [] cpos] X.env)).any (·.1) = false := by rfl)
    (hall : (backToKw pos (keywordEach [⟨some "key", .Lambda prm bd sc lpos, kpos⟩] X.env)).all (·.1.isSome) = true := by rfl) (hnone : (backToKw pos (keywordEach [⟨some "key", .Lambda prm bd sc lpos, kpos⟩] X.env)).any (·.1.isNone) = false := by rfl)
    (hks : (backToKw pos (keywordEach [⟨some "key", .Lambda prm bd sc lpos, kpos⟩] X.env)).filterMap (·.1) = [Str.ofString "key"] := by rfl) :
    Ev W X (.Call (.Name "sorted" p) [.Call (.Attribute e "items" apos) [] [] cpos] [⟨some "key", .Lambda prm bd sc lpos, kpos⟩] pos) Γ c (Is (.lst ((sortR rs).map fun r => .tup [.int r.1, r.2]))) := fun R0' H0 Rl σ R n H s hn Q kq => by
  refine wE_of (pe_sortedKL R0 hr hc (wE_ok e) hg hm hbase hline hs hpl hall hnone hks) ?_
  refine he R0' H0 Rl σ R n H s hn _ fun v R1 H1 d g j f r => ?_
  rw [show d = _ from f] at r
  cases r with
  | @dct a kvs _ hrd0 hrp =>
    obtain ⟨o0, hrd0⟩ := hrd0
    have hrd : Rd R1 a (.dK kvs) := .inr ⟨o0, hrd0⟩
    obtain ⟨kis, rfl, hpr⟩ := int_rp hrp
    refine ⟨a, kis, rfl, rd_mono g.rh hrd, tw.tab j, fun H' L as kp _ hT nL nas hlen hL hp => ?_⟩
    have rb : R1 Pt = none := (s.grow g j).rb Pt tw.b
    have hbb : ∀ b o, H1 b = some o → ∃ o', H' b = some o' := fun b o e => by
      by_cases z : b = Pt
      · obtain ⟨ps, hP, _⟩ := hT
        exact ⟨_, by rw [z]; exact hP⟩
      · exact ⟨o, kp b o z e⟩
    have rr : Same R1 (fun b => if H1 b = none then H' b else R1 b) := fun b o e => by
      show (if H1 b = none then H' b else R1 b) = some o
      rw [if_neg (by rw [g.rh b o e]; exact fun z => nomatch z)]; exact e
    have G : Gr W R1 H1 (fun b => if H1 b = none then H' b else R1 b) H' := by
      refine ⟨fun b o nb e => kp b o (fun z => nb (z ▸ tw.b)) e, hbb, rr, fun b o e => ?_, fun b o e n1 => ?_⟩
      · have e' : (if H1 b = none then H' b else R1 b) = some o := e
        by_cases z : H1 b = none
        · rw [if_pos z] at e'; exact e'
        · rw [if_neg z] at e'
          exact kp b o (fun w => by rw [w, rb] at e'; cases e') (g.rh b o e')
      · show (if H1 b = none then H' b else R1 b) = none
        rw [if_neg (by rw [e]; exact fun z => nomatch z)]; exact n1
    refine kq _ _ H' _ (g.trans G) (tw.step j kp hT) rfl (.lst (SqL.of (by show (if H1 L = none then H' L else R1 L) = _; rw [if_pos nL]; exact hL)) (sorted_rp hp hpr rr fun t ht => by
      show (if H1 t = none then H' t else R1 t) = _
      rw [if_pos (nas t ht)]))
end
end Qq
/-! Qm: a def whose code object is known. -/
namespace Qq
open PySem PySem.Spec PyProof.Rows L2
section
variable {P : Program} {w : World} {K : PySem.W.Frag} {mg : Str → Option Value} {base : Heap}
theorem fn_okC {x : Str} {st : Stmt} {f ct : Addr} {fd : FuncData} {N ps : List Str} {k c : Nat} {S : Wd → List Sl → (D → Prop) → Prop} (F : FnP K x st f fd) (hct : fd.code = .ref ct) (sc : FnScope N ps (defScope st)) (hS : ∀ W as φ, S W as φ → as.length = ps.length) (hNl : ps.length ≤ N.length)
    (body : ∀ (A : Around) (outer : List Env) (s : Shared) (H : Hp) (E : XK) (W : Wd) (as : List Sl) (φ : D → Prop) (n : Nat), Room k (A.deeper (envOfC x (defScope st) s.heap.objs.size f (.ref ct))) → S W as φ → n + c ≤ LIM →
      Sms W (cxOf CX0 P w K mg base N x (defScope st) f (.ref ct) A outer s H E).nox (defBody st) (as ++ unsl (N.length - as.length)) n ⟨fun _ n' => φ .non ∧ n' ≤ n + c, fun d n' => φ d ∧ n' ≤ n + c, fun _ _ => False, fun _ _ => False, fun _ _ _ _ _ => False⟩) :
    FnOk P w K mg base CX0 (k + 1) f fd ps (spF K c S) := by
  obtain ⟨oc, od, dV, kV, doc, pm, an, cdv, ctv, osl, rfl, lk, hcd, _, _⟩ := F.ex
  obtain rfl : cdv = .ref ct := hct
  refine fn_of lk hcd sc (fun vs H Q E h => ?_) fun A outer s H vs Q E hr h => ?_
  · obtain ⟨W, R, n, as, φ, _, _, _, _, ra, hS', _⟩ := h
    rw [ra.len]; exact hS W as φ hS'
  · obtain ⟨W, R, n, as, φ, rh, rb, j, hn, ra, hS', k⟩ := h
    refine ⟨_, PSs.nox (wSs_ok _), ?_⟩
    refine body A outer s H E W as φ n hr hS' hn R H R R (L2.start N vs) H _ ⟨Gr.refl rh, Same.refl _, rb, j, argL_env ra (by rw [ra.len, hS W as φ hS']; exact hNl)⟩ ⟨?_, ?_, fun _ _ _ _ _ _ z => z.elim, fun _ _ _ _ _ _ z => z.elim, fun _ _ _ _ _ _ _ _ z => z.elim⟩
    · rintro Γ' n' R' σ' H' s' ⟨f, hle⟩
      exact k .non R' H' .non s'.gr (W.mono s'.j hle) f .non
    · rintro d n' R' v H' g lo j' rb' r ⟨f, hle⟩
      exact k v R' H' d g (W.mono j' hle) f r
end
end Qq
/-! Qn: d[k] = v of an own dict; promises over typed data. -/
namespace Qq
open PySem PySem.Spec PyProof.Rows L2
section
variable {W : Wd} {X : Cx} {Γ : List Sl} {n c c1 c2 : Nat} {φ ψ : D → Prop} {e ie : Expr} {es : List Expr} {pos p npos ipos : Pos} {d : D} {sts rest : List Stmt} {P : Pst}
theorem sm_dset {i : Nat} {x : Str} {kds : List (Key × D)} {k : Key} (hu : X.A.units + 1 < cLine) (hN : X.N[i]? = some x) (hv : Vis X.env.scope x) (hΓ : Γ[i]? = some (.md kds)) (he : Ev W X e Γ c1 (Is d)) (hk : Ev W X ie Γ c2 (Is (kD k))) (hlen : kds.length < 5000) (hl : n + (c1 + c2) ≤ LIM) (kt : P.nx (Γ.set i (.md (putD kds k d))) (n + (c1 + c2)))
    (hs : swapsWith e (some (.Subscript (.Name x npos) ie ipos)) pos.line X.env = pure false := by rfl) (hd : (x == ("__debug__" : Str)) = false := by decide) (hcd : (x == ("__classdict__" : Str)) = false := by decide) :
    Sm W X (.Assign [.Subscript (.Name x npos) ie ipos] e pos) Γ n P := fun R0 H0 Rl R σ H E s en => by
  refine wS_of (ps_dput hu (pe_var hN hv hd hcd) (wE_ok ie) (wE_ok e) hs) ?_
  refine he R0 H0 Rl σ R n H s (by omega) _ fun v R1 H1 d' g1 j1 f1 r1 => ?_
  rw [show d' = d from f1] at r1
  have hlt : i < σ.length := by rw [s.env.len]; exact (List.getElem?_eq_some_iff.mp hΓ).1
  obtain ⟨a, xs, e1, hR, h0, nB, hH, r⟩ := s.env.ok i _ σ[i] hΓ (List.getElem?_eq_getElem hlt)
  have hσ : σ[i]? = some (some (.ref a)) := by rw [List.getElem?_eq_getElem hlt, e1]
  refine ⟨_, hσ, ?_⟩
  have s1 := s.grow g1 j1
  refine hk R0 H0 Rl σ R1 _ H1 s1 (by omega) _ fun y R2 H2 dy g2 j2 f2 r2 => ?_
  rw [show dy = kD k from f2] at r2
  have ey := rp_kD r2
  subst ey
  have hR1 := g1.nw a _ hH hR
  have hH1 := g1.hh a _ nB hH
  have hR2 := g2.nw a _ hH1 hR1
  have hH2 := g2.hh a _ nB hH1
  have hxl : xs.length < sizeLine := Nat.lt_of_lt_of_le (by rw [r.len]; exact hlen : xs.length < 5000) (by decide)
  refine ⟨a, _, rfl, DPut.k hH2 hxl, ?_⟩
  have s2 := s1.grow g2 j2
  have z := s2.write (o := .dK (putK xs k v)) (sl' := .md (putD kds k d)) hΓ rfl rfl hσ hR2 h0 nB ⟨a, putK xs k v, rfl, hR2, h0, nB, upd_same, (r.mono (g1.rr.trans g2.rr)).put k (r1.mono g2.rr)⟩
  rw [Nat.add_assoc] at z
  exact en.nx _ _ R2 _ _ z kt
/-- a promise over typed data -/
def SP {α : Type} (pre : Wd → α → Prop) (enc : α → List D) (F : α → D) : Wd → List Sl → (D → Prop) → Prop := fun W as φ => ∃ x, as = (enc x).map .dat ∧ pre W x ∧ φ (F x)
theorem ev_cp {α : Type} {pre : Wd → α → Prop} {enc : α → List D} {F : α → D} {k : Nat} {x : Str} {ps : List Str} {ss : List Sl} (y : α) (C : Cal X.prog X.w X.K X.mg X.base k x ps 0 (SP pre enc F)) (hr : Room k X.A) (hg : Gl X x) (ha : EvS W X (e :: es) Γ c (Is ss)) (hss : ss = (enc y).map .dat) (h : pre W y) {r : D} (q : F y = r) (hdb : (x == ("__debug__" : Str)) = false := by decide)
    (he : starEach (e :: es) X.env = (false, eval e X.env) :: starEach es X.env := by rfl) (hpl : (backTo pos (starEach es X.env)).any (·.1) = false := by rfl) : Ev W X (.Call (.Name x p) (e :: es) [] pos) Γ (c + 0) (Is r) :=
  ev_call C hr hg ha (fun s' q' => ⟨y, by rw [show s' = ss from q', hss], h, q⟩) hdb he hpl
/-- one may say less of a slot -/
theorem ss_weak {i : Nat} {ds : List D} (hΓ : Γ[i]? = some (.dat (.rws ds))) (h : Sms W X sts (Γ.set i (.dat (.tup ds))) n P) : Sms W X sts Γ n P := fun R0 H0 Rl R σ H E s en => by
  have hlt : i < σ.length := by rw [s.env.len]; exact (List.getElem?_eq_some_iff.mp hΓ).1
  obtain ⟨v, e1, r⟩ := s.env.ok i _ σ[i] hΓ (List.getElem?_eq_getElem hlt)
  refine h R0 H0 Rl R σ H E ?_ en
  have z := s.set (i := i) r.weak
  rwa [show σ.set i (some v) = σ by rw [← e1]; exact List.set_getElem_self hlt] at z
end
end Qq
/-! Qp: numbers within bounds, the pot. -/
namespace Qq
open PySem PySem.Spec PyProof.Rows L2
/-- an integer from lo to hi -/
def Rg (lo hi : Int) (d : D) : Prop := ∃ v, d = .int v ∧ lo ≤ v ∧ v ≤ hi
/-- an integer from 0 on -/
def Nn (d : D) : Prop := ∃ v, d = .int v ∧ 0 ≤ v
theorem Rg.nn {lo hi : Int} {d : D} (h : Rg lo hi d) (q : decide (0 ≤ lo) = true) : Nn d := let ⟨v, e, a, _⟩ := h; ⟨v, e, Int.le_trans (of_decide_eq_true q) a⟩
/-- a world that holds a pot at a -/
structure PotW (W : Wd) (a : Addr) : Prop where
  b : W.B a
  get : ∀ {n H}, W.J n H → ∃ x y z : Int, H a = some (.lst [.int x, .int y, .int z]) ∧ 0 ≤ x ∧ 0 ≤ y ∧ y ≤ 2305843009213693951 ∧ 0 ≤ z ∧ z ≤ n
  put : ∀ {n m : Nat} {H : Hp} {x y z : Int}, W.J n H → 0 ≤ x → 0 ≤ y → y ≤ 2305843009213693951 → 0 ≤ z → z ≤ m → n ≤ m → W.J m (upd H a (.lst [.int x, .int y, .int z]))
theorem codeO_ext (c : Addr) (q : Str) : ∃ φ, LamX.CodeO c q = .ext φ := ⟨_, rfl⟩
def WP (a Pt : Addr) (q : Str) : Wd where
  B b := b = a ∨ b = Pt
  J n H := (∃ x y z : Int, H a = some (.lst [.int x, .int y, .int z]) ∧ 0 ≤ x ∧ 0 ≤ y ∧ y ≤ 2305843009213693951 ∧ 0 ≤ z ∧ z ≤ n) ∧ LamX.TabS H Pt q
  loc := fun ⟨⟨x, y, z, h, r⟩, ps, hP, h3, hc⟩ k => ⟨⟨x, y, z, k _ _ (.inl (.inl rfl)) h, r⟩, ps, k _ _ (.inl (.inr rfl)) hP, h3, fun p cv e => let ⟨c, e1, e2⟩ := hc p cv e; ⟨c, e1, k _ _ (.inr (codeO_ext c q)) e2⟩⟩
  occ := fun ⟨⟨x, y, z, h, _⟩, ps, hP, _⟩ hb => hb.elim (fun e => ⟨_, e ▸ h⟩) fun e => ⟨_, e ▸ hP⟩
  mono := fun ⟨⟨x, y, z, h, a, b, c, d, e⟩, t⟩ hl => ⟨⟨x, y, z, h, a, b, c, d, by omega⟩, t⟩
theorem wp_pot {a Pt : Addr} {q : Str} : PotW (WP a Pt q) a where
  b := .inl rfl
  get := fun j => j.1
  put := fun {n m H x y z} ⟨⟨x0, y0, z0, h, _⟩, ps, hP, h3, hc⟩ hx hy hy2 hz hz2 hl => by
    have na : ∀ b o, H b = some o → (∀ xs, o ≠ .lst xs) → b ≠ a := fun b o e n w => by rw [w, h] at e; cases e; exact n _ rfl
    refine ⟨⟨x, y, z, upd_same, hx, hy, hy2, hz, hz2⟩, ps, by rw [upd_ne (na _ _ hP fun xs z => by cases z)]; exact hP, h3, fun p cv e => ?_⟩
    obtain ⟨c, e1, e2⟩ := hc p cv e
    exact ⟨c, e1, by rw [upd_ne (na _ _ e2 fun xs z => by unfold LamX.CodeO at z; cases z)]; exact e2⟩
theorem wp_tab {a Pt : Addr} {q : Str} : TabW (WP a Pt q) Pt q where
  b := .inr rfl
  tab := fun j => j.2
  step := fun {n H H'} ⟨⟨x, y, z, h, r⟩, ps, hP, _⟩ kp T => ⟨⟨x, y, z, kp a _ (fun w => by rw [w, hP] at h; cases h) h, r⟩, T⟩
section
variable {W : Wd} {X : Cx} {Γ : List Sl} {n c c1 c2 : Nat} {φ ψ : D → Prop} {e a b : Expr} {pos p npos ipos cpos : Pos} {d : D} {sts rest : List Stmt} {P : Pst} {l1 h1 l2 h2 : Int}
theorem ev_rint {v : Int} {j : Nat} : Ev W X (.Constant (.int v) j pos) Γ 0 (Rg v v) := ev_int.imp fun d e => ⟨v, e, Int.le_refl _, Int.le_refl _⟩
theorem ev_rg (h : Ev W X e Γ c (Is (.int l1))) : Ev W X e Γ c (Rg l1 l1) := h.imp fun d e => ⟨l1, e, Int.le_refl _, Int.le_refl _⟩
theorem Ev.wid {l h l' h' : Int} (q : Ev W X e Γ c (Rg l h)) (hl : decide (l' ≤ l) = true) (hh : decide (h ≤ h') = true) : Ev W X e Γ c (Rg l' h') := q.imp fun d ⟨v, e, a, b⟩ => ⟨v, e, Int.le_trans (of_decide_eq_true hl) a, Int.le_trans b (of_decide_eq_true hh)⟩
theorem ev_radd (ha : Ev W X a Γ c1 (Rg l1 h1)) (hb : Ev W X b Γ c2 (Rg l2 h2)) : Ev W X (.BinOp a .Add b pos) Γ (c1 + c2) (Rg (l1 + l2) (h1 + h2)) :=
  ev_bin op_add ha hb fun dx dy ⟨x, ex, p1, p2⟩ ⟨y, ey, q1, q2⟩ => ⟨.int (x + y), by subst ex; subst ey; exact r2_I0, x + y, rfl, by omega, by omega⟩
theorem mul_le' {x y h1 h2 : Int} (a1 : 0 ≤ x) (a2 : x ≤ h1) (b1 : 0 ≤ y) (b2 : y ≤ h2) : x * y ≤ h1 * h2 := Int.mul_le_mul a2 b2 b1 (Int.le_trans a1 a2)
/-- a product of numbers from 0 on, one of them below 2 ** 64 -/
theorem ev_rmul (ha : Ev W X a Γ c1 (Rg l1 h1)) (hb : Ev W X b Γ c2 (Rg l2 h2)) (z1 : decide (0 ≤ l1) = true) (z2 : decide (0 ≤ l2) = true) (z3 : decide (h1 < 18446744073709551616 ∨ h2 < 18446744073709551616) = true) : Ev W X (.BinOp a .Mult b pos) Γ (c1 + c2) (Rg 0 (h1 * h2)) :=
  ev_bin op_mul ha hb fun dx dy ⟨x, ex, p1, p2⟩ ⟨y, ey, q1, q2⟩ => by
    have y1 := of_decide_eq_true z1
    have y2 := of_decide_eq_true z2
    have x0 := Int.le_trans y1 p1
    have y0 := Int.le_trans y2 q1
    have hc : CMul x y := by
      rcases of_decide_eq_true z3 with z | z
      · exact .inl ⟨by omega, by omega⟩
      · exact .inr ⟨by omega, by omega⟩
    exact ⟨.int (x * y), by subst ex; subst ey; exact r2_I hc, x * y, rfl, Int.mul_nonneg x0 y0, mul_le' x0 p2 y0 q2⟩
/-- modulo a number -/
theorem ev_rmod (ha : Ev W X a Γ c1 Nn) (hb : Ev W X b Γ c2 (Rg l2 h2)) (z : decide (0 < l2) = true) : Ev W X (.BinOp a .Mod b pos) Γ (c1 + c2) (Rg 0 (h2 - 1)) :=
  ev_bin op_mod ha hb fun dx dy ⟨x, ex, _⟩ ⟨y, ey, q1, q2⟩ => by
    have y0 : 0 < y := Int.lt_of_lt_of_le (of_decide_eq_true z) q1
    refine ⟨.int (x % y), by subst ex; subst ey; exact r2_I y0, x % y, rfl, Int.emod_nonneg _ (by omega), ?_⟩
    have := Int.emod_lt_of_pos x y0
    omega
/-- modulo a number, of any integer -/
theorem ev_rmodA (ha : Ev W X a Γ c1 fun d => ∃ v, d = .int v) (hb : Ev W X b Γ c2 (Rg l2 h2)) (z : decide (0 < l2) = true) : Ev W X (.BinOp a .Mod b pos) Γ (c1 + c2) (Rg 0 (h2 - 1)) :=
  ev_bin op_mod ha hb fun dx dy ⟨x, ex⟩ ⟨y, ey, q1, q2⟩ => by
    have y0 : 0 < y := Int.lt_of_lt_of_le (of_decide_eq_true z) q1
    refine ⟨.int (x % y), by subst ex; subst ey; exact r2_I y0, x % y, rfl, Int.emod_nonneg _ (by omega), ?_⟩
    have := Int.emod_lt_of_pos x y0
    omega
theorem ev_rfdiv (ha : Ev W X a Γ c1 Nn) (hb : Ev W X b Γ c2 (Rg l2 h2)) (z : decide (0 < l2) = true) (z2 : decide (h2 < 1073741824) = true) : Ev W X (.BinOp a .FloorDiv b pos) Γ (c1 + c2) Nn :=
  ev_bin op_fdiv ha hb fun dx dy ⟨x, ex, hx⟩ ⟨y, ey, q1, q2⟩ => by
    have y0 : 0 < y := Int.lt_of_lt_of_le (of_decide_eq_true z) q1
    have y1 : y < 1073741824 := Int.lt_of_le_of_lt q2 (of_decide_eq_true z2)
    exact ⟨.int (x / y), by subst ex; subst ey; exact r2_I ⟨y0, y1⟩, x / y, rfl, Int.ediv_nonneg hx (by omega)⟩
theorem ev_rcube {j : Nat} (ha : Ev W X a Γ c1 (Rg l1 h1)) (z1 : decide (0 ≤ l1) = true) (z2 : decide (h1 < 18446744073709551616) = true) : Ev W X (.BinOp a .Pow (.Constant (.int 3) j cpos) pos) Γ (c1 + 0) Nn :=
  ev_bin op_pow ha ev_int fun dx dy ⟨x, ex, p1, p2⟩ ey => by
    obtain rfl : dy = .int 3 := ey
    have x0 : 0 ≤ x := Int.le_trans (of_decide_eq_true z1) p1
    have x1 : x < 18446744073709551616 := Int.lt_of_le_of_lt p2 (of_decide_eq_true z2)
    refine ⟨.int (x ^ 3), by subst ex; exact r2_I ⟨by decide, by decide, by omega⟩, x ^ 3, rfl, ?_⟩
    exact Int.pow_nonneg x0
abbrev rInt1 : List V → Hp → VK → Prop := fun xs H Q => (∃ i, xs = [.int i] ∧ Q (.int i) H) ∨ ∃ k, xs = [.bl k] ∧ Q (.int (if k then 1 else 0)) H
theorem cd_int1 {v : Int} : CD X.K rInt1 [.int v] (.int v) := fun vs R H Q hr r k => by
  cases r with | cons r t => cases t; cases r; exact .inl ⟨v, rfl, k _ R H (Gr.refl hr) (.int _)⟩
theorem cd_intB {v : Bool} : CD X.K rInt1 [.bl v] (.int (if v then 1 else 0)) := fun vs R H Q hr r k => by
  cases r with | cons r t => cases t; cases r; exact .inr ⟨v, rfl, k _ R H (Gr.refl hr) (.int _)⟩
/-- int(e) of an integer -/
theorem ev_rInt (hg : Gl X "int") (hm : Bn X "int") (ha : Ev W X a Γ c φ) (h : ∀ d, φ d → ∃ v, d = .int v) (he : starEach [a] X.env = (false, eval a X.env) :: starEach [] X.env := by rfl) (hpl : (backTo pos (starEach [] X.env)).any (·.1) = false := by rfl) :
    Ev W X (.Call (.Name "int" p) [a] [] pos) Γ c φ := ev_callT call_int1 hg hm PyProof.Rows.boot_int (es_cons ha es_nil he) (fun ss ⟨d, r, e, f, g⟩ => by
      obtain rfl : r = [] := g
      obtain ⟨v, rfl⟩ := h d f
      exact ⟨[_], _, e, cd_int1, f⟩) (by decide) (by decide) he hpl
theorem Rg.isI {lo hi : Int} : ∀ d, Rg lo hi d → ∃ v, d = .int v := fun d ⟨v, e, _⟩ => ⟨v, e⟩
theorem Nn.isI : ∀ d, Nn d → ∃ v, d = .int v := fun d ⟨v, e, _⟩ => ⟨v, e⟩
/-- pot[k] -/
theorem ev_pot {i : Nat} {x : Str} {ad : Addr} {k : Int} {j : Nat} (pw : PotW W ad) (hN : X.N[i]? = some x) (hv : Vis X.env.scope x) (hΓ : Γ[i]? = some (.at_ ad)) (hφ : ∀ (n : Nat) (x y z : Int), n ≤ LIM → 0 ≤ x → 0 ≤ y → y ≤ 2305843009213693951 → 0 ≤ z → z ≤ n → ∃ v, atI [D.int x, .int y, .int z] k = some (.int v) ∧ φ (.int v))
    (hd : (x == ("__debug__" : Str)) = false := by decide) (hcd : (x == ("__classdict__" : Str)) = false := by decide) : Ev W X (.Subscript (.Name x npos) (.Constant (.int k) j cpos) pos) Γ 0 φ := fun R0 H0 Rl σ R n H s hn Q kq => by
  refine wE_of (pe_ix ix_list (pe_var hN hv hd hcd) pe_int (fun _ _ => rfl)) ?_
  have hlt : i < σ.length := by rw [s.env.len]; exact (List.getElem?_eq_some_iff.mp hΓ).1
  have e1 : σ[i] = some (.ref ad) := s.env.ok i _ σ[i] hΓ (List.getElem?_eq_getElem hlt)
  obtain ⟨x, y, z, hH, a1, a2, a3, a4, a5⟩ := pw.get s.j
  obtain ⟨v, hat, hf⟩ := hφ n x y z (by omega) a1 a2 a3 a4 a5
  obtain ⟨v', hv', rv⟩ := atI_rp (K := X.K) (R := R) (xs := [.int x, .int y, .int z]) (ds := [.int x, .int y, .int z]) (.cons (.int _) (.cons (.int _) (.cons (.int _) .nil))) hat
  exact ⟨_, by rw [List.getElem?_eq_getElem hlt, e1], ad, _, k, v', rfl, rfl, SqL.of hH, hv', kq _ R H _ (Gr.refl s.rh) s.j hf rv⟩
theorem Gr.pot {W : Wd} {ad : Addr} {R H : Hp} {o : HO} (hB : W.B ad) (hR : R ad = none) (rh : Same R H) (hx : H ad ≠ none) : Gr W R H R (upd H ad o) := by
  refine ⟨fun b u nb e => by rw [upd_ne (show b ≠ ad from fun z => nb (z ▸ hB))]; exact e, fun b u e => ?_, Same.refl R, fun b u e => ?_, fun b u e z => z⟩
  · by_cases q : b = ad
    · subst q; exact ⟨_, upd_same⟩
    · exact ⟨u, by rw [upd_ne q]; exact e⟩
  · rw [upd_ne (ne_of_none e hR)]; exact rh b u e
/-- pot[0] = e -/
theorem sm_pot0 {i : Nat} {x : Str} {ad : Addr} {j : Nat} (pw : PotW W ad) (hN : X.N[i]? = some x) (hv : Vis X.env.scope x) (hΓ : Γ[i]? = some (.at_ ad)) (he : Ev W X e Γ c Nn) (hl : n + c ≤ LIM) (kt : P.nx Γ (n + c)) (hs : swapsWithSole [.Subscript (.Name x npos) (.Constant (.int 0) j cpos) ipos] e pos.line X.env = pure false := by rfl) (hw : swappedStores [.Subscript (.Name x npos) (.Constant (.int 0) j cpos) ipos] e X.env = pure none := by rfl)
    (ha : (assignEach [.Subscript (.Name x npos) (.Constant (.int 0) j cpos) ipos] X.env).map (·.2) = [assign (.Subscript (.Name x npos) (.Constant (.int 0) j cpos) ipos) X.env] := by rfl) (hd : (x == ("__debug__" : Str)) = false := by decide) (hcd : (x == ("__classdict__" : Str)) = false := by decide) :
    Sm W X (.Assign [.Subscript (.Name x npos) (.Constant (.int 0) j cpos) ipos] e pos) Γ n P := fun R0 H0 Rl R σ H E s en => by
  refine wS_of (ps_asg (wE_ok e) (pg_sub (pe_var hN hv hd hcd) pe_int set_list) hs hw ha) ?_
  refine he R0 H0 Rl σ R n H s hl _ fun v R1 H1 d g1 j1 ⟨u, ed, hu⟩ r1 => ?_
  subst ed
  cases r1
  have hlt : i < σ.length := by rw [s.env.len]; exact (List.getElem?_eq_some_iff.mp hΓ).1
  have e1 : σ[i] = some (.ref ad) := s.env.ok i _ σ[i] hΓ (List.getElem?_eq_getElem hlt)
  have s1 := s.grow g1 j1
  obtain ⟨x, y, z, hH, a1, a2, a3, a4, a5⟩ := pw.get j1
  refine ⟨_, by rw [List.getElem?_eq_getElem hlt, e1], ad, _, 0, 0, rfl, rfl, hH, rfl, ?_⟩
  exact en.nx _ _ R1 σ _ (s1.grow (Gr.pot pw.b (s1.rb ad pw.b) g1.rh (by rw [hH]; exact fun z => nomatch z)) (pw.put j1 hu a2 a3 a4 a5 (Nat.le_refl _))) kt
/-- pot[2] = pot[2] + 1 -/
theorem sm_pot2 {i : Nat} {x : Str} {ad : Addr} {j j2 j3 : Nat} {np2 cp2 ip2 cp3 ap : Pos} (pw : PotW W ad) (hN : X.N[i]? = some x) (hv : Vis X.env.scope x) (hΓ : Γ[i]? = some (.at_ ad)) (hl : n + 1 ≤ LIM) (kt : P.nx Γ (n + 1))
    (hs : swapsWithSole [.Subscript (.Name x npos) (.Constant (.int 2) j cpos) ipos] (.BinOp (.Subscript (.Name x np2) (.Constant (.int 2) j2 cp2) ip2) .Add (.Constant (.int 1) j3 cp3) ap) pos.line X.env = pure false := by rfl) (hw : swappedStores [.Subscript (.Name x npos) (.Constant (.int 2) j cpos) ipos] (.BinOp (.Subscript (.Name x np2) (.Constant (.int 2) j2 cp2) ip2) .Add (.Constant (.int 1) j3 cp3) ap) X.env = pure none := by rfl)
    (ha : (assignEach [.Subscript (.Name x npos) (.Constant (.int 2) j cpos) ipos] X.env).map (·.2) = [assign (.Subscript (.Name x npos) (.Constant (.int 2) j cpos) ipos) X.env] := by rfl) (hd : (x == ("__debug__" : Str)) = false := by decide) (hcd : (x == ("__classdict__" : Str)) = false := by decide) :
    Sm W X (.Assign [.Subscript (.Name x npos) (.Constant (.int 2) j cpos) ipos] (.BinOp (.Subscript (.Name x np2) (.Constant (.int 2) j2 cp2) ip2) .Add (.Constant (.int 1) j3 cp3) ap) pos) Γ n P := fun R0 H0 Rl R σ H E s en => by
  refine wS_of (ps_asg (pe_op op_add (pe_ix ix_list (pe_var hN hv hd hcd) pe_int (fun _ _ => rfl)) pe_int) (pg_sub (pe_var hN hv hd hcd) pe_int set_list) hs hw ha) ?_
  have hlt : i < σ.length := by rw [s.env.len]; exact (List.getElem?_eq_some_iff.mp hΓ).1
  have e1 : σ[i]? = some (some (.ref ad)) := by rw [List.getElem?_eq_getElem hlt]; exact congrArg some (s.env.ok i _ σ[i] hΓ (List.getElem?_eq_getElem hlt))
  obtain ⟨x, y, z, hH, a1, a2, a3, a4, a5⟩ := pw.get s.j
  refine ⟨_, e1, ad, _, 2, _, rfl, rfl, SqL.of hH, rfl, z, 1, rfl, rfl, ?_⟩
  refine ⟨_, e1, ad, _, 2, 2, rfl, rfl, hH, rfl, ?_⟩
  exact en.nx _ _ R σ _ (s.grow (Gr.pot pw.b (s.rb ad pw.b) s.rh (by rw [hH]; exact fun z => nomatch z)) (pw.put s.j a1 a2 a3 (by omega) (by omega) (Nat.le_succ n))) kt
theorem ev_rv {v lo hi : Int} (h : Ev W X e Γ c (Is (.int v))) (a : lo ≤ v) (b : v ≤ hi) : Ev W X e Γ c (Rg lo hi) := h.imp fun d q => ⟨v, q, a, b⟩
theorem Ev.nn {lo hi : Int} (h : Ev W X e Γ c (Rg lo hi)) (q : decide (0 ≤ lo) = true) : Ev W X e Γ c Nn := h.imp fun d r => r.nn q
theorem ev_pot0 {i : Nat} {x : Str} {ad : Addr} {j : Nat} (pw : PotW W ad) (hN : X.N[i]? = some x) (hv : Vis X.env.scope x) (hΓ : Γ[i]? = some (.at_ ad)) (hd : (x == ("__debug__" : Str)) = false := by decide) (hcd : (x == ("__classdict__" : Str)) = false := by decide) :
    Ev W X (.Subscript (.Name x npos) (.Constant (.int 0) j cpos) pos) Γ 0 Nn := ev_pot pw hN hv hΓ (fun n x y z hn h1 h2 h3 h4 h5 => ⟨x, rfl, x, rfl, h1⟩) hd hcd
theorem ev_pot1 {i : Nat} {x : Str} {ad : Addr} {j : Nat} (pw : PotW W ad) (hN : X.N[i]? = some x) (hv : Vis X.env.scope x) (hΓ : Γ[i]? = some (.at_ ad)) (hd : (x == ("__debug__" : Str)) = false := by decide) (hcd : (x == ("__classdict__" : Str)) = false := by decide) :
    Ev W X (.Subscript (.Name x npos) (.Constant (.int 1) j cpos) pos) Γ 0 (Rg 0 2305843009213693951) := ev_pot pw hN hv hΓ (fun n x y z hn h1 h2 h3 h4 h5 => ⟨y, rfl, y, rfl, h2, h3⟩) hd hcd
theorem ev_pot2 {i : Nat} {x : Str} {ad : Addr} {j : Nat} (pw : PotW W ad) (hN : X.N[i]? = some x) (hv : Vis X.env.scope x) (hΓ : Γ[i]? = some (.at_ ad)) (hd : (x == ("__debug__" : Str)) = false := by decide) (hcd : (x == ("__classdict__" : Str)) = false := by decide) :
    Ev W X (.Subscript (.Name x npos) (.Constant (.int 2) j cpos) pos) Γ 0 (Rg 0 1000000) := ev_pot pw hN hv hΓ (fun n x y z hn h1 h2 h3 h4 h5 => ⟨z, rfl, z, rfl, h4, by unfold LIM at hn; omega⟩) hd hcd
theorem et_gt0 {φa φb : D → Prop} (ha : Ev W X a Γ c1 φa) (hb : Ev W X b Γ c2 φb) (h1 : ∀ d, φa d → ∃ v, d = .int v) (h2 : ∀ d, φb d → ∃ v, d = .int v) : EvT W X (.Compare a [.Gt] [b] pos) Γ (c1 + c2) (fun _ => True) :=
  et_cmp2 op_gt (nomark _) ha hb fun dx dy f1 f2 => by
    obtain ⟨x, rfl⟩ := h1 dx f1
    obtain ⟨y, rfl⟩ := h2 dy f2
    exact ⟨decide (y < x), r2_B0, trivial⟩
/-- an element of a list that is written there -/
theorem ev_rix {ds : List D} {φ : D → Prop} {hi : Int} (ha : Ev W X a Γ c1 (Is (.lst ds))) (hb : Ev W X b Γ c2 (Rg 0 hi)) (hh : hi + 1 = ds.length) (h : ∀ d ∈ ds, φ d) (hs : PlainIx b := by exact fun _ _ => rfl) : Ev W X (.Subscript a b pos) Γ (c1 + c2) φ :=
  ev_ixL ha hb (fun x y e ⟨v, ev, h1, h2⟩ => by
    have hlt : v.toNat < ds.length := by omega
    refine ⟨ds, v, ds[v.toNat], e, ev, ?_, h _ (List.getElem_mem _)⟩
    unfold atI ixN
    rw [if_pos h1, if_pos (by omega)]
    exact List.getElem?_eq_getElem hlt) hs
/-- a call that gets the pot, then data -/
theorem ev_pcall {S : Wd → List Sl → (D → Prop) → Prop} {es : List Expr} {k i : Nat} {x y : Str} {ps : List Str} {ad : Addr} {ss : List Sl} {np : Pos} (C : Cal X.prog X.w X.K X.mg X.base k x ps c2 S) (hr : Room k X.A) (hg : Gl X x) (hN : X.N[i]? = some y) (hv : Vis X.env.scope y) (hΓ : Γ[i]? = some (.at_ ad)) (ha : EvS W X es Γ c1 (Is ss)) (h : S W (.at_ ad :: ss) φ)
    (hs : starEach ((.Name y np) :: es) X.env = (false, eval (.Name y np) X.env) :: starEach es X.env := by rfl) (hd : (y == ("__debug__" : Str)) = false := by decide) (hcd : (y == ("__classdict__" : Str)) = false := by decide) (hdb : (x == ("__debug__" : Str)) = false := by decide) (hpl : (backTo pos (starEach es X.env)).any (·.1) = false := by rfl) :
    Ev W X (.Call (.Name x p) (.Name y np :: es) [] pos) Γ (c1 + c2) φ := ev_call C hr hg (es_at hN hv hΓ ha hs hd hcd) (fun s' ⟨r, e1, e2⟩ => by
      obtain rfl : r = ss := e2
      rw [e1]; exact h) hdb hs hpl
end
end Qq
/-! Qr: own lists: made two at once, popped from. -/
namespace Qq
open PySem PySem.Spec PyProof.Rows L2
section
variable {W : Wd} {K : PySem.W.Frag} {R0 H0 Rl R H : Hp} {Γ : List Sl} {n : Nat} {σ : L2.St}
theorem So.freshL (s : So W K R0 H0 Rl Γ R n σ H) {l : Addr} (hl : H l = none) {vs : List V} {ds : List D} (r : RpL K R vs ds) (i : Nat) : So W K R0 H0 Rl (Γ.set i (.ml ds)) R n (σ.set i (some (.ref l))) (upd H l (.lst vs)) := by
  have s1 := s.grow (Gr.newM (o := .lst vs) s.rh hl) (W.loc s.j fun b o _ e => by rw [upd_ne (ne_of_none e hl)]; exact e)
  have h0 : H0 l = none := by
    cases q : H0 l with
    | none => rfl
    | some o => obtain ⟨o', e⟩ := s.gr.hb l o q; rw [hl] at e; cases e
  refine s1.setM (sl := .ml ds) rfl ⟨l, vs, rfl, s.rh.free hl, h0, So.nB s.j hl, upd_same, r⟩ fun j t _ a b e => ?_
  have := s.env.ok j t _ a e
  cases t with
  | ml ds => obtain ⟨p', xs, e', _, _, _, h', _⟩ := this; cases e'; rw [hl] at h'; cases h'
  | md ds => obtain ⟨p', xs, e', _, _, _, h', _⟩ := this; cases e'; rw [hl] at h'; cases h'
  | _ => cases b
end
section
variable {W : Wd} {X : Cx} {Γ : List Sl} {n c c1 c2 : Nat} {φ : D → Prop} {e a b : Expr} {pos p np apos cpos : Pos} {d : D} {sts rest : List Stmt} {P : Pst}
/-- len(x) of an own list -/
theorem ev_lenM {i : Nat} {x : Str} {ds : List D} (hg : Gl X "len") (hm : Bn X "len") (hN : X.N[i]? = some x) (hv : Vis X.env.scope x) (hΓ : Γ[i]? = some (.ml ds)) (hd : (x == ("__debug__" : Str)) = false := by decide) (hcd : (x == ("__classdict__" : Str)) = false := by decide)
    (he : starEach [.Name x np] X.env = (false, eval (.Name x np) X.env) :: starEach [] X.env := by rfl) (hpl : (backTo pos (starEach [] X.env)).any (·.1) = false := by rfl) : Ev W X (.Call (.Name "len" p) [.Name x np] [] pos) Γ 0 (Is (.int ds.length)) := fun R0 H0 Rl σ R n H s hn Q k => by
  refine wE_of (pe_callB call_lenA hg hm PySem.boot_len (pa_cons (pe_var hN hv hd hcd) pa_nil he) (by decide) (by decide) he hpl) ?_
  have hlt : i < σ.length := by rw [s.env.len]; exact (List.getElem?_eq_some_iff.mp hΓ).1
  obtain ⟨l, xs, e1, hR, h0, nB, hH, r⟩ := s.env.ok i _ σ[i] hΓ (List.getElem?_eq_getElem hlt)
  exact ⟨_, by rw [List.getElem?_eq_getElem hlt, e1], .inl ⟨l, xs, rfl, .inl (SqL.of hH), by rw [r.len]; exact k _ R H _ (Gr.refl s.rh) s.j rfl (.int _)⟩⟩
/-- x.append(y.pop(e)), both own lists -/
theorem sm_appop {i j : Nat} {x y : Str} {as ds : List D} {hi : Int} {apos2 cpos2 np2 : Pos} (hN : X.N[i]? = some x) (hv : Vis X.env.scope x) (hΓ : Γ[i]? = some (.ml as)) (hN2 : X.N[j]? = some y) (hv2 : Vis X.env.scope y) (hΓ2 : Γ[j]? = some (.ml ds)) (hij : i ≠ j) (he : Ev W X e Γ c (Rg 0 hi)) (hh : hi + 1 = ds.length) (hl : n + c ≤ LIM) (ha : as.length < 4000) (hds : ds.length ≤ 4000)
    (kt : ∀ (k : Nat) (d : D), ds[k]? = some d → P.nx ((Γ.set j (.ml (ds.eraseIdx k))).set i (.ml (as ++ [d]))) (n + c))
    (hd : (x == ("__debug__" : Str)) = false := by decide) (hcd : (x == ("__classdict__" : Str)) = false := by decide) (hd2 : (y == ("__debug__" : Str)) = false := by decide) (hcd2 : (y == ("__classdict__" : Str)) = false := by decide)
    (hbase : attributeBase (.Name x np) "append" X.env (eval (.Name x np) X.env) = eval (.Name x np) X.env := by rfl) (hbase2 : attributeBase (.Name y np2) "pop" X.env (eval (.Name y np2) X.env) = eval (.Name y np2) X.env := by rfl)
    (hfew : ((backTo cpos (starEach [.Call (.Attribute (.Name y np2) "pop" apos2) [e] [] cpos2] X.env)).all (fun x => !x.1) && (backToKw cpos (keywordEach [] X.env)).all (fun x => x.1.isSome) && decide (([.Call (.Attribute (.Name y np2) "pop" apos2) [e] [] cpos2] : List Expr).length + ([] : List Keyword).length + (if ([] : List Keyword).isEmpty then 0 else 1) < 30)) = true := by rfl)
    (hfew2 : ((backTo cpos2 (starEach [e] X.env)).all (fun x => !x.1) && (backToKw cpos2 (keywordEach [] X.env)).all (fun x => x.1.isSome) && decide (([e] : List Expr).length + ([] : List Keyword).length + (if ([] : List Keyword).isEmpty then 0 else 1) < 30)) = true := by rfl)
    (hline : (apos.endLine == cpos.line) = true := by rfl) (hline2 : (apos2.endLine == cpos2.line) = true := by rfl) (hs : starEach [.Call (.Attribute (.Name y np2) "pop" apos2) [e] [] cpos2] X.env = (false, eval (.Call (.Attribute (.Name y np2) "pop" apos2) [e] [] cpos2) X.env) :: starEach [] X.env := by rfl) (hs2 : starEach [e] X.env = (false, eval e X.env) :: starEach [] X.env := by rfl)
    (hpl : (backTo cpos (starEach [] X.env)).any (·.1) = false := by rfl) (hpl2 : (backTo cpos2 (starEach [] X.env)).any (·.1) = false := by rfl)
    (hsw : swapsWith (.Call (.Attribute (.Name x np) "append" apos) [.Call (.Attribute (.Name y np2) "pop" apos2) [e] [] cpos2] [] cpos) none pos.line X.env = pure false := by rfl) :
    Sm W X (.Expr (.Call (.Attribute (.Name x np) "append" apos) [.Call (.Attribute (.Name y np2) "pop" apos2) [e] [] cpos2] [] cpos) pos) Γ n P := fun R0 H0 Rl R σ H E s en => by
  refine wS_of (ps_expr (pe_bm PySem.F.plainAttrs_list PySem.F.slot_list_append PySem.F.type_list_append mt_append (pe_var hN hv hd hcd) (pa_cons (pe_bm PySem.F.plainAttrs_list PySem.F.slot_list_pop PySem.F.type_list_pop mt_popAt (pe_var hN2 hv2 hd2 hcd2) (pa_cons (wE_ok e) pa_nil hs2) hbase2 hfew2 hline2 hs2 hpl2) pa_nil hs) hbase hfew hline hs hpl) hsw) ?_
  have hlt : i < σ.length := by rw [s.env.len]; exact (List.getElem?_eq_some_iff.mp hΓ).1
  have hlt2 : j < σ.length := by rw [s.env.len]; exact (List.getElem?_eq_some_iff.mp hΓ2).1
  obtain ⟨l, xs, e1, hR, h0, nB, hH, r⟩ := s.env.ok i _ σ[i] hΓ (List.getElem?_eq_getElem hlt)
  obtain ⟨m, ys, e2, hR2, h02, nB2, hH2, r2⟩ := s.env.ok j _ σ[j] hΓ2 (List.getElem?_eq_getElem hlt2)
  have hσ : σ[i]? = some (some (.ref l)) := by rw [List.getElem?_eq_getElem hlt, e1]
  have hσ2 : σ[j]? = some (some (.ref m)) := by rw [List.getElem?_eq_getElem hlt2, e2]
  have hlm : l ≠ m := fun z => hij (s.env.dis i j _ _ l hΓ hΓ2 rfl rfl hσ (z ▸ hσ2))
  refine ⟨_, hσ, .inl ⟨rfl, _, SqL.of hH⟩, ?_⟩
  refine ⟨_, hσ2, .inl ⟨rfl, _, SqL.of hH2⟩, ?_⟩
  refine he R0 H0 Rl σ R n H s hl _ fun v R1 H1 d g1 j1 ⟨u, ed, u0, u1⟩ rv => ?_
  subst ed
  cases rv
  have hH1 := g1.hh l _ nB hH
  have hH12 := g1.hh m _ nB2 hH2
  have hR1 := g1.nw l _ hH hR
  have hR12 := g1.nw m _ hH2 hR2
  have ylen := r2.len
  have hk : u.toNat < ys.length := by omega
  have r2' := r2.mono g1.rr
  obtain ⟨d, hd', rd⟩ := r2'.get (i := u.toNat) (x := ys[u.toNat]) (List.getElem?_eq_getElem hk)
  have hsi : seqIndex? u ys.length = some u.toNat := (ixN_seq (show ixN ys.length u = some u.toNat by unfold ixN; rw [if_pos u0, if_pos (by omega)])).1
  refine ⟨m, ys, u, u.toNat, ys[u.toNat], rfl, rfl, hH12, by omega, by omega, hsi, List.getElem?_eq_getElem hk, ?_⟩
  have s1 := (s.grow g1 j1).write (o := .lst (ys.eraseIdx u.toNat)) (sl' := .ml (ds.eraseIdx u.toNat)) hΓ2 rfl rfl hσ2 hR12 h02 nB2 ⟨m, _, rfl, hR12, h02, nB2, upd_same, r2'.erase _⟩
  have hH3 : upd H1 m (.lst (ys.eraseIdx u.toNat)) l = some (.lst xs) := by rw [upd_ne hlm]; exact hH1
  refine ⟨l, xs, _, rfl, rfl, hH3, Nat.lt_of_lt_of_le (by rw [r.len]; exact ha : xs.length < 4000) (by decide), ?_⟩
  refine en.nx _ _ R1 _ _ (s1.write (o := .lst (xs ++ [ys[u.toNat]])) (sl' := .ml (as ++ [d])) (by rw [List.getElem?_set_ne (Ne.symm hij)]; exact hΓ) rfl rfl hσ hR1 h0 nB ⟨l, _, rfl, hR1, h0, nB, upd_same, (r.mono g1.rr).append (.cons rd .nil)⟩) (kt u.toNat d hd')
/-- x, y = list(e), [] -/
theorem sm_parLN {i j : Nat} {x y : Str} {ds : List D} {px py pt lp bp : Pos} {kt k2 : Nat} {pt2 : Pos} (hc : X.calm = true) (hN : X.N.Nodup) (hi : X.N[i]? = some x) (hj : X.N[j]? = some y) (hij : i ≠ j) (hx : X.env.scope.names.lookup x = some .local) (hy : X.env.scope.names.lookup y = some .local) (hg : Gl X "list") (hm : Bn X "list")
    (he : Ev W X e Γ c (Is (.lst ds))) (hl : n + c ≤ LIM) (kt2 : P.nx ((Γ.set i (.ml ds)).set j (.ml [])) (n + c))
    (hw : swappedStores [.Tuple [.Name x px, .Name y py] kt pt] (.Tuple [.Call (.Name "list" lp) [e] [] p, .List [] bp] k2 pt2) X.env = pure (some [x, y])) (hs : swapsWithSole [.Tuple [.Name x px, .Name y py] kt pt] (.Tuple [.Call (.Name "list" lp) [e] [] p, .List [] bp] k2 pt2) pos.line X.env = pure false := by rfl)
    (h1 : starEach [.Call (.Name "list" lp) [e] [] p, .List [] bp] X.env = (false, eval (.Call (.Name "list" lp) [e] [] p) X.env) :: starEach [.List [] bp] X.env := by rfl) (h2 : starEach [.List [] bp] X.env = (false, eval (.List [] bp) X.env) :: starEach [] X.env := by rfl) (h3 : starEach [e] X.env = (false, eval e X.env) :: starEach [] X.env := by rfl) (hpl : (backTo p (starEach [] X.env)).any (·.1) = false := by rfl) :
    Sm W X (.Assign [.Tuple [.Name x px, .Name y py] kt pt] (.Tuple [.Call (.Name "list" lp) [e] [] p, .List [] bp] k2 pt2) pos) Γ n P := fun R0 H0 Rl R σ H E s en => by
  refine wS_of (ps_par hc hN hi hj hij hx hy (pa_cons (pe_callTy call_list_of hg hm PyProof.Rows.boot_list (pa_cons (wE_ok e) pa_nil h3) (by decide) (by decide) h3 hpl) (pa_cons (pe_lst pa_nil) pa_nil h2) h1) hw hs) ?_
  refine he R0 H0 Rl σ R n H s hl _ fun v R1 H1 d g1 j1 f1 r1 => ?_
  rw [show d = .lst ds from f1] at r1
  cases r1 with
  | @lst a xs _ q r =>
    refine ⟨a, xs, rfl, .inl (sqL_mono g1.rh q), fun l hnl => ⟨Nat.zero_le _, fun m hnm => ⟨_, _, rfl, ?_⟩⟩⟩
    have s1 := (s.grow g1 j1).freshL hnl r i
    have s2 := s1.freshL hnm (vs := []) (ds := []) .nil j
    exact en.nx _ _ R1 _ _ s2 kt2
theorem ev_powI {i j : Int} (ha : Ev W X a Γ c1 (Is (.int i))) (hb : Ev W X b Γ c2 (Is (.int j))) (h : (decide (0 ≤ j) && (decide (j ≤ 1000000) && decide (i.natAbs < 18446744073709551616))) = true) : Ev W X (.BinOp a .Pow b pos) Γ (c1 + c2) (Is (.int (i ^ j.toNat))) :=
  ev_binI op_pow ha hb (r2_I (by
    rw [Bool.and_eq_true, Bool.and_eq_true] at h
    exact ⟨of_decide_eq_true h.1, of_decide_eq_true h.2.1, of_decide_eq_true h.2.2⟩))
theorem ei_rwsI {ds : List D} {tg : Expr} (h : Ev W X e Γ c (Is (.rws ds))) : EvI W X tg e Γ c (Is ds) := ei_tupI h.weak
end
end Qq
/-! Qt: going over a dict. -/
namespace Qq
open PySem PySem.Spec PyProof.Rows L2
theorem rpk_at {K : PySem.W.Frag} {R : Hp} {kvs : List (Key × V)} {kds : List (Key × D)} (h : RpK K R kvs kds) {i : Nat} {k : Key} {v : V} (e : kvs[i]? = some (k, v)) : ∃ d, kds[i]? = some (k, d) ∧ Rp K R v d := h.get e
section
variable {W : Wd} {X : Cx} {Γ : List Sl} {n c c1 c2 : Nat} {φ : D → Prop} {e a b : Expr} {pos p apos cpos tpos : Pos} {d : D} {elts : List Expr} {kk : Nat}
/-- for k, v in e.items() -/
theorem ei_items {kds : List (Key × D)} (he : Ev W X e Γ c (Is (.dct kds))) (hbase : attributeBase e "items" X.env (eval e X.env) = eval e X.env := by rfl) (hline : (apos.endLine == cpos.line) = true := by rfl) :
    EvI W X (.Tuple elts kk tpos) (.Call (.Attribute e "items" apos) [] [] cpos) Γ c (Is (prsD kds)) := fun R0 H0 Rl σ R n H s hn Q k => by
  refine wI_of (pi_items (wE_ok e) hbase hline) ?_
  refine he R0 H0 Rl σ R n H s hn _ fun v R1 H1 d g j f r => ?_
  rw [show d = .dct kds from f] at r
  cases r with
  | @dct a kvs _ q0 r =>
    obtain ⟨o, q⟩ := q0
    refine ⟨a, o, kvs, rfl, g.rh _ _ q, k _ R1 H1 (prsD kds) g j rfl ⟨_, _, (by unfold prsD; rw [List.length_map, ← r.len]; exact walk_items (d := a) (o := o) (kvs := kvs)), fun R2 H2 u v => v _ _ (u _ _ q), ?_⟩⟩
    rintro i R2 H2 x H3 hi u v ⟨T, x1, y1, rfl, hT, rfl, ex, ey⟩
    have ex' : (kvs[i]?.map fun kv => kV kv.1) = some x1 := ex
    have ey' : kvs[i]?.map Prod.snd = some y1 := ey
    obtain ⟨⟨k1, v1⟩, ek⟩ : ∃ kv, kvs[i]? = some kv := by
      cases z : kvs[i]? with
      | none => rw [z] at ex'; cases ex'
      | some kv => exact ⟨kv, rfl⟩
    rw [ek] at ex' ey'
    cases ex'; cases ey'
    obtain ⟨d1, e1, r1⟩ := rpk_at r ek
    have g2 : Gr W R2 H2 (upd R2 T (.tup [kV k1, v1])) (upd H2 T (.tup [kV k1, v1])) := Gr.new v hT
    exact ⟨_, .tup [kD k1, d1], g2, fun b o z => by rw [upd_ne (ne_of_none z hT)]; exact z, by unfold prsD; rw [List.getElem?_map, e1]; rfl, .tup (SqT.of upd_same) (.cons rp_kV (.cons (r1.mono (u.trans g2.rr)) .nil))⟩
/-- for v in e.values() -/
theorem ei_values {kds : List (Key × D)} {tg : Expr} (he : Ev W X e Γ c (Is (.dct kds))) (hbase : attributeBase e "values" X.env (eval e X.env) = eval e X.env := by rfl) (hline : (apos.endLine == cpos.line) = true := by rfl) :
    EvI W X tg (.Call (.Attribute e "values" apos) [] [] cpos) Γ c (Is (kds.map (·.2))) := fun R0 H0 Rl σ R n H s hn Q k => by
  refine wI_of (pi_values (wE_ok e) hbase hline) ?_
  refine he R0 H0 Rl σ R n H s hn _ fun v R1 H1 d g j f r => ?_
  rw [show d = .dct kds from f] at r
  cases r with
  | @dct a kvs _ q0 r =>
    obtain ⟨o, q⟩ := q0
    refine ⟨a, o, kvs, rfl, g.rh _ _ q, k _ R1 H1 _ g j rfl ⟨_, _, (by rw [List.length_map, ← r.len]; exact walk_values (d := a) (o := o) (kvs := kvs)), fun R2 H2 u v => v _ _ (u _ _ q), ?_⟩⟩
    rintro i R2 H2 x H3 hi u v ⟨rfl, k1, ek⟩
    obtain ⟨d1, e1, r1⟩ := rpk_at r ek
    exact ⟨R2, d1, Gr.refl v, fun _ _ z => z, by rw [List.getElem?_map, e1]; rfl, r1.mono u⟩
end
end Qq
/-! Qu: sorted(d) of a dict's keys. -/
namespace Qq
open PySem PySem.Spec PyProof.Rows L2
def sortI (ks : List Int) : List Int := ks.mergeSort fun a b => decide (a ≤ b)
def sortT (ks : List Str) : List Str := ks.mergeSort fun a b => !ltS b a
theorem sortI_pw (ks : List Int) : (sortI ks).Pairwise (· ≤ ·) := (List.pairwise_mergeSort (le := fun a b : Int => decide (a ≤ b)) (fun a b c h1 h2 => decide_eq_true (Int.le_trans (of_decide_eq_true h1) (of_decide_eq_true h2))) (fun a b => by
  rcases Int.le_total a b with h | h
  · rw [decide_eq_true h]; rfl
  · rw [decide_eq_true h, Bool.or_true]) ks).imp fun h => of_decide_eq_true h
theorem sortI_eq {ys ks : List Int} (p : ys.Perm ks) (o : ys.Pairwise (· ≤ ·)) : ys = sortI ks :=
  List.Perm.eq_of_pairwise (le := fun a b : Int => a ≤ b) (fun a b _ _ h1 h2 => Int.le_antisymm h1 h2) o (sortI_pw ks) (p.trans (List.mergeSort_perm ks _).symm)
/-- a is not above b -/
def leT (a b : Str) : Prop := ¬ b.cps.toList < a.cps.toList
theorem leT_iff {a b : Str} : (!ltS b a) = true ↔ leT a b := by unfold ltS leT; simp
theorem leT_trans {a b c : Str} (h1 : leT a b) (h2 : leT b c) : leT a c := fun h => by
  have h1' : a.cps.toList ≤ b.cps.toList := h1
  have h2' : b.cps.toList ≤ c.cps.toList := h2
  exact (List.le_trans h1' h2' : a.cps.toList ≤ c.cps.toList) h
theorem leT_total (a b : Str) : leT a b ∨ leT b a := List.le_total a.cps.toList b.cps.toList
theorem leT_anti {a b : Str} (h1 : leT a b) (h2 : leT b a) : a = b := by
  have e : a.cps.toList = b.cps.toList := List.le_antisymm (show a.cps.toList ≤ b.cps.toList from h1) (show b.cps.toList ≤ a.cps.toList from h2)
  cases a with | mk x => cases b with | mk y =>
    exact congrArg Str.mk (Array.toList_inj.mp e)
theorem sortT_pw (ks : List Str) : (sortT ks).Pairwise leT := (List.pairwise_mergeSort (le := fun a b : Str => !ltS b a) (fun a b c h1 h2 => leT_iff.mpr (leT_trans (leT_iff.mp h1) (leT_iff.mp h2))) (fun a b => by
  rw [Bool.or_eq_true]
  exact (leT_total a b).imp leT_iff.mpr leT_iff.mpr) ks).imp fun h => leT_iff.mp h
theorem rising_pw : ∀ (r : List Str) (p : Str), risingS p r = true → (p :: r).Pairwise leT
  | [], p, _ => .cons (fun _ h => nomatch h) .nil
  | x :: r, p, h => by
    unfold risingS at h
    rw [Bool.and_eq_true] at h
    have h1 : leT p x := by
      have := h.1
      rw [ltCps_eq] at this
      unfold leT
      simpa using this
    have ih := rising_pw r x h.2
    refine .cons (fun y hy => ?_) ih
    rcases List.mem_cons.mp hy with rfl | hy
    · exact h1
    · exact leT_trans h1 (List.rel_of_pairwise_cons ih hy)
theorem sortedS_pw : ∀ {ys : List Str}, sortedS ys = true → ys.Pairwise leT
  | [], _ => .nil
  | x :: r, h => rising_pw r x h
theorem sortT_eq {ys ks : List Str} (p : ys.Perm ks) (o : sortedS ys = true) : ys = sortT ks :=
  List.Perm.eq_of_pairwise (le := leT) (fun a b _ _ h1 h2 => leT_anti h1 h2) (sortedS_pw o) (sortT_pw ks) (p.trans (List.mergeSort_perm ks _).symm)
section
variable {W : Wd} {X : Cx} {Γ : List Sl} {n c c1 c2 : Nat} {φ : D → Prop} {e a b : Expr} {pos p : Pos} {d : D}
theorem keys_int {K : PySem.W.Frag} {R : Hp} {kvs : List (Key × V)} {kds : List (Key × D)} (r : RpK K R kvs kds) {κ : Type} {f : κ → Key} {ks : List κ} (h : kds.map (·.1) = ks.map f) : kvs.map (·.1) = ks.map f := by rw [r.keys, h]
/-- sorted(d), its keys integers -/
theorem ev_sortedDI {kds : List (Key × D)} {ks : List Int} (hc : X.calm = true) (hg : Gl X "sorted") (hm : Bn X "sorted") (ha : Ev W X a Γ c (Is (.dct kds))) (hk : kds.map (·.1) = ks.map Sum.inl) (h64 : ks.length < 64) (he : starEach [a] X.env = (false, eval a X.env) :: starEach [] X.env := by rfl) (hpl : (backTo pos (starEach [] X.env)).any (·.1) = false := by rfl) :
    Ev W X (.Call (.Name "sorted" p) [a] [] pos) Γ c (Is (.lst ((sortI ks).map .int))) := fun R0 H0 Rl σ R n H s hn Q k => by
  refine wE_of (pe_callB (call_sortedDI hc) hg hm PyProof.Rows.boot_sorted (pa_cons (wE_ok a) pa_nil he) (by decide) (by decide) he hpl) ?_
  refine ha R0 H0 Rl σ R n H s hn _ fun v R1 H1 d g j f r => ?_
  rw [show d = .dct kds from f] at r
  cases r with
  | @dct a kvs _ q0 r =>
    obtain ⟨o, q⟩ := q0
    refine ⟨a, kvs, ks, rfl, .inr ⟨o, g.rh _ _ q⟩, keys_int r hk, h64, fun ys l hp ho hl => ?_⟩
    obtain rfl := sortI_eq hp ho
    have g2 : Gr W0 R1 H1 (upd R1 l (.lst ((sortI ks).map V.int))) (upd H1 l (.lst ((sortI ks).map V.int))) := Gr.new g.rh hl
    exact k _ _ _ _ (g.trans g2.of0) (g2.j j) rfl (.lst (SqL.of upd_same) ints_rp)
/-- sorted(d), its keys texts -/
theorem ev_sortedD {kds : List (Key × D)} {ks : List Str} (hc : X.calm = true) (hg : Gl X "sorted") (hm : Bn X "sorted") (ha : Ev W X a Γ c (Is (.dct kds))) (hk : kds.map (·.1) = ks.map Sum.inr) (h64 : ks.length < 64) (he : starEach [a] X.env = (false, eval a X.env) :: starEach [] X.env := by rfl) (hpl : (backTo pos (starEach [] X.env)).any (·.1) = false := by rfl) :
    Ev W X (.Call (.Name "sorted" p) [a] [] pos) Γ c (Is (.lst ((sortT ks).map .str))) := fun R0 H0 Rl σ R n H s hn Q k => by
  refine wE_of (pe_callB (call_sortedD hc) hg hm PyProof.Rows.boot_sorted (pa_cons (wE_ok a) pa_nil he) (by decide) (by decide) he hpl) ?_
  refine ha R0 H0 Rl σ R n H s hn _ fun v R1 H1 d g j f r => ?_
  rw [show d = .dct kds from f] at r
  cases r with
  | @dct a kvs _ q0 r =>
    obtain ⟨o, q⟩ := q0
    refine ⟨a, kvs, ks, rfl, .inr ⟨o, g.rh _ _ q⟩, keys_int r hk, h64, fun ys l hp ho hl => ?_⟩
    obtain rfl := sortT_eq hp ho
    have g2 : Gr W0 R1 H1 (upd R1 l (.lst ((sortT ks).map V.str))) (upd H1 l (.lst ((sortT ks).map V.str))) := Gr.new g.rh hl
    exact k _ _ _ _ (g.trans g2.of0) (g2.j j) rfl (.lst (SqL.of upd_same) strs_rp)
/-- [] -/
theorem em_nil : EvM W X (.List [] pos) Γ 0 (fun sl => sl = .ml []) := fun R0 H0 Rl σ R n H s hn Q k => by
  refine wE_of (pe_lst pa_nil) ?_
  exact ⟨Nat.zero_le _, fun l hl => k l R _ (.ml []) (Gr.newM s.rh hl) (W.loc s.j fun b o _ e => by rw [upd_ne (ne_of_none e hl)]; exact e) hl ⟨[], s.rh.free hl, upd_same, .nil⟩ rfl⟩
end
end Qq
/-! Qv: max, min, list(range(n)). -/
namespace Qq
open PySem PySem.Spec PyProof.Rows L2
theorem rgV_rp {K : PySem.W.Frag} {R : Hp} (b : Int) : RpL K R (rgV 0 b) (rangeD 0 b.toNat) := by
  unfold rgV rangeD
  rw [Int.sub_zero]
  induction (List.range b.toNat) with
  | nil => exact .nil
  | cons i r ih => exact .cons (.int _) ih
section
variable {W : Wd} {X : Cx} {Γ : List Sl} {n c c1 c2 : Nat} {φ : D → Prop} {e a b : Expr} {pos p rp rpos : Pos} {d : D} {i j : Int}
abbrev rMax2 : List V → Hp → VK → Prop := fun xs H Q => ∃ i j, xs = [.int i, .int j] ∧ Q (.int (if j > i then j else i)) H
abbrev rMin2 : List V → Hp → VK → Prop := fun xs H Q => ∃ i j, xs = [.int i, .int j] ∧ Q (.int (if j < i then j else i)) H
theorem cd_max2 : CD X.K rMax2 [.int i, .int j] (.int (if j > i then j else i)) := fun vs R H Q hr r k => by
  cases r with | cons r t => cases t with | cons r2 t => cases t; cases r; cases r2; exact ⟨i, j, rfl, k _ R H (Gr.refl hr) (.int _)⟩
theorem cd_min2 : CD X.K rMin2 [.int i, .int j] (.int (if j < i then j else i)) := fun vs R H Q hr r k => by
  cases r with | cons r t => cases t with | cons r2 t => cases t; cases r; cases r2; exact ⟨i, j, rfl, k _ R H (Gr.refl hr) (.int _)⟩
theorem ev_max2 (hc : X.calm = true) (hg : Gl X "max") (hm : Bn X "max") (ha : EvS W X [a, b] Γ c (Is [.dat (.int i), .dat (.int j)])) (he : starEach [a, b] X.env = (false, eval a X.env) :: starEach [b] X.env := by rfl) (hpl : (backTo pos (starEach [b] X.env)).any (·.1) = false := by rfl) :
    Ev W X (.Call (.Name "max" p) [a, b] [] pos) Γ c (Is (.int (if j > i then j else i))) := ev_callB (call_max2 hc) hg hm (by decide +kernel) ha (cdn (ds := [.int i, .int j]) rfl cd_max2) (by decide) (by decide) he hpl
theorem ev_min2 (hc : X.calm = true) (hg : Gl X "min") (hm : Bn X "min") (ha : EvS W X [a, b] Γ c (Is [.dat (.int i), .dat (.int j)])) (he : starEach [a, b] X.env = (false, eval a X.env) :: starEach [b] X.env := by rfl) (hpl : (backTo pos (starEach [b] X.env)).any (·.1) = false := by rfl) :
    Ev W X (.Call (.Name "min" p) [a, b] [] pos) Γ c (Is (.int (if j < i then j else i))) := ev_callB (call_min2 hc) hg hm (by decide +kernel) ha (cdn (ds := [.int i, .int j]) rfl cd_min2) (by decide) (by decide) he hpl
/-- list(range(e)) -/
theorem ev_listRg (hc : X.calm = true) (hg : Gl X "list") (hm : Bn X "list") (hg2 : Gl X "range") (hm2 : Bn X "range") (ha : Ev W X a Γ c (Is (.int j))) (h0 : 0 ≤ j) (h1 : j ≤ 16777216) (na : starEach [.Call (.Name "range" rp) [a] [] rpos] X.env = (false, eval (.Call (.Name "range" rp) [a] [] rpos) X.env) :: starEach [] X.env := by rfl) (na2 : starEach [a] X.env = (false, eval a X.env) :: starEach [] X.env := by rfl) :
    Ev W X (.Call (.Name "list" p) [.Call (.Name "range" rp) [a] [] rpos] [] pos) Γ c (Is (.lst (rangeD 0 j.toNat))) := fun R0 H0 Rl σ R n H s hn Q k => by
  refine wE_of (pe_listRg hc hg hm (prg_1 hg2 hm2 (wE_ok a) na2) na) ?_
  refine ha R0 H0 Rl σ R n H s hn _ fun v R1 H1 d g j1 f r => ?_
  rw [show d = .int j from f] at r
  cases r
  refine ⟨j, rfl, RgOk.of_le (Int.le_refl 0) h1 (by decide) h0, fun l hl => ?_⟩
  have g2 : Gr W0 R1 H1 (upd R1 l (.lst (rgV 0 j))) (upd H1 l (.lst (rgV 0 j))) := Gr.new g.rh hl
  exact k _ _ _ _ (g.trans g2.of0) (g2.j j1) rfl (.lst (SqL.of upd_same) (rgV_rp j))
end
end Qq
/-! Qx: {e for .. in .. for .. in ..}, the members integers. -/
namespace Qq
open PySem PySem.Spec PyProof.Rows L2 PpSet
abbrev oSet (w : World) : Obj := { cls := .type "set", dict := none, data := .set #[] 0 (.fresh 0 0 (!w.params.followText "set-order")) }
abbrev noSet (w : World) (p : Addr) : HO := SetO w p (fun _ => false) 0
theorem addI_ok {X : Cx} {pn : List (Addr × Obj)} {σ : L2.St} {H : Hp} {s : Shared} {E : Value → Shared → Prop} {p : Addr} {S : Int → Bool} {l : Nat} {c : Int} {tk : Tok} {Q : Value → Shared → Prop} (I : Inv X pn σ H s) (hp : H p = some (SetO X.w p S l)) (room : l + 1 < scanBound)
    (k : ∀ z, Inv X pn σ (upd H p (SetO X.w p (fun j => S j || decide (j = c)) (if S c = true then l else l + 1))) z → Q .none z) : wpAny (model X.prog X.w) X.A (call (.builtin "set.add") [.ref p, .int c tk]) Q E s :=
  setR_add (setO_get I hp) room fun h2 sb new => k _ (I.write (e := p) (t' := s.toks + 1) (by rw [hp]; trivial) (.inl rfl) (fun b u hb hu => (sb.2 b hb).trans hu) (by have ⟨o, _, _, _, ho, _⟩ := new; exact ⟨o, ho⟩) (setO_new new))
theorem scTurn_o (el ta0 sr0 ta1 sr1 : Expr) (cs0 cs1 : List Expr) (sco : Scope) (ps : Pos) (itr into : Value) (ev : Env) :
    compTurn (.SetComp el [⟨ta0, sr0, cs0, 0⟩, ⟨ta1, sr1, cs1, 0⟩] sco ps) 0 itr into ev = (do
      standAt sr0.pos
      match ← pyNext itr with
      | none => pure (.done .next)
      | some v =>
        letOwnedTupleGo ta0 itr v
        assign ta0 ev v
        let mut bok := true
        for c in cs0 do
          if bok then bok ← isTrue c ev (eval c ev)
        if bok then
          let x ← eval sr1 ev
          standAt sr1.pos
          let x ← foldedSetIterable sr1 ev x
          let _ ← runOwn (.compStart (.SetComp el [⟨ta0, sr0, cs0, 0⟩, ⟨ta1, sr1, cs1, 0⟩] sco ps) 1 (← holding [x] (pyIter x)) into ev) ev
        again (.compLoop (.SetComp el [⟨ta0, sr0, cs0, 0⟩, ⟨ta1, sr1, cs1, 0⟩] sco ps) 0 itr into ev)) := by rfl
theorem scTurn_i (el ta0 sr0 ta1 sr1 : Expr) (cs0 cs1 : List Expr) (sco : Scope) (ps : Pos) (itr into : Value) (ev : Env) :
    compTurn (.SetComp el [⟨ta0, sr0, cs0, 0⟩, ⟨ta1, sr1, cs1, 0⟩] sco ps) 1 itr into ev = (do
      standAt sr1.pos
      match ← pyNext itr with
      | none => pure (.done .next)
      | some v =>
        letOwnedTupleGo ta1 itr v
        assign ta1 ev v
        let mut bok := true
        for c in cs1 do
          if bok then bok ← isTrue c ev (eval c ev)
        if bok then
          (do let y ← eval el ev; standAt el.pos; let _ ← call (.builtin "set.add") [into, y])
        again (.compLoop (.SetComp el [⟨ta0, sr0, cs0, 0⟩, ⟨ta1, sr1, cs1, 0⟩] sco ps) 1 itr into ev)) := by rfl

section
variable {prg : Program} {w : World} {A : Around} {Res : Result → Shared → Prop} {s : Shared} {el ta0 sr0 ta1 sr1 : Expr} {cs0 cs1 : List Expr} {sco : Scope} {ps : Pos} {itr into : Value} {ev : Env}
/-- the whole of the first clause -/
theorem scLoop_o (ofs : ∀ x, foldedSetIterable sr1 ev x = pure x) (I : Nat → Shared → Prop)
    (lap : ∀ n s, I n s → wpAny (model prg w) A (pyNext itr) (fun r z₁ => match r with
      | none => Res (.ok .next) z₁
      | some v => wpAny (model prg w) A (letOwnedTupleGo ta0 itr v) (fun _ s₁' => wpAny (model prg w) A (assign ta0 ev v) (fun _ z₂ =>
          wpAny (model prg w) A (forIn cs0 true fun c r => if r = true then do let bok ← isTrue c ev (eval c ev); pure (ForInStep.yield bok) else pure (ForInStep.yield r)) (fun bok z₃ =>
            if bok = true then wpAny (model prg w) A (eval sr1 ev) (fun x z₄ => wpAny (model prg w) A (pyIter x) (fun it1 z₅ =>
              codeAny (model prg w) A (.compStart (.SetComp el [⟨ta0, sr0, cs0, 0⟩, ⟨ta1, sr1, cs1, 0⟩] sco ps) 1 it1 into ev) (fun r z' => match r with
                | .ok _ => ∃ m, m < n ∧ I m z'
                | .error _ => False) z₅) (notedBy (model prg w) A ev fun e z' => Res (.error e) z') z₄) (notedBy (model prg w) A ev fun e z' => Res (.error e) z') z₃
            else ∃ m, m < n ∧ I m z₃) (notedBy (model prg w) A ev fun e z' => Res (.error e) z') z₂) (notedBy (model prg w) A ev fun e z' => Res (.error e) z') s₁') (notedBy (model prg w) A ev fun e z' => Res (.error e) z') z₁) (notedBy (model prg w) A ev fun e z' => Res (.error e) z') s)
    (n : Nat) (h : I n s) :
    codeAny (model prg w) A (.compLoop (.SetComp el [⟨ta0, sr0, cs0, 0⟩, ⟨ta1, sr1, cs1, 0⟩] sco ps) 0 itr into ev) Res s := by
  refine codeAny_loop rfl I (fun n s wI => ?_) n h
  show wpAny _ A ((compTurn (.SetComp el [⟨ta0, sr0, cs0, 0⟩, ⟨ta1, sr1, cs1, 0⟩] sco ps) 0 itr into ev).onRaise (fun x => do noteFrame x ev; theTreesLotGoes x)) _ _ s
  refine wpAny_noted ?_
  rw [scTurn_o]
  refine wpAny_bind (wpAny_standAt (wpAny_bind (wpAny_mono (lap n s wI) (fun r z₁ k₁ => ?_) fun _ _ k' => k')))
  cases r with
  | none => exact wpAny_pure k₁
  | some v =>
    refine wpAny_bind (wpAny_mono k₁ (fun _ s₁' h₁' => ?_) fun _ _ k' => k')
    refine wpAny_bind (wpAny_mono h₁' (fun _ z₂ k₂ => wpAny_bind (wpAny_mono k₂ (fun bok z₃ k₃ => ?_) fun _ _ k' => k')) fun _ _ k' => k')
    cases bok with
    | false => exact wpAny_pure ⟨rfl, k₃⟩
    | true =>
      refine wpAny_bind (wpAny_mono k₃ (fun x z₄ k₄ => ?_) fun _ _ k' => k')
      refine wpAny_bind (wpAny_standAt (wpAny_bind (wpAny_of_eq (ofs x) (wpAny_bind (wpAny_holding (wpAny_mono k₄ (fun it1 z₅ k₅ => ?_) fun _ _ k' => k'))))))
      refine wpAny_bind (wpAny_runOwn ?_)
      rw [Around.mark_none]
      refine codeAny_mono k₅ fun r z' hr => ?_
      cases r with
      | ok f =>
        first
          | exact wpAny_pure ⟨rfl, hr⟩
          | exact wpAny_bind (wpAny_pure (wpAny_pure ⟨rfl, hr⟩))
      | error e => exact hr.elim
/-- the whole of the second -/
theorem scLoop_i (I : Nat → Shared → Prop)
    (lap : ∀ n s, I n s → wpAny (model prg w) A (pyNext itr) (fun r z₁ => match r with
      | none => Res (.ok .next) z₁
      | some v => wpAny (model prg w) A (letOwnedTupleGo ta1 itr v) (fun _ s₁' => wpAny (model prg w) A (assign ta1 ev v) (fun _ z₂ =>
          wpAny (model prg w) A (forIn cs1 true fun c r => if r = true then do let bok ← isTrue c ev (eval c ev); pure (ForInStep.yield bok) else pure (ForInStep.yield r)) (fun bok z₃ =>
            if bok = true then wpAny (model prg w) A (eval el ev) (fun x z₄ =>
              wpAny (model prg w) A (call (.builtin "set.add") [into, x]) (fun _ z₅ => ∃ m, m < n ∧ I m z₅) (notedBy (model prg w) A ev fun e z' => Res (.error e) z') z₄) (notedBy (model prg w) A ev fun e z' => Res (.error e) z') z₃
            else ∃ m, m < n ∧ I m z₃) (notedBy (model prg w) A ev fun e z' => Res (.error e) z') z₂) (notedBy (model prg w) A ev fun e z' => Res (.error e) z') s₁') (notedBy (model prg w) A ev fun e z' => Res (.error e) z') z₁) (notedBy (model prg w) A ev fun e z' => Res (.error e) z') s)
    (n : Nat) (h : I n s) :
    codeAny (model prg w) A (.compLoop (.SetComp el [⟨ta0, sr0, cs0, 0⟩, ⟨ta1, sr1, cs1, 0⟩] sco ps) 1 itr into ev) Res s := by
  refine codeAny_loop rfl I (fun n s wI => ?_) n h
  show wpAny _ A ((compTurn (.SetComp el [⟨ta0, sr0, cs0, 0⟩, ⟨ta1, sr1, cs1, 0⟩] sco ps) 1 itr into ev).onRaise (fun x => do noteFrame x ev; theTreesLotGoes x)) _ _ s
  refine wpAny_noted ?_
  rw [scTurn_i]
  refine wpAny_bind (wpAny_standAt (wpAny_bind (wpAny_mono (lap n s wI) (fun r z₁ k₁ => ?_) fun _ _ k' => k')))
  cases r with
  | none => exact wpAny_pure k₁
  | some v =>
    refine wpAny_bind (wpAny_mono k₁ (fun _ s₁' h₁' => ?_) fun _ _ k' => k')
    refine wpAny_bind (wpAny_mono h₁' (fun _ z₂ k₂ => wpAny_bind (wpAny_mono k₂ (fun bok z₃ k₃ => ?_) fun _ _ k' => k')) fun _ _ k' => k')
    cases bok with
    | false => exact wpAny_pure ⟨rfl, k₃⟩
    | true =>
      exact wpAny_bind (wpAny_bind (wpAny_mono k₃ (fun x z₄ k₄ => wpAny_bind (wpAny_standAt (wpAny_bind (wpAny_mono k₄ (fun _ z₅ k₅ => wpAny_pure (wpAny_pure ⟨rfl, k₅⟩)) fun _ _ k' => k')))) fun _ _ k' => k'))
/-- the second clause's start -/
theorem scStart_i (h0 : codeAny (model prg w) A (.compLoop (.SetComp el [⟨ta0, sr0, cs0, 0⟩, ⟨ta1, sr1, cs1, 0⟩] sco ps) 1 itr into ev) Res s)
    (h : wpAny (model prg w) A (pyIter itr) (fun it' z' => codeAny (model prg w) A (.compLoop (.SetComp el [⟨ta0, sr0, cs0, 0⟩, ⟨ta1, sr1, cs1, 0⟩] sco ps) 1 it' into ev) Res z')
      (notedBy (model prg w) A ev fun x z' => Res (.error x) z') s) :
    codeAny (model prg w) A (.compStart (.SetComp el [⟨ta0, sr0, cs0, 0⟩, ⟨ta1, sr1, cs1, 0⟩] sco ps) 1 itr into ev) Res s := by
  refine codeAny_of_tree ?_
  show wpAny _ _ ((compStart (.SetComp el [⟨ta0, sr0, cs0, 0⟩, ⟨ta1, sr1, cs1, 0⟩] sco ps) 1 itr into ev).onRaise (fun x => do noteFrame x ev; standAt theWindowsPlace)) _ _ s
  refine wpAny_notedAt ?_
  unfold compStart
  show wpAny _ _ (ask >>= _) _ _ s
  refine wpAny_bind (wpAny_askSetting (wpAny_ite ?_))
  split
  · first
      | exact wpAny_bind (wpAny_pure (wpAny_pure (And.intro rfl h0)))
      | exact wpAny_pure (And.intro rfl h0)
  · first
      | exact wpAny_bind (wpAny_rule (wpAny_bind (wpAny_standAt (wpAny_bind (wpAny_mono h (fun it' z' k' => wpAny_pure (And.intro rfl k')) fun _ _ x => x)))))
      | (refine wpAny_bind (wpAny_rule ?_); show wpAny _ _ (standAt sr1.pos >>= _) _ _ s; exact wpAny_bind (wpAny_standAt (wpAny_bind (wpAny_mono h (fun it' z' k' => wpAny_pure (And.intro rfl k')) fun _ _ x => x))))
end

section
variable {X : Cx}
/-- [el for tgt in src if .. for tgt1 in src1 if ..]: behind the first clause's store and tests the second source's ows whole, from which Nx is reached. vs: the block's names; ws1: those of the second target -/
def tSc2 (w : World) (tiO : TI) (g : TG) (tt : TT) (tiI : TI) (gI : TG) (ttI : TT) (te : TE) (vs ws1 : List Nat) : TE := fun σ H Q => tiO σ H fun J H1 => ∀ dst, H1 dst = none → ∃ W : Nat → Nat → Hp → Prop, (∃ m, W 0 m (upd H1 dst (noSet w dst))) ∧ ∀ i m H, W i m H →
  (J.stop i H ∧ Q (.ref dst) H) ∨ (J.go i H ∧ ∃ Nx : Hp → Prop, (∀ H', Nx H' → ∃ m', m' < m ∧ W (i + 1) m' H') ∧ ∀ x H', J.yld i H x H' → g x (wipe σ vs) H' fun σ2 H2 => wipe σ2 vs = wipe σ vs ∧ tt σ2 H2 fun b G3 =>
    if b = true then tiI σ2 G3 fun J1 H4 => ∃ W1 : Nat → Nat → Hp → Prop, (∃ m, W1 0 m H4) ∧ ∀ j k H, W1 j k H →
      (J1.stop j H ∧ Nx H) ∨ (J1.go j H ∧ ∃ Nx1 : Hp → Prop, (∀ H', Nx1 H' → ∃ k', k' < k ∧ W1 (j + 1) k' H') ∧ ∀ x H', J1.yld j H x H' → gI x (wipe σ2 ws1) H' fun σ3 G5 => wipe σ3 ws1 = wipe σ2 ws1 ∧ ttI σ3 G5 fun b H6 =>
        if b = true then te σ3 H6 fun y G7 => ∃ (c : Int) (S : Int → Bool) (l : Nat), y = .int c ∧ G7 dst = some (SetO w dst S l) ∧ l + 1 < scanBound ∧ Nx1 (upd G7 dst (SetO w dst (fun j => S j || decide (j = c)) (if S c = true then l else l + 1))) else Nx1 H6)
    else Nx G3)
theorem sc2_core {pn : List (Addr × Obj)} {s : Shared} {σ : L2.St} {H : Hp} {Q : VK} {el tgt src tgt1 src1 : Expr} {cds cs1 : List Expr} {sco : Scope} {ows : List (Str × Nat)} {ws1 : List Nat} {ps pos' : Pos} {tiO tiI : TI} {g gI : TG} {tt ttI : TT} {te : TE} {usf : Option (Value → Sem Unit)} {Qz : Value → Shared → Prop}
    (cal : X.calm = true) (ndp : X.N.Nodup) (I : Inv X pn σ H s) (oi : PI X tgt src tiO) (bok : BlkOk X.N X.env.scope sco ows) (mv : ∀ i ∈ ws1, i ∈ ows.map (·.2))
    (og : ∀ (s : Shared) (H : Hp) (C : Addr) (cl : List (Str × Addr)) (fq : List Addr), PG (L2.Cx.blk X s H sco (compEnvC sco cl C X.env) fq) tgt g) (ot : ∀ (s : Shared) (H : Hp) (C : Addr) (cl : List (Str × Addr)) (fq : List Addr), PTs (L2.Cx.blk X s H sco (compEnvC sco cl C X.env) fq) cds tt)
    (oe : ∀ (s : Shared) (H : Hp) (C : Addr) (cl : List (Str × Addr)) (fq : List Addr), PE (L2.Cx.blk X s H sco (compEnvC sco cl C X.env) fq) el te) (ofs : ∀ x, foldedSetIterable src X.env x = pure x)
    (oi1 : ∀ (s : Shared) (H : Hp) (C : Addr) (cl : List (Str × Addr)) (fq : List Addr), PI (L2.Cx.blk X s H sco (compEnvC sco cl C X.env) fq) tgt1 src1 tiI)
    (og1 : ∀ (s : Shared) (H : Hp) (C : Addr) (cl : List (Str × Addr)) (fq : List Addr), PG (L2.Cx.blk X s H sco (compEnvC sco cl C X.env) fq) tgt1 gI)
    (ot1 : ∀ (s : Shared) (H : Hp) (C : Addr) (cl : List (Str × Addr)) (fq : List Addr), PTs (L2.Cx.blk X s H sco (compEnvC sco cl C X.env) fq) cs1 ttI)
    (ofs1 : ∀ ev x, foldedSetIterable src1 ev x = pure x)
    (h : tSc2 X.w tiO g tt tiI gI ttI te (ows.map (·.2)) ws1 σ H Q)
    (hend : ∀ dst C z' m H', Inv X pn σ H' z' → Q (.ref dst) H' → z'.heap.Ns C m → FpOk X pn H' C → compPost (model X.prog X.w) X.A X.xe usf Qz (.ref dst) C (.ok .next) z') :
    wpAny (model X.prog X.w) X.A (comprehension (.SetComp el [⟨tgt, src, cds, 0⟩, ⟨tgt1, src1, cs1, 0⟩] sco ps) sco X.env pos' (newSet (.type "set")) false (eval src X.env) usf) Qz X.xe s := by
  have hfr : ∀ y ∈ sco.names, y.2 = .free → ∃ c, X.env.cells.lookup y.1 = some c := fun y hy e => by
    rcases bok.free y hy e with k | k
    · exact I.ok.has _ (.inl k)
    · exact I.ok.has _ (.inr k)
  refine wpAny_comprehension_free (use := usf) rfl ofs (closure_ok hfr) bok.kind (fun y hy e => by rw [bok.uniq y hy, e])
    (thn (oi.run pn s σ H _ I h) fun xv s1 hx => thn hx fun itv s2 h2 => ?_)
  obtain ⟨itr, fq, tq, J, H2, e, I2, T, st2, f2, q⟩ := h2
  subst e
  refine newSet_ok (newEnv_comp ?_)
  generalize hds : s2.heap.objs.size = dst
  have hdn : H2 dst = none := I2.hok.fresh (Nat.le_of_eq hds)
  obtain ⟨W, ⟨n0, wn0⟩, lap⟩ := q dst hdn
  -- the new list
  generalize hs3 : ({ s2 with heap := s2.heap.push (oSet X.w) } : Shared) = z3
  have J3 : Inv X pn σ (upd H2 dst (noSet X.w dst)) z3 := by
    rw [← hs3]
    refine I2.laid (t' := s2.toks) (fun b o e => Heap.get?_push_of_some _ e) (Nat.le_of_eq hds) ?_
    rw [← hds]
    exact setO_new (setR_fresh X.w)
  have h3 : z3.heap = s2.heap.push (oSet X.w) := by rw [← hs3]
  have sz : ∀ b ∈ fq, b < s2.heap.objs.size := fun b hb => by
    obtain ⟨o, e, _⟩ := T.obj _ _ st2 b hb
    exact Heap.lt_size e
  have f3 : ∀ b ∈ fq, FpOk X pn (upd H2 dst (noSet X.w dst)) b ∧ b < z3.heap.objs.size := fun b hb => by
    have hlt := sz b hb
    refine ⟨⟨?_, (f2 b hb).2⟩, by rw [h3, Heap.size_push]; exact Nat.lt_succ_of_lt hlt⟩
    rw [upd_ne (by rw [← hds]; exact Nat.ne_of_lt hlt)]
    exact (f2 b hb).1
  have sq3 : tq 0 z3.heap := T.keep _ _ _ st2 fun b _ o e => by rw [h3]; exact Heap.get?_push_of_some _ e
  have J4 := block_start J3 bok ndp f3
  have pg := og z3 (upd H2 dst (noSet X.w dst)) z3.heap.objs.size (cellsFrom (z3.heap.objs.size + 1) sco.names (cloFrom X.env.cells sco.names [])) fq
  have pt := ot z3 (upd H2 dst (noSet X.w dst)) z3.heap.objs.size (cellsFrom (z3.heap.objs.size + 1) sco.names (cloFrom X.env.cells sco.names [])) fq
  have pe := oe z3 (upd H2 dst (noSet X.w dst)) z3.heap.objs.size (cellsFrom (z3.heap.objs.size + 1) sco.names (cloFrom X.env.cells sco.names [])) fq
  have pi1 := oi1 z3 (upd H2 dst (noSet X.w dst)) z3.heap.objs.size (cellsFrom (z3.heap.objs.size + 1) sco.names (cloFrom X.env.cells sco.names [])) fq
  have pg1 := og1 z3 (upd H2 dst (noSet X.w dst)) z3.heap.objs.size (cellsFrom (z3.heap.objs.size + 1) sco.names (cloFrom X.env.cells sco.names [])) fq
  have pt1 := ot1 z3 (upd H2 dst (noSet X.w dst)) z3.heap.objs.size (cellsFrom (z3.heap.objs.size + 1) sco.names (cloFrom X.env.cells sco.names [])) fq
  show codeAny _ _ (.compStart (.SetComp el [⟨tgt, src, cds, 0⟩, ⟨tgt1, src1, cs1, 0⟩] sco ps) 0 (.ref itr) (.ref dst) (compEnvC sco (cellsFrom (z3.heap.objs.size + 1) sco.names (cloFrom X.env.cells sco.names [])) z3.heap.objs.size X.env)) (compPost (model X.prog X.w) X.A X.xe usf Qz (.ref dst) z3.heap.objs.size) { z3 with heap := pushCells (z3.heap.push { cls := .type "dict", data := .dict #[] }) sco.names }
  have fpN : ∀ b ∈ fq, (upd H2 dst (noSet X.w dst)) b = none := fun b hb => (f3 b hb).1.1
  generalize hcenv : compEnvC sco (cellsFrom (z3.heap.objs.size + 1) sco.names (cloFrom X.env.cells sco.names [])) z3.heap.objs.size X.env = cenv at J4 pg pt pe pi1 pg1 pt1 ⊢
  have cL : cenv.locals = z3.heap.objs.size := by subst hcenv; rfl
  generalize hH3 : upd H2 dst (noSet X.w dst) = G3 at J3 J4 pg pt pe pi1 pg1 pt1 wn0 fpN f3
  generalize hs4 : ({ z3 with heap := pushCells (z3.heap.push { cls := .type "dict", data := .dict #[] }) sco.names } : Shared) = z4 at J4 ⊢
  have sq4 : tq 0 z4.heap := T.keep _ _ _ sq3 fun b _ o e => by rw [← hs4]; exact pushCells_keeps _ _ _ _ (Heap.get?_push_of_some _ e)
  have fpOf : ∀ {σ' : L2.St} {H' : Hp} {z' : Shared}, Inv (L2.Cx.blk X z3 G3 sco cenv fq) [] σ' H' z' → (∀ b ∈ fq, H' b = none) → ∀ b ∈ fq, FpOk (L2.Cx.blk X z3 G3 sco cenv fq) [] H' b := fun {σ' H' z'} I' hn b hb =>
    ⟨hn b hb, (I'.ok.exf b hb).1, I'.ok.exfs b hb, .inl hb, fun x c e => (I'.ok.exf b hb).2 x c e, fun p hp => absurd (show p ∈ ([] : List (Addr × Obj)) ++ [] from hp) (by simp)⟩
  have whole : codeAny (model X.prog X.w) X.A (.compLoop (.SetComp el [⟨tgt, src, cds, 0⟩, ⟨tgt1, src1, cs1, 0⟩] sco ps) 0 (.ref itr) (.ref dst) cenv) (compPost (model X.prog X.w) X.A X.xe usf Qz (.ref dst) z3.heap.objs.size) z4 := by
    refine scLoop_o (ofs1 cenv) (fun n z' => ∃ i H', Inv (L2.Cx.blk X z3 G3 sco cenv fq) [] (wipe σ (ows.map (·.2))) H' z' ∧ tq i z'.heap ∧ (∀ b ∈ fq, H' b = none) ∧ W i n H') ?_ n0 ⟨0, G3, J4, sq4, fpN, wn0⟩
    rintro n z5 ⟨i, G5, J5, sq5, fn5, wn5⟩
    rcases lap i n G5 wn5 with ⟨stop, qq⟩ | ⟨go, Nx, hNx, step⟩
    · have td := T.done (L2.Cx.blk X z3 G3 sco cenv fq) rfl rfl rfl cal i [] z5 _ G5 (fun _ _ => False) J5 (fpOf J5 fn5) sq5 stop
      refine thnF td fun r z6 ⟨hr, J6⟩ => ?_
      subst hr
      -- back in the def's context
      have J7 : Inv X pn σ G5 z6 := J3.call' (ch := fq) J6.os J6.base J6.hok J6.bare fun b hb => ⟨(f3 b hb).1.2.2.2.1, (f3 b hb).1.2.1, (f3 b hb).1.2.2.2.2.1, (f3 b hb).1.2.2.2.2.2⟩
      have nC : G5 z3.heap.objs.size = none := by
        have z : G5 cenv.locals = none := J6.free
        rw [cL] at z
        exact z
      obtain ⟨m, hn, _⟩ := J6.loc
      have hn : z6.heap.Ns cenv.locals m := hn
      rw [cL] at hn
      exact hend dst z3.heap.objs.size z6 m G5 J7 qq hn (J3.fpOk (Nat.le_refl _) nC)
    · have ti := T.item (L2.Cx.blk X z3 G3 sco cenv fq) rfl rfl rfl cal i [] z5 _ G5 (fun _ _ => False) J5 (fpOf J5 fn5) sq5 go
      refine thnF ti fun r z6 ⟨u, hr, h6⟩ => ?_
      subst hr
      refine thnF h6 fun _ z7 ⟨x, G7, J7, r7, y7, sq7, n7⟩ => ?_
      have I7' := J7.pinned (fpOf J7 n7) (T.obj _ _ sq7)
      refine thnF (pg.run _ z7 _ G7 x u _ I7' r7 (step x G7 y7)) fun _ z8 ⟨τ8, G8, I8, hw8, q8⟩ => ?_
      refine thnF (pt.run _ z8 τ8 G8 _ I8 q8) fun b z9 ⟨G9, I9, q9⟩ => ?_
      -- the turn's end, from any slots that know what the block knew at its start
      have lapEnd : ∀ {τ9 : L2.St} {z' : Shared} {H' : Hp}, Inv (L2.Cx.blk X z3 G3 sco cenv fq) ([] ++ pinsAt fq z7.heap) τ9 H' z' → (wipe σ (ows.map (·.2))).length = τ9.length → (∀ (j : Nat) v, (wipe σ (ows.map (·.2)))[j]? = some (some v) → τ9[j]? = some (some v)) → Nx H' →
          ∃ m, m < n ∧ ∃ i H', Inv (L2.Cx.blk X z3 G3 sco cenv fq) [] (wipe σ (ows.map (·.2))) H' z' ∧ tq i z'.heap ∧ (∀ b ∈ fq, H' b = none) ∧ W i m H' := fun {τ9 z' H'} I' hl hk nx => by
        obtain ⟨m', hm, w'⟩ := hNx H' nx
        have pinK : ∀ b ∈ fq, ∀ o, z7.heap.get? b = some o → z'.heap.get? b = some o ∧ H' b = none := fun b hb o e =>
          let z := I'.pin (b, o) (List.mem_append_right _ (List.mem_append_right _ (mem_pinsAt hb e)))
          ⟨z.1, z.2.1⟩
        refine ⟨m', hm, i + 1, H', (I'.unpinned (pins := [])).weak hl hk, T.keep _ _ _ sq7 fun b hb o e => (pinK b hb o e).1, fun b hb => ?_, w'⟩
        obtain ⟨o, e, _⟩ := T.obj _ _ sq7 b hb
        exact (pinK b hb o e).2
      have len8 : (wipe σ (ows.map (·.2))).length = τ8.length := by rw [← hw8, wipe_length]
      have kp8 : ∀ (j : Nat) v, (wipe σ (ows.map (·.2)))[j]? = some (some v) → τ8[j]? = some (some v) := fun j v e => by
        rw [← hw8] at e
        exact (wipe_some e).1
      have kp9 : ∀ (j : Nat) v, (wipe σ (ows.map (·.2)))[j]? = some (some v) → (wipe τ8 ws1)[j]? = some (some v) := fun j v e => by
        rw [← hw8] at e
        obtain ⟨e1, e2⟩ := wipe_some e
        rw [wipe_out fun z => e2 (mv j z)]
        exact e1
      cases b with
      | false =>
        simp only [Bool.false_eq_true, if_false] at q9 ⊢
        exact lapEnd I9 len8 kp8 q9
      | true =>
        simp only [if_true] at q9 ⊢
        refine thnF (pi1.run _ z9 τ8 G9 _ I9 q9) fun xv s10 hx => thnF hx fun itv s11 h11 => ?_
        obtain ⟨it1, fq1, tq1, J1, H11, e1, I11, T1, st11, f11, W1, ⟨n1, wn1⟩, turn1⟩ := h11
        subst e1
        -- the inner whole
        have fpOf1 : ∀ {H' : Hp}, (∀ b ∈ fq1, H' b = none) → ∀ b ∈ fq1, FpOk (L2.Cx.blk X z3 G3 sco cenv fq) ([] ++ pinsAt fq z7.heap) H' b := fun hn b hb => ⟨hn b hb, (f11 b hb).2⟩
        have whole1 : codeAny (model X.prog X.w) X.A (.compLoop (.SetComp el [⟨tgt, src, cds, 0⟩, ⟨tgt1, src1, cs1, 0⟩] sco ps) 1 (.ref it1) (.ref dst) cenv)
            (fun r z' => match r with
              | .ok _ => ∃ m, m < n ∧ ∃ i H', Inv (L2.Cx.blk X z3 G3 sco cenv fq) [] (wipe σ (ows.map (·.2))) H' z' ∧ tq i z'.heap ∧ (∀ b ∈ fq, H' b = none) ∧ W i m H'
              | .error _ => False) s11 := by
          refine scLoop_i (fun k z' => ∃ j H', Inv (L2.Cx.blk X z3 G3 sco cenv fq) ([] ++ pinsAt fq z7.heap) (wipe τ8 ws1) H' z' ∧ tq1 j z'.heap ∧ (∀ b ∈ fq1, H' b = none) ∧ W1 j k H') ?_ n1 ⟨0, H11, I11.weak (wipe_length _ _) (fun j v e => (wipe_some e).1), st11, fun b hb => (f11 b hb).1, wn1⟩
          rintro k s12 ⟨j, H12, I12, st12, n12, w12⟩
          rcases turn1 j k H12 w12 with ⟨stop1, nx1⟩ | ⟨go1, Nx1, hNx1, step1⟩
          · refine thnF (T1.done (L2.Cx.blk X z3 G3 sco cenv fq) rfl rfl rfl cal j _ s12 (wipe τ8 ws1) H12 (fun _ _ => False) I12 (fpOf1 n12) st12 stop1) fun r s13 ⟨hr, I13⟩ => ?_
            subst hr
            exact lapEnd I13 (len8.trans (wipe_length τ8 ws1).symm) kp9 nx1
          · refine thnF (T1.item (L2.Cx.blk X z3 G3 sco cenv fq) rfl rfl rfl cal j _ s12 (wipe τ8 ws1) H12 (fun _ _ => False) I12 (fpOf1 n12) st12 go1) fun r s13 ⟨u1, hr, h13⟩ => ?_
            subst hr
            refine thnF h13 fun _ s14 ⟨x1, H14, I14, r14, y14, st14, n14⟩ => ?_
            have I14' := I14.pinned (fpOf1 n14) (T1.obj _ _ st14)
            refine thnF (pg1.run _ s14 (wipe τ8 ws1) H14 x1 u1 _ I14' r14 (step1 x1 H14 y14)) fun _ s15 ⟨σ15, H15, I15, hw15, q15⟩ => ?_
            refine thnF (pt1.run _ s15 σ15 H15 _ I15 q15) fun b1 s16 ⟨H16, I16, q16⟩ => ?_
            have lapEnd1 : ∀ {z' : Shared} {H' : Hp}, Inv (L2.Cx.blk X z3 G3 sco cenv fq) (([] ++ pinsAt fq z7.heap) ++ pinsAt fq1 s14.heap) σ15 H' z' → Nx1 H' → ∃ m, m < k ∧ ∃ j H', Inv (L2.Cx.blk X z3 G3 sco cenv fq) ([] ++ pinsAt fq z7.heap) (wipe τ8 ws1) H' z' ∧ tq1 j z'.heap ∧ (∀ b ∈ fq1, H' b = none) ∧ W1 j m H' := fun {z' H'} I' nx => by
              obtain ⟨m', hm, w'⟩ := hNx1 H' nx
              have pinK : ∀ b ∈ fq1, ∀ o, s14.heap.get? b = some o → z'.heap.get? b = some o ∧ H' b = none := fun b hb o e =>
                let z := I'.pin (b, o) (List.mem_append_right _ (List.mem_append_right _ (mem_pinsAt hb e)))
                ⟨z.1, z.2.1⟩
              refine ⟨m', hm, j + 1, H', I'.unpinned.weak (by rw [← hw15, wipe_length]) (fun j v e => by rw [← hw15] at e; exact (wipe_some e).1), T1.keep _ _ _ st14 fun b hb o e => (pinK b hb o e).1, fun b hb => ?_, w'⟩
              obtain ⟨o, e, _⟩ := T1.obj _ _ st14 b hb
              exact (pinK b hb o e).2
            cases b1 with
            | false =>
              simp only [Bool.false_eq_true, if_false] at q16 ⊢
              exact lapEnd1 I16 q16
            | true =>
              simp only [if_true] at q16 ⊢
              refine thnF (pe.run _ s16 σ15 H16 _ I16 q16) fun z s17 ⟨yv, H17, I17, r17, cv, S17, l17, ey, hD17, hz17, nx⟩ => ?_
              subst ey
              obtain ⟨tk, rfl⟩ := r17
              exact addI_ok (X := L2.Cx.blk X z3 G3 sco cenv fq) I17 hD17 hz17 fun s18 I18 => lapEnd1 I18 nx
        exact scStart_i whole1 (T1.self X.A 0 _ _ _ st11 whole1)
  exact codeAny_compStart_set whole (T.self X.A 0 _ _ _ sq4 whole)
/-- as a value -/
theorem pe_sc2 {el tgt src tgt1 src1 : Expr} {cds cs1 : List Expr} {sco : Scope} {ows : List (Str × Nat)} {ws1 : List Nat} {ps : Pos} {tiO tiI : TI} {g gI : TG} {tt ttI : TT} {te : TE} (cal : X.calm = true) (ndp : X.N.Nodup) (oi : PI X tgt src tiO) (bok : BlkOk X.N X.env.scope sco ows) (mv : ∀ i ∈ ws1, i ∈ ows.map (·.2))
    (og : ∀ (s : Shared) (H : Hp) (C : Addr) (cl : List (Str × Addr)) (fq : List Addr), PG (L2.Cx.blk X s H sco (compEnvC sco cl C X.env) fq) tgt g) (ot : ∀ (s : Shared) (H : Hp) (C : Addr) (cl : List (Str × Addr)) (fq : List Addr), PTs (L2.Cx.blk X s H sco (compEnvC sco cl C X.env) fq) cds tt)
    (oi1 : ∀ (s : Shared) (H : Hp) (C : Addr) (cl : List (Str × Addr)) (fq : List Addr), PI (L2.Cx.blk X s H sco (compEnvC sco cl C X.env) fq) tgt1 src1 tiI)
    (og1 : ∀ (s : Shared) (H : Hp) (C : Addr) (cl : List (Str × Addr)) (fq : List Addr), PG (L2.Cx.blk X s H sco (compEnvC sco cl C X.env) fq) tgt1 gI) (ot1 : ∀ (s : Shared) (H : Hp) (C : Addr) (cl : List (Str × Addr)) (fq : List Addr), PTs (L2.Cx.blk X s H sco (compEnvC sco cl C X.env) fq) cs1 ttI)
    (oe : ∀ (s : Shared) (H : Hp) (C : Addr) (cl : List (Str × Addr)) (fq : List Addr), PE (L2.Cx.blk X s H sco (compEnvC sco cl C X.env) fq) el te) (ofs : ∀ x, foldedSetIterable src X.env x = pure x := by intro _; rfl) (ofs1 : ∀ ev x, foldedSetIterable src1 ev x = pure x := by intro _ _; rfl) :
    PE X (.SetComp el [⟨tgt, src, cds, 0⟩, ⟨tgt1, src1, cs1, 0⟩] sco ps) (tSc2 X.w tiO g tt tiI gI ttI te (ows.map (·.2)) ws1) := by
  refine ⟨fun pn s σ H Q I h => ?_⟩
  rw [eval_SetComp]
  refine sc2_core cal ndp I oi bok mv og ot oe ofs oi1 og1 ot1 ofs1 h fun dst C z' m H' I' q hn f => ⟨m, hn, fun h'' sb => ?_⟩
  obtain ⟨f0, f1, f2, f3, f4, f5⟩ := f
  exact ⟨.ref dst, H', I'.turned (t' := z'.toks) (fun b o hb e => (sb.2 b hb).trans e) f0 f1 f3 f4 f5, rfl, q⟩
end
end Qq
/-! Qy: sorted({e for .. in .. for .. in ..}) of integers; ascending lists. -/
namespace Qq
open PySem PySem.Spec PyProof.Rows L2
/-! ### ascending lists -/
def ddp : List Int → List Int
  | [] => []
  | x :: l => if x ∈ ddp l then ddp l else x :: ddp l
theorem ddp_mem : ∀ {l : List Int} {k : Int}, k ∈ ddp l ↔ k ∈ l
  | [], _ => Iff.rfl
  | x :: l, k => by
    have ih := @ddp_mem l
    unfold ddp
    split
    · rename_i h
      rw [ih] at h ⊢
      constructor
      · exact fun z => List.mem_cons_of_mem _ z
      · intro z
        rcases List.mem_cons.mp z with rfl | z
        · exact h
        · exact z
    · rw [List.mem_cons, List.mem_cons, ih]
theorem ddp_nd : ∀ (l : List Int), (ddp l).Nodup
  | [] => List.nodup_nil
  | x :: l => by
    have ih := ddp_nd l
    unfold ddp
    split
    · exact ih
    · rename_i h
      exact List.nodup_cons.mpr ⟨h, ih⟩
/-- the members, ascending, each once -/
def asc (l : List Int) : List Int := sortI (ddp l)
theorem asc_mem {l : List Int} {k : Int} : k ∈ asc l ↔ k ∈ l := ((List.mergeSort_perm _ _).mem_iff).trans ddp_mem
theorem asc_nd (l : List Int) : (asc l).Nodup := (List.mergeSort_perm _ _).nodup_iff.mpr (ddp_nd l)
theorem asc_lt (l : List Int) : (asc l).Pairwise (· < ·) := L2.lt_of_le_nodup _ (sortI_pw _) (asc_nd l)
theorem asc_uniq : ∀ {a b : List Int}, a.Pairwise (· < ·) → b.Pairwise (· < ·) → (∀ k, k ∈ a ↔ k ∈ b) → a = b
  | [], [], _, _, _ => rfl
  | [], y :: b, _, _, h => nomatch (h y).mpr List.mem_cons_self
  | x :: a, [], _, _, h => nomatch (h x).mp List.mem_cons_self
  | x :: a, y :: b, h1, h2, h => by
    obtain ⟨p1, p2⟩ := List.pairwise_cons.mp h1
    obtain ⟨q1, q2⟩ := List.pairwise_cons.mp h2
    have e : x = y := by
      rcases List.mem_cons.mp ((h x).mp List.mem_cons_self) with e | e
      · exact e
      · have l1 := q1 x e
        rcases List.mem_cons.mp ((h y).mpr List.mem_cons_self) with e2 | e2
        · exact e2.symm
        · have l2 := p1 y e2
          omega
    subst e
    refine congrArg (x :: ·) (asc_uniq p2 q2 fun k => ⟨fun z => ?_, fun z => ?_⟩)
    · rcases List.mem_cons.mp ((h k).mp (List.mem_cons_of_mem _ z)) with e | e
      · have := p1 k z; omega
      · exact e
    · rcases List.mem_cons.mp ((h k).mpr (List.mem_cons_of_mem _ z)) with e | e
      · have := q1 k z; omega
      · exact e
theorem asc_eq {ns l : List Int} (h : ns.Pairwise (· < ·)) (m : ∀ k, k ∈ ns ↔ k ∈ l) : ns = asc l := asc_uniq h (asc_lt l) fun k => (m k).trans asc_mem.symm
theorem asc_ext {l m : List Int} (h : ∀ k, k ∈ l ↔ k ∈ m) : asc l = asc m := asc_uniq (asc_lt l) (asc_lt m) fun k => (asc_mem.trans (h k)).trans asc_mem.symm
theorem nd_len : ∀ {ns pool : List Int}, ns.Nodup → (∀ k ∈ ns, k ∈ pool) → ns.length ≤ pool.length
  | [], _, _, _ => Nat.zero_le _
  | x :: ns, pool, h, m => by
    obtain ⟨h1, h2⟩ := List.nodup_cons.mp h
    have hx := m x List.mem_cons_self
    have := nd_len (pool := pool.erase x) h2 fun k hk => (List.mem_erase_of_ne (fun e : k = x => h1 (by rw [← e]; exact hk))).mpr (m k (List.mem_cons_of_mem _ hk))
    rw [List.length_erase_of_mem hx] at this
    have h0 : 0 < pool.length := List.length_pos_of_mem hx
    rw [List.length_cons]; omega
theorem asc_len {l pool : List Int} (h : ∀ k ∈ l, k ∈ pool) : (asc l).length ≤ pool.length := nd_len (asc_nd l) fun k hk => h k (asc_mem.mp hk)
/-! ### walks -/
theorem walk_it {J : It} {n : Nat} {G : Hp → Prop} {Y : Nat → Hp → V → Hp → Prop} (w : Walk J n G Y) {H0 : Hp} {Qd : Hp → Prop} {Body : V → Hp → (Hp → Prop) → Prop} (Pv : Nat → Hp → Prop) (h0 : Pv 0 H0) (hG : ∀ i H, i ≤ n → Pv i H → G H)
    (hs : ∀ i x H H', i < n → Pv i H → Y i H x H' → Body x H' (Pv (i + 1))) (hd : ∀ H, Pv n H → Qd H) :
    ∃ Wl : Nat → Nat → Hp → Prop, (∃ m, Wl 0 m H0) ∧ ∀ i m H, Wl i m H → (J.stop i H ∧ Qd H) ∨ (J.go i H ∧ ∃ Nx : Hp → Prop, (∀ H', Nx H' → ∃ m', m' < m ∧ Wl (i + 1) m' H') ∧ ∀ x H', J.yld i H x H' → Body x H' Nx) := by
  refine ⟨fun i m H => m + i = n ∧ Pv i H, ⟨n, rfl, h0⟩, fun i m H ⟨e, p⟩ => ?_⟩
  have q := hG i H (by omega) p
  by_cases hlt : i < n
  · exact .inr ⟨w.goes i H hlt q, Pv (i + 1), fun H' p' => ⟨m - 1, by omega, by omega, p'⟩, fun x H' y => hs i x H H' hlt p (w.yields i H x H' hlt q y)⟩
  · have e2 : i = n := by omega
    subst e2
    exact .inl ⟨w.stops H q, hd H p⟩
theorem BsR.mono {K : PySem.W.Frag} {R R' : Hp} (e : Same R R') : ∀ {bs : List (Nat × V)} {as : List (Nat × D)}, BsR K R bs as → BsR K R' bs as
  | _, _, .nil => .nil
  | _, _, .cons r t => .cons (r.mono e) (BsR.mono e t)
/-! ### to the world that changes nothing -/
def NoM (Γ : List Sl) : Prop := ∀ s ∈ Γ, s.isM = false
theorem nom_of {Γ : List Sl} (h : (Γ.all fun s => !s.isM) = true) : NoM Γ := fun s hs => by simpa using List.all_eq_true.mp h s hs
theorem NoM.at {Γ : List Sl} (h : NoM Γ) {i : Nat} {s : Sl} (e : Γ[i]? = some s) : s.isM = false := h s (List.mem_of_getElem? e)
/-- from here on -/
theorem So.rebase {W : Wd} {K : PySem.W.Frag} {R0 H0 Rl R H : Hp} {Γ : List Sl} {n : Nat} {σ : L2.St} (W' : Wd) (nm : NoM Γ) (s : So W K R0 H0 Rl Γ R n σ H) (rb : ∀ b, W'.B b → R b = none) (j : W'.J n H) : So W' K R H R Γ R n σ H :=
  ⟨Gr.refl s.rh, Same.refl R, rb, j, s.env.len, fun i t o a b => by
    have z := s.env.ok i t o a b
    cases t with
    | un => trivial
    | dat d => exact z
    | at_ a => exact z
    | ml ds => exact absurd (nm.at a) (by simp [Sl.isM])
    | md ds => exact absurd (nm.at a) (by simp [Sl.isM]), s.env.dis⟩
section
variable {W : Wd} {X : Cx} {Γ : List Sl} {n c c1 c2 : Nat} {φ : D → Prop} {e a b : Expr} {pos p : Pos} {d : D}
theorem ev_up (nm : NoM Γ) (h : Ev W0 X e Γ 0 φ) : Ev W X e Γ c φ := fun R0 H0 Rl σ R n H s hn Q k => by
  refine h R H R σ R n H (s.rebase W0 nm (fun b z => z.elim) trivial) (by omega) _ fun v R' H' d g j f r => ?_
  exact k v R' H' d g.of0 (W.mono (g.j s.j) (by omega)) f r
/-- less is said of a value -/
theorem ev_via {d' : D} (h : Ev W X e Γ c (Is d)) (m : ∀ R v, Rp X.K R v d → Rp X.K R v d') : Ev W X e Γ c (Is d') := fun R0 H0 Rl σ R n H s hn Q k => h R0 H0 Rl σ R n H s hn Q fun v R' H' x g j f r => k v R' H' d' g j rfl (m R' v (by rw [← show x = d from f]; exact r))
/-- the set that is made: its members are keys -/
def SInv (w : World) (R1 H1 : Hp) (p : Addr) (keys : List Int) (H' : Hp) : Prop := ∃ R' S ns, Gr W0 R1 H1 R' H' ∧ R' p = none ∧ H' p = some (SetO w p S (List.length ns)) ∧ List.Nodup ns ∧ (∀ k, S k = true ↔ k ∈ ns) ∧ ∀ k, k ∈ ns ↔ k ∈ keys
theorem take_flat {α β : Type} {xs : List α} {i : Nat} {d : α} (kf : α → List β) (h : xs[i]? = some d) : (xs.take (i + 1)).flatMap kf = (xs.take i).flatMap kf ++ kf d := by
  rw [take_succ h, List.flatMap_append]; simp
theorem ev_sortedSet2 {el tgt src tgt1 src1 : Expr} {sco : Scope} {ows : List (Str × Nat)} {ws1 : List Nat} {spos : Pos} {α β : Type} {xs : List α} {enc : α → D} {ys : α → List β} {enc1 : β → D} {f : α → β → Int} {pool : List Int} (hc : X.calm = true) (hN : X.N.Nodup) (ok : BlkOk X.N X.env.scope sco ows) (hv : ∀ i ∈ ws1, i ∈ ows.map (·.2))
    (hg : Gl X "sorted") (hm : Bn X "sorted") (asf : α → List (Nat × D)) (asf1 : α → β → List (Nat × D)) (hi : EvI W0 X tgt src Γ 0 (Is (xs.map enc)))
    (ht : ∀ d ∈ xs, AtB X sco (fun Y => Tg Y tgt (enc d) (asf d) ∧ EvI W0 Y tgt1 src1 (setG (wipeG Γ (ows.map (·.2))) (asf d)) 0 (Is ((ys d).map enc1))) ∧ (∀ a ∈ asf d, a.1 ∈ ows.map (·.2)))
    (ht1 : ∀ d ∈ xs, ∀ e ∈ ys d, AtB X sco (fun Y => Tg Y tgt1 (enc1 e) (asf1 d e) ∧ Ev W0 Y el (setG (wipeG (setG (wipeG Γ (ows.map (·.2))) (asf d)) ws1) (asf1 d e)) 0 (Is (.int (f d e)))) ∧ (∀ a ∈ asf1 d e, a.1 ∈ ws1))
    (hp : ∀ d ∈ xs, ∀ e ∈ ys d, f d e ∈ pool) (h64 : pool.length < 64) (hs : ∀ x, foldedSetIterable src X.env x = pure x := by intro _; rfl) (hs1 : ∀ env x, foldedSetIterable src1 env x = pure x := by intro _ _; rfl)
    (he : starEach [.SetComp el [⟨tgt, src, [], 0⟩, ⟨tgt1, src1, [], 0⟩] sco spos] X.env = (false, eval (.SetComp el [⟨tgt, src, [], 0⟩, ⟨tgt1, src1, [], 0⟩] sco spos) X.env) :: starEach [] X.env := by rfl) (hpl : (backTo pos (starEach [] X.env)).any (·.1) = false := by rfl) :
    Ev W0 X (.Call (.Name "sorted" p) [.SetComp el [⟨tgt, src, [], 0⟩, ⟨tgt1, src1, [], 0⟩] sco spos] [] pos) Γ 0 (Is (.lst ((asc (xs.flatMap fun d => (ys d).map (f d))).map .int))) := fun R0 H0 Rl σ R n H s hn Q k => by
  refine wE_of (pe_callB (cr_sortedSet hc) hg hm PyProof.Rows.boot_sorted (pa_cons (pe_sc2 hc hN (wI_ok tgt src) ok hv (gB_ok (tg := tgt)) (iB_ok (ifs := [])) (fun s H C cl fp => (⟨fun pins s' σ H' R' I q => (wI_ok tgt1 src1).run pins s' σ H' R' I (q s H C cl fp)⟩ : PI _ tgt1 src1 (fun σ H R' => AtB X sco fun Y => wI Y tgt1 src1 σ H R'))) (gB_ok (tg := tgt1)) (iB_ok (ifs := [])) (eB_ok (elt := el)) hs hs1) pa_nil he) (by decide) (by decide) he hpl) ?_
  refine hi R0 H0 Rl σ R n H s hn _ fun J R1 H1 ds g1 j1 f1 ⟨G, Y, wk, hG, hY⟩ => ?_
  obtain rfl : ds = xs.map enc := f1
  rw [List.length_map] at wk
  intro Dd hD
  have s1 := s.grow g1 j1
  refine walk_it wk (fun i H' => i ≤ xs.length ∧ SInv X.w R1 H1 Dd ((xs.take i).flatMap fun d => (ys d).map (f d)) H') ?_ ?_ ?_ ?_
  · exact ⟨Nat.zero_le _, R1, fun _ => false, [], Gr.newM g1.rh hD, g1.rh.free hD, upd_same, List.nodup_nil, fun k => by simp, fun k => by simp⟩
  · rintro i H' _ ⟨_, R', _, _, g, _⟩
    exact hG R' H' g.rr g.rh
  · rintro i x H' H'' hi ⟨_, R', S, ns, g, dR, dH, nd, hS, hk⟩ y
    obtain ⟨R2, dd, g2, kp, hdd, rx⟩ := hY i R' H' x H'' (by rw [List.length_map]; exact hi) g.rr g.rh y
    obtain ⟨d, hd, ed⟩ : ∃ d, xs[i]? = some d ∧ enc d = dd := by
      rw [List.getElem?_map] at hdd
      cases q : xs[i]? with
      | none => rw [q] at hdd; cases hdd
      | some d => rw [q] at hdd; exact ⟨d, rfl, Option.some.inj hdd⟩
    subst ed
    have hm : d ∈ xs := List.mem_of_getElem? hd
    obtain ⟨htA, htB⟩ := ht d hm
    intro s2 H2 C cl fp
    refine (htA s2 H2 C cl fp).1 x (wipe σ (ows.map (·.2))) R2 H'' _ g2.rh rx ?_
    intro bs hbs
    refine ⟨(wipe_setAll (hbs.fst htB)).trans (wipe_wipe fun _ z => z), ?_⟩
    have sB := (((s1.grow g (m := n) trivial).grow g2 (m := n) trivial).wipe (ows.map (·.2))).setAll hbs
    intro s3 H3 C3 cl3 fp3
    refine ets_nil (W := W0) (X := Qq.Cx.bk X sco s3 H3 C3 cl3 fp3) R0 H0 Rl _ R2 n H'' sB (by omega) _ fun R3 H4 g3 _ => ?_
    refine iteT ?_
    intro s4 H5 C4 cl4 fp4
    refine (htA s4 H5 C4 cl4 fp4).2 R0 H0 Rl _ R3 n H4 (sB.grow g3 trivial) (by omega) _ fun J1 R4 H6 ds1 g4 _ f4 ⟨G1, Y1, wk1, hG1, hY1⟩ => ?_
    obtain rfl : ds1 = (ys d).map enc1 := f4
    rw [List.length_map] at wk1
    have dR2 : R2 Dd = none := g2.nw Dd _ dH dR
    have dH2 : H'' Dd = some (SetO X.w Dd S ns.length) := kp _ _ dH
    have dR3 := g3.nw Dd _ dH2 dR2
    have dH3 := g3.hh Dd _ (fun z => z) dH2
    have dR4 := g4.nw Dd _ dH3 dR3
    have dH4 := g4.hh Dd _ (fun z => z) dH3
    have sC := (sB.grow g3 (m := n) trivial).grow g4 (m := n) trivial
    refine walk_it wk1 (fun j H' => j ≤ (ys d).length ∧ ∃ R' S ns, Gr W0 R1 H1 R' H' ∧ Same R4 R' ∧ R' Dd = none ∧ H' Dd = some (SetO X.w Dd S (List.length ns)) ∧ List.Nodup ns ∧ (∀ k, S k = true ↔ k ∈ ns) ∧ ∀ k, k ∈ ns ↔ k ∈ ((xs.take i).flatMap fun d => (ys d).map (f d)) ++ ((ys d).take j).map (f d)) ?_ ?_ ?_ ?_
    · exact ⟨Nat.zero_le _, R4, S, ns, ((g.trans g2).trans g3).trans g4, Same.refl _, dR4, dH4, nd, hS, fun k => by rw [hk]; simp⟩
    · rintro j H' _ ⟨_, R', _, _, g, gr, _⟩
      exact hG1 R' H' gr g.rh
    · rintro j x1 H7 H8 hj ⟨_, R', S, ns, g, gr, dR, dH, nd, hS, hk⟩ y1
      obtain ⟨R5, dd1, g5, kp5, hdd1, rx1⟩ := hY1 j R' H7 x1 H8 (by rw [List.length_map]; exact hj) gr g.rh y1
      obtain ⟨e, he1, ed1⟩ : ∃ e, (ys d)[j]? = some e ∧ enc1 e = dd1 := by
        rw [List.getElem?_map] at hdd1
        cases q : (ys d)[j]? with
        | none => rw [q] at hdd1; cases hdd1
        | some e => rw [q] at hdd1; exact ⟨e, rfl, Option.some.inj hdd1⟩
      subst ed1
      have hme : e ∈ ys d := List.mem_of_getElem? he1
      obtain ⟨htC, htD⟩ := ht1 d hm e hme
      intro s5 H9 C5 cl5 fp5
      refine (htC s5 H9 C5 cl5 fp5).1 x1 (wipe _ ws1) R5 H8 _ g5.rh rx1 ?_
      intro bs1 hbs1
      refine ⟨(wipe_setAll (hbs1.fst htD)).trans (wipe_wipe fun _ z => z), ?_⟩
      have hR5 : Same R4 R5 := gr.trans g5.rr
      have gA : Gr W0 R1 H1 R5 H8 := g.trans g5
      have sD : So W0 X.K R0 H0 Rl (setG (wipeG (setG (wipeG Γ (ows.map (·.2))) (asf d)) ws1) (asf1 d e)) R5 n (setAll (wipe (setAll (wipe σ (ows.map (·.2))) bs) ws1) bs1) H8 := by
        have z : So W0 X.K R0 H0 Rl (setG (wipeG Γ (ows.map (·.2))) (asf d)) R5 n (setAll (wipe σ (ows.map (·.2))) bs) H8 :=
          ((s1.grow gA (m := n) trivial).wipe (ows.map (·.2))).setAll (BsR.mono ((g3.rr.trans g4.rr).trans hR5) hbs)
        exact (z.wipe ws1).setAll hbs1
      intro s6 H10 C6 cl6 fp6
      refine ets_nil (W := W0) (X := Qq.Cx.bk X sco s6 H10 C6 cl6 fp6) R0 H0 Rl _ R5 n H8 sD (by omega) _ fun R6 H11 g6 _ => ?_
      refine iteT ?_
      intro s7 H12 C7 cl7 fp7
      refine (htC s7 H12 C7 cl7 fp7).2 R0 H0 Rl _ R6 n H11 (sD.grow g6 trivial) (by omega) _ fun v R7 H13 d7 g7 _ f7 r7 => ?_
      rw [show d7 = .int (f d e) from f7] at r7
      cases r7
      have dR5 := g5.nw Dd _ dH dR
      have dH5 := kp5 _ _ dH
      have dR6 := g6.nw Dd _ dH5 dR5
      have dH6 := g6.hh Dd _ (fun z => z) dH5
      have dR7 := g7.nw Dd _ dH6 dR6
      have dH7 := g7.hh Dd _ (fun z => z) dH6
      have gZ : Gr W0 R1 H1 R7 H13 := (gA.trans g6).trans g7
      have hin : ∀ k ∈ ns, k ∈ pool := fun k hkn => by
        have := (hk k).mp hkn
        rcases List.mem_append.mp this with z | z
        · obtain ⟨d', hd', z⟩ := List.mem_flatMap.mp z
          obtain ⟨e', he', rfl⟩ := List.mem_map.mp z
          exact hp d' (List.mem_of_mem_take hd') e' he'
        · obtain ⟨e', he', rfl⟩ := List.mem_map.mp z
          exact hp d hm e' (List.mem_of_mem_take he')
      have hln := nd_len nd hin
      have hcat : ((ys d).take (j + 1)).map (f d) = ((ys d).take j).map (f d) ++ [f d e] := by rw [take_succ he1, List.map_append]; rfl
      refine ⟨f d e, S, ns.length, rfl, dH7, Nat.lt_of_le_of_lt (by omega : ns.length + 1 ≤ 64) (by decide), hj, R7, fun j => S j || decide (j = f d e), if S (f d e) = true then ns else f d e :: ns, gZ.mut hD dR7, (hR5.trans g6.rr).trans g7.rr, dR7, ?_, ?_, ?_, ?_⟩
      · rw [upd_same]
        split <;> rfl
      · split
        · exact nd
        · rename_i h
          exact List.nodup_cons.mpr ⟨fun z => h ((hS _).mpr z), nd⟩
      · intro k
        rw [Bool.or_eq_true, hS, decide_eq_true_eq]
        split
        · rename_i h
          have h := (hS _).mp h
          exact ⟨fun z => z.elim id fun e => e ▸ h, .inl⟩
        · rw [List.mem_cons]; exact or_comm
      · intro k
        rw [hcat, ← List.append_assoc, List.mem_append, ← hk k, List.mem_singleton]
        split
        · rename_i h
          have h := (hS _).mp h
          exact ⟨.inl, fun z => z.elim id fun e => e ▸ h⟩
        · rw [List.mem_cons]; exact or_comm
    · rintro H' ⟨_, R', S, ns, g, gr, dR, dH, nd, hS, hk⟩
      refine ⟨hi, R', S, ns, g, dR, dH, nd, hS, fun k => ?_⟩
      rw [take_flat _ hd, hk, List.take_length]
  · rintro H' ⟨_, R', S, ns, g, dR, dH, nd, hS, hk⟩
    rw [List.take_length] at hk
    have hin : ∀ k ∈ ns, k ∈ pool := fun k hkn => by
      obtain ⟨d', hd', z⟩ := List.mem_flatMap.mp ((hk k).mp hkn)
      obtain ⟨e', he', rfl⟩ := List.mem_map.mp z
      exact hp d' hd' e' he'
    refine ⟨Dd, S, ns.length, rfl, dH, Nat.lt_of_le_of_lt (nd_len nd hin) h64, fun os l hpw hos hol hl => ?_⟩
    obtain rfl := asc_eq hpw fun k => ((hos k).trans (hS k)).trans (hk k)
    have g9 : Gr W0 R' H' (upd R' l (.lst ((asc (xs.flatMap fun d => (ys d).map (f d))).map V.int))) (upd H' l (.lst ((asc (xs.flatMap fun d => (ys d).map (f d))).map V.int))) := Gr.new g.rh hl
    exact k _ _ _ _ ((g1.trans g).trans g9) trivial rfl (.lst (SqL.of upd_same) ints_rp)
end
end Qq
/-! Qz: zip of a tuple and a list. -/
namespace Qq
open PySem PySem.Spec PyProof.Rows L2
open PySem.Sem (wp)
section
variable {prg : Program} {w : World} {A : Around} {E : Value → Shared → Prop} {s : Shared}
theorem zM_item {zz pI pO ia ib la lb : Addr} {ka kb : Nat} {us ws : Array Value} {vx vy va vb : Value} {Q : Value → Shared → Prop} (ap : ZipApart zz pI pO ia ib la lb)
    (oz : IsZip s.heap zz pI pO .none) (oI : IsPair s.heap pI (.ref ia) (.ref ib)) (oO : IsPair s.heap pO va vb)
    (o1 : s.heap.IsTupleIter ia la ka) (o2 : s.heap.IsListIter ib lb kb) (q1 : s.heap.IsTuple la us) (q2 : s.heap.IsList lb ws) (ex : us[ka]? = some vx) (ey : ws[kb]? = some vy)
    (fin : ∀ h', IsZip h' zz pI pO (rawInt s.heap.objs.size) → IsPair h' pO vx vy → h'.IsTupleIter ia la (ka + 1) → h'.IsListIter ib lb (kb + 1) → IsPair h' s.heap.objs.size vx vy → h'.objs.size = s.heap.objs.size + 1 →
      (∀ c o, c ≠ zz → c ≠ pO → c ≠ ia → c ≠ ib → s.heap.get? c = some o → h'.get? c = some o) → Q (.ref s.heap.objs.size) { s with heap := h' }) :
    wpAny (model prg w) A (Builtin.«zip.__next__» ⟨[.ref zz], []⟩) (fun fin s' => ∃ v, fin = .done (.ret v) ∧ Q v s') E s := by
  show wpAny _ _ (field (.ref zz) 2 >>= _) _ _ _
  refine wpAny_bind (wpAny_field oz rfl (x := .bool false) rfl ?_)
  show wpAny _ _ (field (.ref zz) 3 >>= _) _ _ _
  refine wpAny_bind (wpAny_field oz rfl (x := .ref pI) rfl ?_)
  refine wpAny_bind (wpAny_seqItems oI rfl ?_)
  show wpAny _ _ (Builtin.SmallTypes.ownedTupleIsFree (.ref zz) >>= _) _ _ _
  refine wpAny_bind ?_
  unfold Builtin.SmallTypes.ownedTupleIsFree
  refine wpAny_bind (wpAny_field oz rfl (x := .none) rfl (wpAny_pure ?_))
  simp only [if_true]
  refine wpAny_bind (wpAny_rule ?_)
  refine wpAny_bind (wpAny_field oz rfl (x := .ref pO) rfl ?_)
  refine wpAny_bind (wpAny_setField_rec oz (by simp) fun g₁ hz₁ b₁ => ?_)
  replace hz₁ : IsZip g₁ zz pI pO .ellipsis := hz₁
  refine wpAny_bind ?_
  simp only [List.zipIdx_cons, List.zipIdx_nil, List.forIn_cons, List.forIn_nil]

  refine wpAny_bind (wpAny_bind (wpAny_onRaise ?_))
  show wpAny _ _ (Builtin.SmallTypes.nextOf (.ref ia) >>= _) _ _ _
  refine wpAny_bind (RZ.nextOf_tuple_item (o1.extBut b₁.extBut ap.i1z) (q1.extBut b₁.extBut ap.l1z) ex fun g₂ h1₂ b₂ => wpAny_pure ?_)
  have hTO₂ : IsPair g₂ pO va vb := b₂.extBut _ _ ap.TOi1 (b₁.extBut _ _ ap.TOz oO)
  refine wpAny_bind (wpAny_seqItems hTO₂ rfl ?_)
  refine wpAny_bind (wpAny_updateSeq_pair hTO₂ fun g₃ hTO₃ b₃ => ?_)
  replace hTO₃ : IsPair g₃ pO vx vb := hTO₃
  refine wpAny_bind (wpAny_letGo (wpAny_pure ?_))

  refine wpAny_bind (wpAny_bind (wpAny_onRaise ?_))
  show wpAny _ _ (Builtin.SmallTypes.nextOf (.ref ib) >>= _) _ _ _
  refine wpAny_bind (wpAny_nextOf_list_item (((o2.extBut b₁.extBut ap.i2z).extBut b₂.extBut ap.i12.symm).extBut b₃.extBut ap.TOi2.symm)
    (((q2.extBut b₁.extBut ap.l2z).extBut b₂.extBut ap.l2i1).extBut b₃.extBut ap.l2TO) ey fun g₄ h2₄ b₄ => wpAny_pure ?_)
  have hTO₄ : IsPair g₄ pO vx vb := b₄.extBut _ _ ap.TOi2 hTO₃
  refine wpAny_bind (wpAny_seqItems hTO₄ rfl ?_)
  refine wpAny_bind (wpAny_updateSeq_pair hTO₄ fun g₅ hTO₅ b₅ => ?_)
  replace hTO₅ : IsPair g₅ pO vx vy := hTO₅
  refine wpAny_bind (wpAny_letGo (wpAny_pure (wpAny_pure ?_)))

  refine wpAny_bind (wpAny_seqItems hTO₅ rfl ?_)
  refine wpAny_bind (wpAny_newTuple ?_)
  have sz5 : g₅.objs.size = s.heap.objs.size := by rw [b₅.1, b₄.1, b₃.1, b₂.1, b₁.1]
  have hz₅ : IsZip g₅ zz pI pO .ellipsis := b₅.extBut _ _ ap.TOz.symm (b₄.extBut _ _ ap.i2z.symm (b₃.extBut _ _ ap.TOz.symm (b₂.extBut _ _ ap.i1z.symm hz₁)))
  have hk₅ : ∀ c o, c ≠ zz → c ≠ pO → c ≠ ia → c ≠ ib → s.heap.get? c = some o → g₅.get? c = some o := fun c o c1 c2 c3 c4 e =>
    b₅.extBut _ _ c2 (b₄.extBut _ _ c4 (b₃.extBut _ _ c2 (b₂.extBut _ _ c3 (b₁.extBut _ _ c1 e))))
  have h1₅ : g₅.IsTupleIter ia la (ka + 1) := ((h1₂.extBut b₃.extBut ap.TOi1.symm).extBut b₄.extBut ap.i12).extBut b₅.extBut ap.TOi1.symm
  have h2₅ : g₅.IsListIter ib lb (kb + 1) := h2₄.extBut b₅.extBut ap.TOi2.symm
  have hzlt : zz < g₅.objs.size := Heap.lt_size hz₅
  have hTOlt : pO < g₅.objs.size := Heap.lt_size hTO₅
  have hi1lt : ia < g₅.objs.size := by obtain ⟨_, e, _⟩ := h1₅; exact Heap.lt_size e
  have hi2lt : ib < g₅.objs.size := by obtain ⟨_, e, _⟩ := h2₅; exact Heap.lt_size e
  show wpAny _ _ (Builtin.SmallTypes.ownedTupleHandOut (.ref zz) (.ref g₅.objs.size) >>= _) _ _ _
  refine wpAny_bind ?_
  unfold Builtin.SmallTypes.ownedTupleHandOut
  have hz₆ : IsZip (g₅.push { cls := .type "tuple", data := .seq #[vx, vy] }) zz pI pO .ellipsis := Heap.get?_push_of_some _ hz₅
  refine wpAny_bind (wpAny_setField_rec hz₆ (by simp) fun g₇ hz₇ b₇ => ?_)
  replace hz₇ : IsZip g₇ zz pI pO (rawInt g₅.objs.size) := hz₇
  refine wpAny_setField_rec hz₇ (by simp) fun g₈ hz₈ b₈ => ?_
  replace hz₈ : IsZip g₈ zz pI pO (rawInt g₅.objs.size) := hz₈
  have up : ∀ c o, c ≠ zz → g₅.get? c = some o → g₈.get? c = some o := fun c o c1 e => b₈.extBut _ _ c1 (b₇.extBut _ _ c1 (Heap.get?_push_of_some _ e))
  have hT₈ : IsPair g₈ g₅.objs.size vx vy := b₈.extBut _ _ (Nat.ne_of_gt hzlt) (b₇.extBut _ _ (Nat.ne_of_gt hzlt) (Heap.get?_push_size _ rfl))
  have hz8 : g₈.objs.size = g₅.objs.size + 1 := by rw [b₈.1, b₇.1, Heap.size_push]
  rw [sz5] at hz₈ hT₈ hz8
  refine wpAny_pure ⟨_, rfl, ?_⟩
  show Q (.ref g₅.objs.size) _
  rw [sz5]
  exact fin g₈ hz₈ (up _ _ ap.TOz hTO₅) (h1₅.at fun o e => up _ o ap.i1z e) (h2₅.at fun o e => up _ o ap.i2z e) hT₈ hz8 fun c o c1 c2 c3 c4 e => up c o c1 (hk₅ c o c1 c2 c3 c4 e)

theorem zM_end {zz pI pO ia ib la lb : Addr} {ka kb : Nat} {us ws : Array Value} {va vb : Value} {Q : Fin → Shared → Prop} (hn : A.handled = none) (ap : ZipApart zz pI pO ia ib la lb)
    (oz : IsZip s.heap zz pI pO .none) (oI : IsPair s.heap pI (.ref ia) (.ref ib)) (oO : IsPair s.heap pO va vb)
    (o1 : s.heap.IsTupleIter ia la ka) (o2 : s.heap.IsListIter ib lb kb) (q1 : s.heap.IsTuple la us) (q2 : s.heap.IsList lb ws) (over : us[ka]? = none ∨ ws[kb]? = none)
    (bad : ∀ h' e, (∀ c o, c ≠ zz → c ≠ pO → c ≠ ia → c ≠ ib → s.heap.get? c = some o → h'.get? c = some o) → (∃ o, h'.get? e = some o ∧ o.cls = .type "StopIteration") → E (.ref e) { s with heap := h' }) :
    wpAny (model prg w) A (Builtin.«zip.__next__» ⟨[.ref zz], []⟩) Q E s := by
  show wpAny _ _ (field (.ref zz) 2 >>= _) _ _ _
  refine wpAny_bind (wpAny_field oz rfl (x := .bool false) rfl ?_)
  show wpAny _ _ (field (.ref zz) 3 >>= _) _ _ _
  refine wpAny_bind (wpAny_field oz rfl (x := .ref pI) rfl ?_)
  refine wpAny_bind (wpAny_seqItems oI rfl ?_)
  show wpAny _ _ (Builtin.SmallTypes.ownedTupleIsFree (.ref zz) >>= _) _ _ _
  refine wpAny_bind ?_
  unfold Builtin.SmallTypes.ownedTupleIsFree
  refine wpAny_bind (wpAny_field oz rfl (x := .none) rfl (wpAny_pure ?_))
  simp only [if_true]
  refine wpAny_bind (wpAny_rule ?_)
  refine wpAny_bind (wpAny_field oz rfl (x := .ref pO) rfl ?_)
  refine wpAny_bind (wpAny_setField_rec oz (by simp) fun g₁ hz₁ b₁ => ?_)
  replace hz₁ : IsZip g₁ zz pI pO .ellipsis := hz₁
  refine wpAny_bind ?_
  simp only [List.zipIdx_cons, List.zipIdx_nil, List.forIn_cons, List.forIn_nil]
  refine wpAny_bind (wpAny_bind (wpAny_onRaise ?_))
  show wpAny _ _ (Builtin.SmallTypes.nextOf (.ref ia) >>= _) _ _ _
  cases ex : us[ka]? with
  | none =>
    refine wpAny_bind (RZ.nextOf_tuple_end hn (o1.extBut b₁.extBut ap.i1z) (q1.extBut b₁.extBut ap.l1z) ex fun g₂ e b₂ he => ?_)
    obtain ⟨oe, hoe, hce⟩ := he
    have hz₂ : IsZip g₂ zz pI pO .ellipsis := b₂ _ _ ap.i1z.symm hz₁
    have hez : e ≠ zz := fun vx => by subst vx; rw [hz₂] at hoe; cases hoe; simp at hce
    refine wpAny_setField_rec hz₂ (by simp) fun g₃ _ b₃ => bad g₃ e (fun c o c1 _ c3 _ vx => b₃.extBut _ _ c1 (b₂ _ _ c3 (b₁.extBut _ _ c1 vx))) ⟨oe, b₃.extBut _ _ hez hoe, hce⟩
  | some vx =>
    have ey : ws[kb]? = none := by rcases over with h | h; rw [ex] at h; cases h; exact h
    refine wpAny_bind (RZ.nextOf_tuple_item (o1.extBut b₁.extBut ap.i1z) (q1.extBut b₁.extBut ap.l1z) ex fun g₂ h1₂ b₂ => wpAny_pure ?_)
    have hTO₂ : IsPair g₂ pO va vb := b₂.extBut _ _ ap.TOi1 (b₁.extBut _ _ ap.TOz oO)
    refine wpAny_bind (wpAny_seqItems hTO₂ rfl ?_)
    refine wpAny_bind (wpAny_updateSeq_pair hTO₂ fun g₃ hTO₃ b₃ => ?_)
    refine wpAny_bind (wpAny_letGo (wpAny_pure ?_))
    refine wpAny_bind (wpAny_bind (wpAny_onRaise ?_))
    show wpAny _ _ (Builtin.SmallTypes.nextOf (.ref ib) >>= _) _ _ _
    refine wpAny_bind (wpAny_nextOf_list_end hn (((o2.extBut b₁.extBut ap.i2z).extBut b₂.extBut ap.i12.symm).extBut b₃.extBut ap.TOi2.symm)
      (((q2.extBut b₁.extBut ap.l2z).extBut b₂.extBut ap.l2i1).extBut b₃.extBut ap.l2TO) ey fun g₄ e b₄ he => ?_)
    obtain ⟨oe, hoe, hce⟩ := he
    have hz₄ : IsZip g₄ zz pI pO .ellipsis := b₄ _ _ ap.i2z.symm (b₃.extBut _ _ ap.TOz.symm (b₂.extBut _ _ ap.i1z.symm hz₁))
    have hez : e ≠ zz := fun vx => by subst vx; rw [hz₄] at hoe; cases hoe; simp at hce
    refine wpAny_setField_rec hz₄ (by simp) fun g₅ _ b₅ => bad g₅ e (fun c o c1 c2 c3 c4 vx => b₅.extBut _ _ c1 (b₄ _ _ c4 (b₃.extBut _ _ c2 (b₂.extBut _ _ c3 (b₁.extBut _ _ c1 vx))))) ⟨oe, b₅.extBut _ _ hez hoe, hce⟩

theorem zM_nextItem {zz pI pO ia ib la lb : Addr} {ka kb : Nat} {us ws : Array Value} {vx vy va vb : Value} {Q : Option Value → Shared → Prop} (ap : ZipApart zz pI pO ia ib la lb)
    (oz : IsZip s.heap zz pI pO .none) (oI : IsPair s.heap pI (.ref ia) (.ref ib)) (oO : IsPair s.heap pO va vb)
    (o1 : s.heap.IsTupleIter ia la ka) (o2 : s.heap.IsListIter ib lb kb) (q1 : s.heap.IsTuple la us) (q2 : s.heap.IsList lb ws) (ex : us[ka]? = some vx) (ey : ws[kb]? = some vy)
    (fin : ∀ h', IsZip h' zz pI pO (rawInt s.heap.objs.size) → IsPair h' pO vx vy → h'.IsTupleIter ia la (ka + 1) → h'.IsListIter ib lb (kb + 1) → IsPair h' s.heap.objs.size vx vy → h'.objs.size = s.heap.objs.size + 1 →
      (∀ c o, c ≠ zz → c ≠ pO → c ≠ ia → c ≠ ib → s.heap.get? c = some o → h'.get? c = some o) → Q (some (.ref s.heap.objs.size)) { s with heap := h' }) :
    wpAny (model prg w) A (pyNext (.ref zz)) Q E s := by
  have hT : s.TypeIs (.ref zz) "zip" := ⟨_, oz, rfl⟩
  unfold pyNext
  exact wpAny_bind (wpAny_attempt (wpAny_callSpecial?_slot (name := Str.ofString "__next__") hT F.slot_zip_next
    (wpAny_call_entry F.slot_zip_next hT F.entry_zip_next
      (zM_item ap oz oI oO o1 o2 q1 q2 ex ey fun h' a1 a2 a3 a4 a5 a6 a7 => wpAny_pure (fin h' a1 a2 a3 a4 a5 a6 a7)) (F.args_zip_next_1 _))))

theorem zM_nextEnd {zz pI pO ia ib la lb : Addr} {ka kb : Nat} {us ws : Array Value} {va vb : Value} {Q : Option Value → Shared → Prop} (hn : A.handled = none) (ap : ZipApart zz pI pO ia ib la lb)
    (oz : IsZip s.heap zz pI pO .none) (oI : IsPair s.heap pI (.ref ia) (.ref ib)) (oO : IsPair s.heap pO va vb)
    (o1 : s.heap.IsTupleIter ia la ka) (o2 : s.heap.IsListIter ib lb kb) (q1 : s.heap.IsTuple la us) (q2 : s.heap.IsList lb ws) (over : us[ka]? = none ∨ ws[kb]? = none)
    (fin : ∀ h', (∀ c o, c ≠ zz → c ≠ pO → c ≠ ia → c ≠ ib → s.heap.get? c = some o → h'.get? c = some o) → Q none { s with heap := h' }) : wpAny (model prg w) A (pyNext (.ref zz)) Q E s := by
  have hT : s.TypeIs (.ref zz) "zip" := ⟨_, oz, rfl⟩
  unfold pyNext
  refine wpAny_bind (wpAny_attempt (wpAny_callSpecial?_slot (name := Str.ofString "__next__") hT F.slot_zip_next
    (wpAny_call_entry F.slot_zip_next hT F.entry_zip_next (zM_end hn ap oz oI oO o1 o2 q1 q2 over fun h' e hk he => ?_) (F.args_zip_next_1 _))))
  obtain ⟨o, ho, hc⟩ := he
  refine wpAny_bind (wpAny_isInstance (T := "StopIteration") (b := true) ⟨o, ho, hc⟩ isSubtype_stop ?_)
  exact wpAny_pure (fin _ hk)
end

abbrev zMH1 (h : Heap) (la : Addr) : Heap := h.push { cls := .type "tuple_iterator", data := .fields #[.ref la, .int 0 0] }
abbrev zMH2 (h : Heap) (la lb : Addr) : Heap := (zMH1 h la).push { cls := .type "list_iterator", data := .fields #[.ref lb, .int 0 0] }
abbrev zMH3 (h : Heap) (la lb : Addr) : Heap := (zMH2 h la lb).push { cls := .type "tuple", data := .seq #[.ref h.objs.size, .ref (zMH1 h la).objs.size] }
abbrev zMH4 (h : Heap) (la lb : Addr) : Heap := (zMH3 h la lb).push { cls := .type "tuple", data := .seq #[.none, .none] }
abbrev zMH5 (h : Heap) (la lb : Addr) : Heap := (zMH4 h la lb).push { cls := .type "zip", data := .fields #[.none, .bool false, .bool false, .ref (zMH2 h la lb).objs.size, .ref (zMH3 h la lb).objs.size] }

theorem zM_new (la lb : Addr) (us ws : Array Value) :
    Meets (Builtin.«zip.__new__» ⟨[.type "zip", .ref la, .ref lb], []⟩) (fun _ R s => s.heap.IsTuple la us ∧ s.heap.IsList lb ws ∧
      R (.ok (.ret (.ref (zMH4 s.heap la lb).objs.size))) { s with heap := zMH5 s.heap la lb }) :=
  .of_wp fun prg w A R s h => by
    obtain ⟨hp, g, d, tk, os⟩ := s; obtain ⟨q1, q2, h⟩ := h
    have hsub := sub_zip
    have hL1 : Heap.IsTuple (Shared.heap ⟨hp, g, d, tk, os⟩) la us := q1
    have hL2 : Heap.IsList (Shared.heap ⟨hp.push { cls := .type "tuple_iterator", data := .fields #[.ref la, .int 0 0] }, g, d, tk, os⟩) lb ws := Heap.IsList.push q2 _
    wp_walk using wpAny_pyIter_tuple hL1, wpAny_pyIter_list hL2
    exact ⟨_, rfl, h⟩

section
variable {prg : Program} {w : World} {A : Around} {E : Value → Shared → Prop} {s : Shared}

theorem zM_call {la lb : Addr} {us ws : Array Value} {Q : Value → Shared → Prop} (q1 : s.heap.IsTuple la us) (q2 : s.heap.IsList lb ws)
    (h : ∀ h', IsZip h' (s.heap.objs.size + 4) (s.heap.objs.size + 2) (s.heap.objs.size + 3) .none → IsPair h' (s.heap.objs.size + 2) (.ref s.heap.objs.size) (.ref (s.heap.objs.size + 1)) →
      IsPair h' (s.heap.objs.size + 3) .none .none → h'.IsTupleIter s.heap.objs.size la 0 → h'.IsListIter (s.heap.objs.size + 1) lb 0 → h'.objs.size = s.heap.objs.size + 5 →
      (∀ c o, s.heap.get? c = some o → h'.get? c = some o) → Q (.ref (s.heap.objs.size + 4)) { s with heap := h' }) :
    wpAny (model prg w) A (call (.type "zip") [.ref la, .ref lb]) Q E s := by
  refine callType_new F.called_zip (by decide) (F.typeCall_zip_2 _ _) (F.newCall_zip_2 _ _) (fun obj => F.args_object_init_3 obj _ _) F.entry_zip_new
    (zM_new la lb us ws) ⟨q1, q2, ?_⟩
  have z1 : (zMH1 s.heap la).objs.size = s.heap.objs.size + 1 := Heap.size_push ..
  have z2 : (zMH2 s.heap la lb).objs.size = s.heap.objs.size + 2 := by rw [Heap.size_push, z1]
  have z3 : (zMH3 s.heap la lb).objs.size = s.heap.objs.size + 3 := by rw [Heap.size_push, z2]
  have z4 : (zMH4 s.heap la lb).objs.size = s.heap.objs.size + 4 := by rw [Heap.size_push, z3]
  have z5 : (zMH5 s.heap la lb).objs.size = s.heap.objs.size + 5 := by rw [Heap.size_push, z4]
  have g5 : (zMH5 s.heap la lb).get? (zMH4 s.heap la lb).objs.size = some _ := Heap.get?_push_size _ rfl
  have g4 : (zMH5 s.heap la lb).get? (zMH3 s.heap la lb).objs.size = some _ := Heap.get?_push_of_some _ (Heap.get?_push_size _ rfl)
  have g3 : (zMH5 s.heap la lb).get? (zMH2 s.heap la lb).objs.size = some _ := Heap.get?_push_of_some _ (Heap.get?_push_of_some _ (Heap.get?_push_size _ rfl))
  have g2 : (zMH5 s.heap la lb).get? (zMH1 s.heap la).objs.size = some _ := Heap.get?_push_of_some _ (Heap.get?_push_of_some _ (Heap.get?_push_of_some _ (Heap.get?_push_size _ rfl)))
  have g1 : (zMH5 s.heap la lb).get? s.heap.objs.size = some _ := Heap.get?_push_of_some _ (Heap.get?_push_of_some _ (Heap.get?_push_of_some _ (Heap.get?_push_of_some _ (Heap.get?_push_size _ rfl))))
  show _ ∧ _
  rw [z2, z3, z4] at g5
  rw [z1, z2] at g3
  rw [z3] at g4
  rw [z1] at g2
  rw [z4]
  exact ⟨⟨_, g5, rfl⟩, h _ g5 g3 g4 ⟨_, g1, rfl, rfl⟩ ⟨_, g2, rfl, rfl⟩ z5 fun c o vx =>
    Heap.get?_push_of_some _ (Heap.get?_push_of_some _ (Heap.get?_push_of_some _ (Heap.get?_push_of_some _ (Heap.get?_push_of_some _ vx))))⟩
end
/-- the tuples at va and vb as they stand at each turn, the items in new pairs -/
def ItzM (K : PySem.W.Frag) (va vb : Addr) : It :=
  ⟨fun i H => ∃ (us ws : List V) (vx vy : V), SqT K H va us ∧ SqL K H vb ws ∧ us[i]? = some vx ∧ ws[i]? = some vy,
    fun i H v H' => ∃ T vx vy, v = .ref T ∧ H T = none ∧ H' = upd H T (.tup [vx, vy]) ∧ (∀ us, SqT K H va us → us[i]? = some vx) ∧ ∀ ws, SqL K H vb ws → ws[i]? = some vy,
    fun i H => ∃ us ws : List V, SqT K H va us ∧ SqL K H vb ws ∧ (us.length ≤ i ∨ ws.length ≤ i)⟩
theorem zM_turn {P : Program} {w : World} {K : PySem.W.Frag} {elts : List Expr} {kk : Nat} {tpos : Pos} {va vb zz pI pO ia ib : Addr} (ap : ZipApart zz pI pO ia ib va vb) :
    Turn P w K (.Tuple elts kk tpos) (ItzM K va vb) [zz, pI, pO, ia, ib] zz (fun i h => IsZip h zz pI pO .none ∧ IsPair h pI (.ref ia) (.ref ib) ∧ (∃ vx vy, IsPair h pO vx vy) ∧ h.IsTupleIter ia va i ∧ h.IsListIter ib vb i) where
  mem := by simp
  obj := fun i h st c hc => by
    obtain ⟨oz, oI, ⟨vx, vy, oO⟩, ⟨o1, e1, _, d1⟩, ⟨o2, e2, _, d2⟩⟩ := st
    have e' : c = zz ∨ c = pI ∨ c = pO ∨ c = ia ∨ c = ib := by simpa using hc
    rcases e' with q | q | q | q | q
    · rw [q]; exact ⟨_, oz, fun v q => nomatch q⟩
    · rw [q]; exact ⟨_, oI, fun v q => nomatch q⟩
    · rw [q]; exact ⟨_, oO, fun v q => nomatch q⟩
    · rw [q]; exact ⟨o1, e1, fun v q => by rw [d1] at q; cases q⟩
    · rw [q]; exact ⟨o2, e2, fun v q => by rw [d2] at q; cases q⟩
  keep := fun i h h' st k => by
    obtain ⟨oz, oI, ⟨vx, vy, oO⟩, o1, o2⟩ := st
    exact ⟨k zz (by simp) _ oz, k pI (by simp) _ oI, ⟨vx, vy, k pO (by simp) _ oO⟩, o1.at fun o q => k ia (by simp) o q, o2.at fun o q => k ib (by simp) o q⟩
  item := by
    intro X hP hw hK hc i pins s σ H E I hf st hg
    subst hP hw hK
    obtain ⟨oz, oI, ⟨x0, y0, oO⟩, o1, o2⟩ := st
    obtain ⟨us, ws, vx, vy, hqx, hqy, ex, ey⟩ := hg
    obtain ⟨its, rv, p, _⟩ := I.tuple hqx
    obtain ⟨its2, rv2, p2l, _⟩ := I.list hqy
    have p2 := p2l.isList
    obtain ⟨u, hu, ru⟩ := rv.get ex
    obtain ⟨u2, hu2, ru2⟩ := rv2.get ey
    have hzl : zz < s.heap.objs.size := Heap.lt_size oz
    refine zM_nextItem ap oz oI oO o1 o2 p p2 (vx := u) (vy := u2) (by simpa using hu) (by simpa using hu2) fun h' z' TO' h1' h2' hT sz5 hk => ?_
    refine ⟨_, rfl, wpAny_letOwnedTupleGo_zip (s := { s with heap := h' }) z' fun h'' z'' sb => ?_⟩
    have hT2 : h''.get? s.heap.objs.size = some { cls := .type "tuple", data := .seq #[u, u2] } := (sb.2 _ (Nat.ne_of_gt hzl)).trans hT
    have new : ObjOk X.prog X.w (upd H s.heap.objs.size (.tup [vx, vy])) h'' s.heap.objs.size (.tup [vx, vy]) :=
      ⟨by show 2 ≤ sizeLine; decide, [u, u2], .cons ru (.cons ru2 .nil), ⟨_, hT2, rfl, _, rfl⟩⟩
    have I1 : Inv X pins σ (upd H s.heap.objs.size (.tup [vx, vy])) { s with heap := h'' } :=
      I.turnedNew (t' := s.toks) (ch := [zz, pI, pO, ia, ib]) (fun c o hb q => (sb.2 c (fun q' => hb (by simp [q']))).trans (hk c o (fun q' => hb (by simp [q'])) (fun q' => hb (by simp [q'])) (fun q' => hb (by simp [q'])) (fun q' => hb (by simp [q'])) q)) hf (Nat.le_refl _) new
    refine ⟨.ref s.heap.objs.size, _, I1, rfl, ⟨_, vx, vy, rfl, I.hok.fresh (Nat.le_refl _), rfl, fun l hl => by rw [I.tuple_inj hl hqx]; exact ex, fun l hl => by rw [I.list_inj hl hqy]; exact ey⟩, ⟨z'', ?_, ⟨u, u2, ?_⟩, ?_, ?_⟩, fun c hcm => ?_⟩
    · exact (sb.2 _ ap.TIz).trans (hk _ _ ap.TIz ap.TITO ap.TIi1 ap.TIi2 oI)
    · exact (sb.2 _ ap.TOz).trans TO'
    · exact h1'.at fun o q => (sb.2 _ ap.i1z).trans q
    · exact h2'.at fun o q => (sb.2 _ ap.i2z).trans q
    · have hlt : c < s.heap.objs.size := by
        have e' : c = zz ∨ c = pI ∨ c = pO ∨ c = ia ∨ c = ib := by simpa using hcm
        rcases e' with q | q | q | q | q
        · rw [q]; exact hzl
        · rw [q]; exact Heap.lt_size oI
        · rw [q]; exact Heap.lt_size oO
        · rw [q]; obtain ⟨_, e1, _⟩ := o1; exact Heap.lt_size e1
        · rw [q]; obtain ⟨_, e2, _⟩ := o2; exact Heap.lt_size e2
      rw [upd_ne (Nat.ne_of_lt hlt)]
      exact (hf c hcm).1
  done := by
    intro X hP hw hK hc i pins s σ H E I hf st hg
    subst hP hw hK
    obtain ⟨oz, oI, ⟨x0, y0, oO⟩, o1, o2⟩ := st
    obtain ⟨us, ws, hqx, hqy, over⟩ := hg
    obtain ⟨its, rv, p, _⟩ := I.tuple hqx
    obtain ⟨its2, rv2, p2l, _⟩ := I.list hqy
    have p2 := p2l.isList
    have la := rv.length
    have lb := rv2.length
    have he : its.toArray[i]? = none ∨ its2.toArray[i]? = none := by
      rcases over with q | q
      · exact .inl (by simp; omega)
      · exact .inr (by simp; omega)
    exact zM_nextEnd (I.ok.hd hc) ap oz oI oO o1 o2 p p2 he fun h' hk => ⟨rfl, I.turnedL (t' := s.toks) (ch := [zz, pI, pO, ia, ib]) (fun c o hb q =>
      hk c o (fun q' => hb (by simp [q'])) (fun q' => hb (by simp [q'])) (fun q' => hb (by simp [q'])) (fun q' => hb (by simp [q'])) q) hf⟩
  self := fun A i s Q E st h => wpAny_pyIter_zip st.1 h


theorem pi_zipM {X : Cx} {e e2 : Expr} {ta : TA} {p pos tpos : Pos} {elts : List Expr} {kk : Nat} (hg : Gl X "zip") (hm : X.mg "zip" = none) (ha : PA X [e, e2] ta)
    (he : starEach [e, e2] X.env = (false, eval e X.env) :: starEach [e2] X.env := by rfl) (hpl : (backTo pos (starEach [e2] X.env)).any (·.1) = false := by rfl) :
    PI X (.Tuple elts kk tpos) (.Call (.Name "zip" p) [e, e2] [] pos) (fun σ H R => ta σ H fun vs H1 => ∃ a b xs ys, vs = [.ref a, .ref b] ∧ SqT X.K H1 a xs ∧ SqL X.K H1 b ys ∧ R (ItzM X.K a b) H1) := by
  refine ⟨fun pins s σ H R I h => ?_⟩
  refine Call_ (ld_blt I hg hm PyProof.Rows.boot_zip (PyProof.Rows.callWith_type1 (thn (ha.run pos pins s σ H _ I h) fun us s1 ⟨vs, H1, I1, r1, a, b, xs, ys, ev, qx, qy, q⟩ => ?_) he hpl))
  subst ev
  cases r1 with | cons r r1 => cases r1 with | cons r' r1 =>
      cases r1; cases r; cases r'
      obtain ⟨its, rv, pa, _⟩ := I1.tuple qx
      obtain ⟨its2, rv2, pb, _⟩ := I1.list qy
      have lta : a < s1.heap.objs.size := by obtain ⟨o, e, _⟩ := id pa; exact Heap.lt_size e
      refine zM_call (show s1.heap.IsTuple a its.toArray from pa) pb.isList fun h' gz gI gO g1 g2 gs gk => wpAny_pyIter_zip gz ?_
      refine ⟨s1.heap.objs.size + 4, [s1.heap.objs.size + 4, s1.heap.objs.size + 2, s1.heap.objs.size + 3, s1.heap.objs.size, s1.heap.objs.size + 1], _, _, H1, rfl, I1.kept (t' := s1.toks) gk, zM_turn (PySem.W.ktu_apart s1.heap.objs.size a b lta pb.lt), ⟨gz, gI, ⟨_, _, gO⟩, g1, g2⟩, fun c hc => ?_, q⟩
      have hle : s1.heap.objs.size ≤ c := by
        simp only [List.mem_cons, List.not_mem_nil, or_false] at hc
        rcases hc with z | z | z | z | z
        all_goals (rw [z]; first | exact Nat.le_refl _ | exact Nat.le_add_right _ _)
      exact I1.fpOk hle (I1.hok.fresh hle)

end Qq
/-! Qza: for .. in zip(a tuple, a list), on data. -/
namespace Qq
open PySem PySem.Spec PyProof.Rows L2
section
variable {W : Wd} {X : Cx} {Γ : List Sl} {n c c1 c2 : Nat} {φ : D → Prop} {e a b : Expr} {pos p : Pos} {d : D}
theorem ei_zipM {as bs : List D} {es : List Expr} {kk : Nat} {tpos p : Pos} {e2 : Expr} (hg : Gl X "zip") (hm : X.mg "zip" = none) (h : EvS W X [e, e2] Γ c (Is [.dat (.tup as), .dat (.lst bs)]))
    (hs : starEach [e, e2] X.env = (false, eval e X.env) :: starEach [e2] X.env := by rfl) (hpl : (backTo pos (starEach [e2] X.env)).any (·.1) = false := by rfl) :
    EvI W X (.Tuple es kk tpos) (.Call (.Name "zip" p) [e, e2] [] pos) Γ c (Is (zipD as bs)) := fun R0 H0 Rl σ R n H s hn Q k => by
  refine wI_of (pi_zipM hg hm (wA_ok [e, e2]) hs hpl) ?_
  refine h R0 H0 Rl σ R n H s hn _ fun vs R1 H1 ss g1 j1 f1 r1 => ?_
  obtain rfl : ss = [.dat (.tup as), .dat (.lst bs)] := f1
  have hz : (zipD as bs).length = min as.length bs.length := by unfold zipD; rw [List.length_map, List.length_zip]
  cases r1 with | cons ra r1 => cases r1 with | cons rb r1 => cases r1; cases ra with | dat ra => cases rb with | dat rb => cases ra with | @tup pa xs _ qa ra => cases rb with | @lst pb ys _ qb rb =>
    refine ⟨pa, pb, xs, ys, rfl, sqT_mono g1.rh qa, sqL_mono g1.rh qb, k _ R1 H1 _ g1 j1 rfl ⟨fun H => SqT X.K H pa xs ∧ SqL X.K H pb ys, YPair (fun i => xs[i]?) (fun i => ys[i]?), ?_, fun R2 H2 u v => ⟨sqT_mono (u.trans v) qa, sqL_mono (u.trans v) qb⟩, ?_⟩⟩
    · rw [hz, ← ra.len, ← rb.len]
      refine ⟨fun i H hi q => ?_, fun H q => ⟨xs, ys, q.1, q.2, by omega⟩, fun i H v H' _ q y => ?_⟩
      · have hi1 : i < xs.length := by omega
        have hi2 : i < ys.length := by omega
        exact ⟨xs, ys, xs[i], ys[i], q.1, q.2, by simp [hi1], by simp [hi2]⟩
      obtain ⟨T, x, z, h1, h2, h3, h4, h5⟩ := y
      exact ⟨T, x, z, h1, h2, h3, h4 xs q.1, h5 ys q.2⟩
    · rintro i R2 H2 x H3 hi u v ⟨T, x, y, rfl, hT, rfl, ex, ey⟩
      obtain ⟨dx, e1, rx⟩ := ra.get ex
      obtain ⟨dy, e2, ry⟩ := rb.get ey
      have g : Gr W R2 H2 (upd R2 T (.tup [x, y])) (upd H2 T (.tup [x, y])) := Gr.new v hT
      exact ⟨_, _, g, fun b o z => by rw [upd_ne (ne_of_none z hT)]; exact z, zip_get e1 e2, .tup (SqT.of upd_same) (.cons (rx.mono (u.trans g.rr)) (.cons (ry.mono (u.trans g.rr)) .nil))⟩
end
end Qq
/-! Qs2: sorted of a list of (text, tuple of pairs of texts), the texts unlike. -/
namespace Qq
open PySem PySem.Spec PyProof.Rows L2
open PySem.W (alike alikeAll dataLt dataLe dataLt_pair dataLt_tuple dataLt_str AllAlike Sortable EachIs sorted_data)
mutual
/-- data of texts and tuples, told as the library's data -/
inductive TD : D → PyData → Prop
  | str (z : Str) : TD (.str z) (.str z)
  | tup {ds : List D} {ps : List PyData} : TDL ds ps → TD (.tup ds) (.tuple ps)
inductive TDL : List D → List PyData → Prop
  | nil : TDL [] []
  | cons {d : D} {p : PyData} {ds : List D} {ps : List PyData} : TD d p → TDL ds ps → TDL (d :: ds) (p :: ps)
end
section
variable {X : Cx} {pins : List (Addr × Obj)} {σ : L2.St} {H R : Hp} {s : Shared}
mutual
theorem reads_td (I : Inv X pins σ H s) (e : Same R H) : ∀ {d : D} {p : PyData}, TD d p → ∀ {v : V} {u : Value}, Rp X.K R v d → RelV v u → ∃ as, Reads s.heap u p as
  | _, _, .str z, v, u, r, q => by
    cases r
    obtain ⟨t, rfl⟩ := q
    exact ⟨[], .str z t⟩
  | _, _, .tup h, v, u, r, q => by
    cases r with | @tup a xs _ sq r =>
    cases q
    obtain ⟨its, rv, ⟨o, ho, hc, n, hd⟩, _⟩ := I.tuple (sqT_mono e sq)
    obtain ⟨as, z⟩ := reads_tdl I e h r rv
    exact ⟨as, .tuple ho hc hd (by simpa using z)⟩
theorem reads_tdl (I : Inv X pins σ H s) (e : Same R H) : ∀ {ds : List D} {ps : List PyData}, TDL ds ps → ∀ {vs : List V} {us : List Value}, RpL X.K R vs ds → Vals vs us → ∃ as, ReadsAll s.heap us ps as
  | _, _, .nil, vs, us, r, q => by
    cases r; cases q
    exact ⟨[], .nil⟩
  | _, _, .cons h t, vs, us, r, q => by
    cases r with | cons r1 r2 => cases q with | cons q1 q2 =>
    obtain ⟨a1, z1⟩ := reads_td I e h r1 q1
    obtain ⟨a2, z2⟩ := reads_tdl I e t r2 q2
    exact ⟨a1 ++ a2, .cons z1 z2⟩
end
end
abbrev Rec := Str × List (Str × Str)
def eC (c : Str × Str) : D := .tup [.str c.1, .str c.2]
def eT (t : Rec) : D := .tup [.str t.1, .tup (t.2.map eC)]
def pC (c : Str × Str) : PyData := .tuple [.str c.1, .str c.2]
def pT (t : Rec) : PyData := .tuple [.str t.1, .tuple (t.2.map pC)]
theorem td_c (c : Str × Str) : TD (eC c) (pC c) := .tup (.cons (.str _) (.cons (.str _) .nil))
theorem td_cs : ∀ cs : List (Str × Str), TDL (cs.map eC) (cs.map pC)
  | [] => .nil
  | c :: cs => .cons (td_c c) (td_cs cs)
theorem td_t (t : Rec) : TD (eT t) (pT t) := .tup (.cons (.str _) (.cons (.tup (td_cs t.2)) .nil))
theorem alike_c (a b : Str × Str) : alike (pC a) (pC b) = true := by simp [pC, alike, alikeAll]
theorem alike_cs : ∀ as bs : List (Str × Str), alikeAll (as.map pC) (bs.map pC) = true
  | [], _ => by simp [alikeAll]
  | _ :: _, [] => by simp [alikeAll]
  | a :: as, b :: bs => by rw [List.map_cons, List.map_cons, alikeAll, alike_c, alike_cs as bs]; rfl
theorem alike_s (a b : Str) : alike (.str a) (.str b) = true := by simp [alike]
theorem alike_tt (a b : List (Str × Str)) : alike (.tuple (a.map pC)) (.tuple (b.map pC)) = true := by rw [alike]; exact alike_cs a b
theorem alike_t (a b : Rec) : alike (pT a) (pT b) = true := by
  unfold pT
  rw [alike, alikeAll, alikeAll, alike_s, alike_tt, alikeAll]; rfl
theorem depth_c (c : Str × Str) : (pC c).depth = 1 := by simp [pC, PyData.depth, PyData.depthAll]
theorem depth_cs : ∀ cs : List (Str × Str), PyData.depthAll (cs.map pC) ≤ 1
  | [] => by simp [PyData.depthAll]
  | c :: cs => by
    have := depth_cs cs
    rw [List.map_cons, PyData.depthAll, depth_c]; omega
theorem depth_t (t : Rec) : (pT t).depth ≤ 3 := by
  have := depth_cs t.2
  unfold pT
  simp only [PyData.depth, PyData.depthAll]; omega
theorem dle_same (a : Rec) : dataLe false pT a a = true := by
  rw [PySem.W.dataLe_eq]
  show (!dataLt (pT a) (pT a)) = true
  unfold pT
  rw [dataLt_tuple, lex_irrefl]; rfl
theorem dle_unlike {a b : Rec} (h : a.1 ≠ b.1) : dataLe false pT a b = !ltS b.1 a.1 := by
  rw [PySem.W.dataLe_eq]
  show (!dataLt (pT b) (pT a)) = _
  unfold pT
  rw [dataLt_pair (alike_s _ _) (alike_tt _ _)]
  have e : PyData.eqv (.str b.1) (.str a.1) = false := by
    simp only [PyData.eqv]
    exact beq_eq_false_iff_ne.mpr fun z => h z.symm
  rw [e, if_neg Bool.false_ne_true, dataLt_str]; rfl
def lookR (bs : List Rec) (x : Str) : List (Str × Str) := ((bs.find? fun t => decide (t.1 = x)).map (·.2)).getD []
theorem nd_fst {α β : Type} : ∀ {l : List (α × β)} {a b : α × β}, (l.map (·.1)).Nodup → a ∈ l → b ∈ l → a.1 = b.1 → a = b
  | x :: l, a, b, nd, ha, hb, e => by
    obtain ⟨n1, n2⟩ := List.nodup_cons.mp nd
    rcases List.mem_cons.mp ha with rfl | ka <;> rcases List.mem_cons.mp hb with rfl | kb
    · rfl
    · exact absurd (List.mem_map.mpr ⟨b, kb, e.symm⟩ : a.1 ∈ l.map fun x => x.1) n1
    · exact absurd (List.mem_map.mpr ⟨a, ka, e⟩ : b.1 ∈ l.map fun x => x.1) n1
    · exact nd_fst n2 ka kb e
theorem look_mem {bs : List Rec} (nd : (bs.map (·.1)).Nodup) {t : Rec} (h : t ∈ bs) : lookR bs t.1 = t.2 := by
  unfold lookR
  cases q : bs.find? fun u => decide (u.1 = t.1) with
  | none => exact absurd (List.find?_eq_none.mp q t h) (by simp)
  | some u =>
    have h1 := List.mem_of_find?_eq_some q
    have h2 := List.find?_some q
    rw [nd_fst nd h1 h (of_decide_eq_true h2)]; rfl
theorem sort_recs {bs : List Rec} (nd : (bs.map (·.1)).Nodup) : bs.mergeSort (dataLe false pT) = (sortT (bs.map (·.1))).map fun x => (x, lookR bs x) := by
  have m := List.map_mergeSort (f := fun t : Rec => t.1) (r := dataLe false pT) (s := fun a b : Str => !ltS b a) (l := bs) fun a ha b hb => by
    by_cases e : a.1 = b.1
    · have := nd_fst nd ha hb e
      subst this
      rw [dle_same, show ltS a.1 a.1 = false from by unfold ltS; exact decide_eq_false (List.lt_irrefl _)]; rfl
    · exact dle_unlike e
  have e : sortT (bs.map (·.1)) = (bs.mergeSort (dataLe false pT)).map (·.1) := m.symm
  rw [e, List.map_map]
  refine (List.map_id _).symm.trans (List.map_congr_left fun t ht => ?_)
  have := look_mem nd (List.mem_mergeSort.mp ht)
  show t = (t.1, lookR bs t.1)
  rw [this]
theorem each_of {K : PySem.W.Frag} {R : Hp} : ∀ {xs : List V} {us : List Value} {bs : List Rec}, RpL K R xs (bs.map eT) → Vals xs us → EachIs (fun u b => ∃ x, RelV x u ∧ Rp K R x (eT b)) us bs
  | _, _, [], r, q => by cases r; cases q; exact .nil
  | _, _, b :: bs, r, q => by
    cases r with | cons r1 r2 => cases q with | cons q1 q2 => exact .cons ⟨_, q1, r1⟩ (each_of r2 q2)
theorem of_each {K : PySem.W.Frag} {R : Hp} : ∀ {us : List Value} {bs : List Rec}, EachIs (fun u b => ∃ x, RelV x u ∧ Rp K R x (eT b)) us bs → ∃ xs, Vals xs us ∧ RpL K R xs (bs.map eT)
  | _, _, .nil => ⟨[], .nil, .nil⟩
  | _, _, .cons ⟨x, q, r⟩ t => by
    obtain ⟨xs, q2, r2⟩ := of_each t
    exact ⟨x :: xs, .cons q q2, .cons r r2⟩
def rSrtD (K : PySem.W.Frag) : List V → Hp → VK → Prop := fun vs H Q => ∃ (a : Addr) (xs : List V) (R : Hp) (bs : List Rec), vs = [.ref a] ∧ SqL K H a xs ∧ Same R H ∧ RpL K R xs (bs.map eT) ∧ ∀ ys p, RpL K R ys ((bs.mergeSort (dataLe false pT)).map eT) → H p = none → Q (.ref p) (upd H p (.lst ys))
section
variable {X : Cx}
theorem cr_srtD (hu : X.A.units + 100 < cLine) : CallR X (.builtin "sorted") (rSrtD X.K) := by
  intro pins s σ H vs us Q I r h
  obtain ⟨a, xs, R, bs, rfl, hs, hR, hx, q⟩ := h
  obtain ⟨its, rv, pl, hz⟩ := I.list hs
  obtain rfl := Vals.ref1 r
  have hlen : its.length = bs.length := by rw [← rv.length, hx.len, List.length_map]
  have hL : bs.length ≤ sizeLine := by rw [← hlen, ← rv.length]; exact hz
  have each := each_of hx rv
  refine sorted_data (bs := bs) (enc := pT) (R := fun u b => ∃ x, RelV x u ∧ Rp X.K R x (eT b)) (vs := its) (by simpa using pl.isList) each (each.mono fun u b ⟨x, q1, q2⟩ => reads_td I hR (td_t b) q2 q1) (AllAlike.of alike_t) (Sortable.tuples fun b => ⟨_, _, rfl⟩) hL (fun b _ => by have := depth_t b; omega) fun out ho he => ?_
  obtain ⟨ys, rv2, rp2⟩ := of_each he
  obtain ⟨n, hn⟩ := sortedAll_at s.heap its out.toArray
  exact ⟨.ref (s.heap.objs.size + 1), upd H (s.heap.objs.size + 1) (.lst ys), I.laid (t' := s.toks) (fun b o e => sortedAll_old e) (Nat.le_succ _) ⟨by rw [rv2.length, ho]; exact hL, out, n, rv2, hn⟩, rfl, q ys _ rp2 (I.hok.fresh (Nat.le_succ _))⟩
variable {W : Wd} {Γ : List Sl} {n c c1 c2 : Nat} {φ : D → Prop} {e a b : Expr} {pos p : Pos} {d : D}
theorem ev_sortedRec {bs : List Rec} (hu : X.A.units + 100 < cLine) (hg : Gl X "sorted") (hm : Bn X "sorted") (nd : (bs.map (·.1)).Nodup) (ha : Ev W X a Γ c (Is (.lst (bs.map eT)))) (he : starEach [a] X.env = (false, eval a X.env) :: starEach [] X.env := by rfl) (hpl : (backTo pos (starEach [] X.env)).any (·.1) = false := by rfl) :
    Ev W X (.Call (.Name "sorted" p) [a] [] pos) Γ c (Is (.lst (((sortT (bs.map (·.1))).map fun x => (x, lookR bs x)).map eT))) := fun R0 H0 Rl σ R n H s hn Q k => by
  refine wE_of (pe_callB (cr_srtD hu) hg hm PyProof.Rows.boot_sorted (pa_cons (wE_ok a) pa_nil he) (by decide) (by decide) he hpl) ?_
  refine ha R0 H0 Rl σ R n H s hn _ fun v R1 H1 d g j f r => ?_
  rw [show d = .lst (bs.map eT) from f] at r
  cases r with
  | @lst a xs _ sq r =>
    refine ⟨a, xs, R1, bs, rfl, sqL_mono g.rh sq, g.rh, r, fun ys l hy hl => ?_⟩
    rw [sort_recs nd] at hy
    have g2 : Gr W0 R1 H1 (upd R1 l (.lst ys)) (upd H1 l (.lst ys)) := Gr.new g.rh hl
    exact k _ _ _ _ (g.trans g2.of0) (g2.j j) rfl (.lst (SqL.of upd_same) (hy.mono g2.rr))
end
end Qq
/-! Qs3: sorted(set(a list of integers)); list(d); xs.extend(a new list). -/
namespace Qq
open PySem PySem.Spec PyProof.Rows L2
section
variable {P : Program} {w : World} {A : Around} {E : Value → Shared → Prop} {s : Shared}
theorem set_listI {la : Addr} {its : Array Value} (ks : List Int) {Q : Value → Shared → Prop} (hn : A.handled = none) (q0 : s.heap.IsList la its) (qi : IntsAre its.toList ks) (qb : ks.length + 1 < scanBound)
    (h : ∀ (hq : Heap) (tk c : Nat), SetR w hq s.heap.objs.size (fun j => decide (j ∈ ks)) c → c ≤ ks.length → (∀ bb o, s.heap.get? bb = some o → hq.get? bb = some o) → Q (.ref s.heap.objs.size) { s with heap := hq, toks := tk }) :
    wpAny (model P w) A (call (.type "set") [.ref la]) Q E s := by
  have qz : its.size = ks.length := by
    have q := IntsAre.length qi
    rw [Array.length_toList] at q
    exact q
  obtain ⟨c, tl, m0⟩ := F.called_set.mro
  have m1 := F.called_set.made
  have m2 := F.called_set.sub
  refine wpAny_call (codeAny_of_tree ?_)
  show wpAny _ _ (callAny (.type "set") _) _ _ _
  refine wpAny_pure ⟨Code.quiet_builtin _ (by decide +kernel), codeAny_builtin F.entry_type_call ?_⟩
  rw [Around.under_plain (weight_type_call_type "set" [.ref la] []) rfl]
  have n1 := F.called_set.notType
  have n2 := F.called_set.canCreate
  have n3 := F.typeCall_set_1 (.ref la)
  repeat (any_goals (first | assumption | wp_step))

  refine codeAny_mono (code_set_led1 (.ref la) (E := E) (Q₁ := fun ov s1 => ov = .ref s.heap.objs.size ∧ s1 = { s with heap := s.heap.push (oSet w) }) ⟨rfl, rfl⟩) fun r s1 rr => ?_
  cases r with
  | error e => exact rr
  | ok fv =>
    cases fv with
    | ret ov =>
      obtain ⟨rfl, rfl⟩ := rr
      have oS : (s.heap.push (oSet w)).get? s.heap.objs.size = some (oSet w) := Heap.get?_push_size _ rfl
      have oT : Shared.TypeIs { s with heap := s.heap.push (oSet w) } (.ref s.heap.objs.size) "set" := ⟨_, oS, rfl⟩
      have oi := F.called_set.init.lookup
      have ob := F.called_set.init.bind (.ref s.heap.objs.size)
      repeat (any_goals (first | assumption | wp_step))

      refine codeAny_mono (codeAny_call_builtin (R := wants (fun r sz => r = .none ∧ ∃ hq tk c, sz = { s with heap := hq, toks := tk } ∧ SetR w hq s.heap.objs.size (fun j => decide (j ∈ ks)) c ∧ c ≤ ks.length ∧
          (∀ bb o, s.heap.get? bb = some o → hq.get? bb = some o)) E) F.called_set.init.plain F.entry_set_init (check_set_init_1 oT ?_)) fun rz sz rrz => ?_
      · obtain ⟨uo, uho, uc, un, ud⟩ := q0
        obtain ⟨oa, obb, oc, od⟩ := uo
        simp only at uc ud
        subst uc; subst ud
        have uhq : (s.heap.push (oSet w)).get? la = some { cls := .type "list", dict := obb, data := .seq its un, slots := od } := Heap.get?_push_of_some _ uho
        have o1 := F.sub_list_set
        have o2 := F.sub_list_frozenset
        have o3 : (Value.type "list" == Value.type "dict") = false := by decide
        have w1 : (s.heap.push (oSet w)).IsList la its := ⟨_, uhq, rfl, un, rfl⟩
        unfold Builtin.«set.__init__» noKeywords Builtin.Frozenset.updateFrom
        generalize hPI : pyIter = PI
        wp_walk
        subst hPI

        refine wpAny_pyIter_list w1 ?_
        refine wpAny_bind (wpAny_runValue ?_)
        have w2 : la < s.heap.objs.size := Heap.lt_size uho
        have w3 : A.in1.in1.in1.handled = none := by simp [hn]
        have w4 : (s.heap.push (oSet w)).objs.size = s.heap.objs.size + 1 := Heap.size_push ..
        have w5 : la ≠ (s.heap.push (oSet w)).objs.size := by
          rw [Heap.size_push]; exact Nat.ne_of_lt (Nat.lt_succ_of_lt w2)
        have w6 : s.heap.objs.size ∉ [(s.heap.push (oSet w)).objs.size, la] := by
          rw [Heap.size_push]; simp only [List.mem_cons, List.mem_singleton, List.not_mem_nil, or_false, not_or]
          exact ⟨Nat.ne_of_lt (Nat.lt_succ_self _), Nat.ne_of_gt w2⟩
        have w7 : ∀ (i : Nat) (v : Value), its[i]? = some v → ∃ k t, ks[i]? = some k ∧ v = .int k t := fun i v hv => by
          have hi : i < ks.length := by rw [← qz]; exact (Array.getElem?_eq_some_iff.mp hv).1
          obtain ⟨t, e⟩ := PyProof.Rows.IntsAre.int_at qi i v (by rw [Array.getElem?_toList]; exact hv)
          refine ⟨ks[i], t, List.getElem?_eq_getElem hi, ?_⟩
          rw [e, List.getD_eq_getElem?_getD, List.getElem?_eq_getElem hi] <;> rfl
        refine set_update_ints ((Walks.list w3 _ la w5 its).toS) s.heap.objs.size
          w6 ks qz qb w7 (its.size - 0) 0 _ (by omega) (Nat.zero_le _)
          ⟨⟨_, Heap.get?_push_size _ rfl, rfl, rfl⟩, (w1.push _)⟩ ?hS0 ?hR
        case hS0 =>
          have w8 : ((s.heap.push (oSet w)).push { cls := .type "list_iterator", data := .fields #[.ref la, .int 0 0] }).get? s.heap.objs.size
              = some (oSet w) := Heap.get?_push_of_some _ oS
          exact ⟨0, Nat.le_refl 0, setR_new_at w8⟩
        case hR =>
          intro sq cq km kcq kSq
          obtain ⟨hq, g2, d', tkq, osq⟩ := sq
          have e1 : g2 = s.gens := km.gens
          have e2 : d' = s.drawn := km.drawn
          have e3 : osq = s.os := km.os
          subst e1; subst e2; subst e3
          show wpAny _ _ _ _ _ _
          refine wpAny_pure ?_
          show wpAny _ _ (ret Value.none) _ _ _
          rw [qz] at kcq
          refine wpAny_pure ⟨rfl, hq, tkq, cq, rfl, kSq, kcq, fun bb o e => ?_⟩
          have k0 : bb < s.heap.objs.size := Heap.lt_size e
          have k1 : bb ≠ s.heap.objs.size := Nat.ne_of_lt k0
          have k2 : bb ≠ (s.heap.push (oSet w)).objs.size := by
            rw [Heap.size_push]; exact Nat.ne_of_lt (Nat.lt_succ_of_lt k0)
          exact km.heap bb o (by simp only [List.mem_cons, List.mem_singleton, List.not_mem_nil, or_false, not_or]; exact ⟨k1, k2⟩) (Heap.get?_push_of_some _ (Heap.get?_push_of_some _ e))

      · cases rz with
        | error e => exact rrz
        | ok flz =>
          cases flz with
          | ret r =>
            obtain ⟨rfl, hq, tk, cq, rfl, kSq, kcq, kk⟩ := rrz
            repeat (any_goals (first | assumption | wp_step))
            exact h _ _ _ kSq kcq kk
          | _ => exact rrz.elim
    | _ => exact rr.elim

end

theorem keys_rp {K : PySem.W.Frag} {R : Hp} : ∀ {kvs : List (Key × V)} {kds : List (Key × D)}, RpK K R kvs kds → RpL K R (kvs.map fun kv => kV kv.1) (kds.map fun q => kD q.1)
  | _, _, .nil => .nil
  | _, _, .cons _ t => .cons rp_kV (keys_rp t)
theorem ints_vals : ∀ {ns : List Int} {us : List Value}, Vals (ns.map V.int) us → IntsAre us ns
  | [], _, h => by cases h; exact .nil
  | n :: ns, _, h => by
    cases h with | cons r t =>
    obtain ⟨tk, rfl⟩ := r
    exact .cons n tk (ints_vals t)
section
variable {X : Cx}
def rSetL (K : PySem.W.Frag) (w : World) : List V → Hp → VK → Prop := fun vs H Q => ∃ (a : Addr) (ns : List Int), vs = [.ref a] ∧ SqL K H a (ns.map .int) ∧ ns.length < 64 ∧ ∀ p c, c ≤ ns.length → H p = none → Q (.ref p) (upd H p (SetO w p (fun j => decide (j ∈ ns)) c))
theorem cr_setL (hc : X.calm = true) : CallR X (.type "set") (rSetL X.K X.w) := by
  intro pins s σ H vs us Q I r h
  obtain ⟨a, ns, rfl, hs, h64, q⟩ := h
  obtain ⟨its, rv, pl, hz⟩ := I.list hs
  obtain rfl := Vals.ref1 r
  refine set_listI ns (I.ok.hd hc) pl.isList (by simpa using ints_vals rv) (by unfold scanBound; omega) fun h' tk c hS hle hk => ?_
  exact ⟨.ref s.heap.objs.size, upd H s.heap.objs.size (SetO X.w s.heap.objs.size (fun j => decide (j ∈ ns)) c), I.laid (t' := tk) hk (Nat.le_refl _) (setO_new hS), rfl, q _ c hle (I.hok.fresh (Nat.le_refl _))⟩
variable {W : Wd} {Γ : List Sl} {n c c1 c2 : Nat} {φ : D → Prop} {e a b : Expr} {pos p p2 pos2 apos cpos npos : Pos} {d : D} {P : Pst}
/-- sorted(set(a)) -/
theorem ev_sortedSetL {ns : List Int} (hc : X.calm = true) (hg : Gl X "sorted") (hm : Bn X "sorted") (hg2 : Gl X "set") (hm2 : Bn X "set") (h64 : ns.length < 64) (ha : Ev W X a Γ c (Is (.lst (ns.map .int)))) (he2 : starEach [a] X.env = (false, eval a X.env) :: starEach [] X.env := by rfl)
    (he : starEach [.Call (.Name "set" p2) [a] [] pos2] X.env = (false, eval (.Call (.Name "set" p2) [a] [] pos2) X.env) :: starEach [] X.env := by rfl) (hpl2 : (backTo pos2 (starEach [] X.env)).any (·.1) = false := by rfl) (hpl : (backTo pos (starEach [] X.env)).any (·.1) = false := by rfl) :
    Ev W X (.Call (.Name "sorted" p) [.Call (.Name "set" p2) [a] [] pos2] [] pos) Γ c (Is (.lst ((asc ns).map .int))) := fun R0 H0 Rl σ R n H s hn Q k => by
  refine wE_of (pe_callB (cr_sortedSet hc) hg hm PyProof.Rows.boot_sorted (pa_cons (pe_callTy (cr_setL hc) hg2 hm2 PyProof.Rows.boot_set (pa_cons (wE_ok a) pa_nil he2) (by decide) (by decide) he2 hpl2) pa_nil he) (by decide) (by decide) he hpl) ?_
  refine ha R0 H0 Rl σ R n H s hn _ fun v R1 H1 d g j f r => ?_
  rw [show d = .lst (ns.map .int) from f] at r
  cases r with
  | @lst a xs _ sq r =>
    obtain rfl := rp_ints r
    refine ⟨a, ns, rfl, sqL_mono g.rh sq, h64, fun q cn hcn hq => ?_⟩
    refine ⟨q, _, cn, rfl, upd_same, by omega, fun os l hpw hos hol hl => ?_⟩
    obtain rfl := asc_eq hpw fun k => (hos k).trans (by rw [decide_eq_true_eq])
    have gA : Gr W R1 H1 R1 (upd H1 q (SetO X.w q (fun j => decide (j ∈ ns)) cn)) := Gr.newM g.rh hq
    have jA : W.J (n + c) (upd H1 q (SetO X.w q (fun j => decide (j ∈ ns)) cn)) := W.loc j fun b o _ e => by rw [upd_ne (ne_of_none e hq)]; exact e
    have gB : Gr W0 R1 (upd H1 q (SetO X.w q (fun j => decide (j ∈ ns)) cn)) (upd R1 l (.lst ((asc ns).map V.int))) (upd (upd H1 q (SetO X.w q (fun j => decide (j ∈ ns)) cn)) l (.lst ((asc ns).map V.int))) := Gr.new gA.rh hl
    exact k _ _ _ _ ((g.trans gA).trans gB.of0) (gB.j jA) rfl (.lst (SqL.of upd_same) ints_rp)
/-- list(d), a new list -/
theorem em_listD {kds : List (Key × D)} (hc : X.calm = true) (hg : Gl X "list") (hm : Bn X "list") (ha : Ev W X a Γ c (Is (.dct kds))) (he : starEach [a] X.env = (false, eval a X.env) :: starEach [] X.env := by rfl) (hpl : (backTo pos (starEach [] X.env)).any (·.1) = false := by rfl) :
    EvM W X (.Call (.Name "list" p) [a] [] pos) Γ c (fun sl => sl = .ml (kds.map fun q => kD q.1)) := fun R0 H0 Rl σ R n H s hn Q k => by
  refine wE_of (pe_callTy (call_listD hc) hg hm PyProof.Rows.boot_list (pa_cons (wE_ok a) pa_nil he) (by decide) (by decide) he hpl) ?_
  refine ha R0 H0 Rl σ R n H s hn _ fun v R1 H1 d g j f r => ?_
  rw [show d = .dct kds from f] at r
  cases r with
  | @dct a kvs _ q0 r =>
    obtain ⟨o, q⟩ := q0
    refine ⟨a, kvs, rfl, .inr ⟨o, g.rh _ _ q⟩, fun l hl => ?_⟩
    have hlH : H l = none := by
      cases q : H l with
      | none => rfl
      | some o => obtain ⟨o', e⟩ := g.hb l o q; rw [hl] at e; cases e
    exact k l R1 _ (.ml (kds.map fun q => kD q.1)) (g.trans (Gr.newM g.rh hl)) (W.loc j fun b o _ e => by rw [upd_ne (ne_of_none e hl)]; exact e) hlH ⟨_, g.rh.free hl, upd_same, keys_rp r⟩ rfl
/-- xs.extend(a new list) -/
theorem sm_extend {i : Nat} {x : Str} {ds zs : List D} (hN : X.N[i]? = some x) (hv : Vis X.env.scope x) (hΓ : Γ[i]? = some (.ml ds)) (h : EvM W X e Γ c (fun sl => sl = .ml zs)) (hl : n + c ≤ LIM) (hlen : ds.length + zs.length < 4000) (k : P.nx (Γ.set i (.ml (ds ++ zs))) (n + c))
    (hd : (x == ("__debug__" : Str)) = false := by decide) (hcd : (x == ("__classdict__" : Str)) = false := by decide)
    (hbase : attributeBase (.Name x npos) "extend" X.env (eval (.Name x npos) X.env) = eval (.Name x npos) X.env := by rfl)
    (hfew : ((backTo cpos (starEach [e] X.env)).all (fun x => !x.1) && (backToKw cpos (keywordEach [] X.env)).all (fun x => x.1.isSome)
      && decide (([e] : List Expr).length + ([] : List Keyword).length + (if ([] : List Keyword).isEmpty then 0 else 1) < 30)) = true := by rfl)
    (hline : (apos.endLine == cpos.line) = true := by rfl) (hs : starEach [e] X.env = (false, eval e X.env) :: starEach [] X.env := by rfl) (hplain : (backTo cpos (starEach [] X.env)).any (·.1) = false := by rfl)
    (hsw : swapsWith (.Call (.Attribute (.Name x npos) "extend" apos) [e] [] cpos) none pos.line X.env = pure false := by rfl) :
    Sm W X (.Expr (.Call (.Attribute (.Name x npos) "extend" apos) [e] [] cpos) pos) Γ n P := fun R0 H0 Rl R σ H E s en => by
  refine wS_of (ps_expr (pe_bm PySem.F.plainAttrs_list PySem.F.slot_list_extend PySem.F.type_list_extend mt_extend (pe_var hN hv hd hcd) (pa_cons (wE_ok e) pa_nil hs) hbase hfew hline hs hplain) hsw) ?_
  have hlt : i < σ.length := by rw [s.env.len]; exact (List.getElem?_eq_some_iff.mp hΓ).1
  obtain ⟨q, xs, e1, hR, h0, nB, hH, r⟩ := s.env.ok i _ σ[i] hΓ (List.getElem?_eq_getElem hlt)
  have hσ : σ[i]? = some (some (.ref q)) := by rw [List.getElem?_eq_getElem hlt, e1]
  refine ⟨_, hσ, .inl ⟨rfl, _, SqL.of hH⟩, ?_⟩
  refine h R0 H0 Rl σ R n H s hl _ fun b R' H' sl g j hb mc f => ?_
  subst f
  obtain ⟨ys, hbR, hbH, ry⟩ := mc
  have hH' : H' q = some (.lst xs) := g.hh q _ nB hH
  have hR' : R' q = none := g.nw q _ hH hR
  refine ⟨q, b, xs, ys, rfl, rfl, hH', hbH, Nat.le_trans (by rw [r.len, ry.len]; omega : xs.length + ys.length ≤ 4000) (by decide), ?_⟩
  refine en.nx _ _ R' _ _ ((s.grow g j).write hΓ rfl rfl hσ hR' h0 nB ?_) k
  exact ⟨q, xs ++ ys, rfl, hR', h0, nB, upd_same, (r.mono g.rr).append ry⟩
end
end Qq
namespace K5
open PySem PySem.Spec PyProof.Rows L2 Qq
def top (i : Nat) : Stmt := PySem.Challenge.pw_toldmoment_k05_whole_what_lies_under_key.main.body.getD i (.Pass ⟨0, 0, 0, 0⟩)
abbrev bnames : List Str := ["isinstance", "int", "bool", "str", "tuple", "len", "all", "zip", "set", "sorted", "dict", "list", "range", "max", "min", "sum", "abs"]
def Bns (mg : Str → Option Value) : Prop := ∀ x ∈ bnames, mg x = none
structure Cns (mg : Str → Option Value) : Prop where
  MOST_PARTS : ∃ t, mg "MOST_PARTS" = some (.int 6 t)
  MOST_LETTERS : ∃ t, mg "MOST_LETTERS" = some (.int 6 t)
  MOST_SIGNS : ∃ t, mg "MOST_SIGNS" = some (.int 12 t)
  GREATEST_KEY : ∃ t, mg "GREATEST_KEY" = some (.int 999999 t)
  GREATEST_VALUE : ∃ t, mg "GREATEST_VALUE" = some (.int 99999999999 t)
/-! mirrors -/
def intD (d : D) : Bool := isIntT d && !isBoolT d
def shortD (k : Int) : D → Bool
  | .tup l => decide ((l.length : Int) ≤ k)
  | .rws l => decide ((l.length : Int) ≤ k)
  | _ => false
def pairD : D → Bool
  | .tup l => decide (l.length = 2)
  | .rws l => decide (l.length = 2)
  | _ => false
section
variable {P : Program} {w : World} {K : PySem.W.Frag} {mg : Str → Option Value} {base : Heap} {f : Addr} {fd : FuncData}
theorem sc13 : FnScope ["value"] ["value"] (defScope (top 13)) := ⟨rfl, rfl, rfl, by decide +kernel, rfl, by decide +kernel, by decide +kernel⟩
theorem ok13 (hB : Bns mg) (F : FnP K "is_integer" (top 13) f fd) : FnOk P w K mg base CX0 1 f fd ["value"]  (spF K 0 (SQ1 (fun _ => True) fun d => .bl (intD d))) := by
  refine fn_ok F sc13 (fun W as φ h => by obtain ⟨d, rfl, _⟩ := h; rfl) (by decide) fun cdv A outer s H E W as φ n hr hS hn => ?_
  obtain ⟨d, rfl, _, hφ⟩ := hS
  refine ss_ret (by exact (by first | exact ev_andF' (by exact ev_isInt (by rfl) (by exact hB _ (by decide +kernel)) (by rfl) (by exact hB _ (by decide +kernel)) (by exact ev_var (i := 0) rfl (by first | exact Or.inl rfl | exact Or.inr (Or.inl rfl) | exact Or.inr (Or.inr rfl)) rfl)) (by first | rfl | assumption) | exact ev_and (by exact ev_isInt (by rfl) (by exact hB _ (by decide +kernel)) (by rfl) (by exact hB _ (by decide +kernel)) (by exact ev_var (i := 0) rfl (by first | exact Or.inl rfl | exact Or.inr (Or.inl rfl) | exact Or.inr (Or.inr rfl)) rfl)) (fun hb => by exact ev_one (by exact ev_not (by exact ev_isBool (by rfl) (by exact hB _ (by decide +kernel)) (by rfl) (by exact hB _ (by decide +kernel)) (by exact ev_var (i := 0) rfl (by first | exact Or.inl rfl | exact Or.inr (Or.inl rfl) | exact Or.inr (Or.inr rfl)) rfl)))))) (by omega) ⟨?_, by omega⟩
  rcases d with _ | b | i | z | l | l | l | l <;> exact hφ
theorem sc14 : FnScope ["value", "most"] ["value", "most"] (defScope (top 14)) := ⟨rfl, rfl, rfl, by decide +kernel, rfl, by decide +kernel, by decide +kernel⟩
theorem ok14 (hB : Bns mg) (F : FnP K "is_short" (top 14) f fd) : FnOk P w K mg base CX0 1 f fd ["value", "most"]  (spF K 0 (SQ2 (fun _ k => ∃ i, k = .int i) fun d k => .bl (match k with | .int i => shortD i d | _ => false))) := by
  refine fn_ok F sc14 (fun W as φ h => by obtain ⟨d, k, rfl, _⟩ := h; rfl) (by decide) fun cdv A outer s H E W as φ n hr hS hn => ?_
  obtain ⟨d, k, rfl, ⟨i, rfl⟩, hφ⟩ := hS
  rcases d with _ | b | i | z | l | l | l | l <;> refine ss_ret (by exact (by first | exact ev_andF' (by exact ev_isTup (by rfl) (by exact hB _ (by decide +kernel)) (by rfl) (by exact hB _ (by decide +kernel)) (by exact ev_var (i := 0) rfl (by first | exact Or.inl rfl | exact Or.inr (Or.inl rfl) | exact Or.inr (Or.inr rfl)) rfl)) (by first | rfl | assumption) | exact ev_and (by exact ev_isTup (by rfl) (by exact hB _ (by decide +kernel)) (by rfl) (by exact hB _ (by decide +kernel)) (by exact ev_var (i := 0) rfl (by first | exact Or.inl rfl | exact Or.inr (Or.inl rfl) | exact Or.inr (Or.inr rfl)) rfl)) (fun hb => by exact ev_one (by exact ev_leI (by exact ev_len (by rfl) (by exact hB _ (by decide +kernel)) (by exact ev_var (i := 0) rfl (by first | exact Or.inl rfl | exact Or.inr (Or.inl rfl) | exact Or.inr (Or.inr rfl)) rfl) (by first | rfl | assumption | trivial | omega) (by first | rfl | assumption | trivial | omega)) (by exact ev_var (i := 1) rfl (by first | exact Or.inl rfl | exact Or.inr (Or.inl rfl) | exact Or.inr (Or.inr rfl)) rfl))))) (by omega) ⟨?_, by omega⟩ <;> exact hφ
theorem sc15 : FnScope ["value"] ["value"] (defScope (top 15)) := ⟨rfl, rfl, rfl, by decide +kernel, rfl, by decide +kernel, by decide +kernel⟩
theorem ok15 (hB : Bns mg) (F : FnP K "is_pair" (top 15) f fd) : FnOk P w K mg base CX0 1 f fd ["value"]  (spF K 0 (SQ1 (fun _ => True) fun d => .bl (pairD d))) := by
  refine fn_ok F sc15 (fun W as φ h => by obtain ⟨d, rfl, _⟩ := h; rfl) (by decide) fun cdv A outer s H E W as φ n hr hS hn => ?_
  obtain ⟨d, rfl, _, hφ⟩ := hS
  rcases d with _ | b | i | z | l | l | l | l <;> refine ss_ret (by exact (by first | exact ev_andF' (by exact ev_isTup (by rfl) (by exact hB _ (by decide +kernel)) (by rfl) (by exact hB _ (by decide +kernel)) (by exact ev_var (i := 0) rfl (by first | exact Or.inl rfl | exact Or.inr (Or.inl rfl) | exact Or.inr (Or.inr rfl)) rfl)) (by first | rfl | assumption) | exact ev_and (by exact ev_isTup (by rfl) (by exact hB _ (by decide +kernel)) (by rfl) (by exact hB _ (by decide +kernel)) (by exact ev_var (i := 0) rfl (by first | exact Or.inl rfl | exact Or.inr (Or.inl rfl) | exact Or.inr (Or.inr rfl)) rfl)) (fun hb => by exact ev_one (by exact ev_eq (by exact ev_len (by rfl) (by exact hB _ (by decide +kernel)) (by exact ev_var (i := 0) rfl (by first | exact Or.inl rfl | exact Or.inr (Or.inl rfl) | exact Or.inr (Or.inr rfl)) rfl) (by first | rfl | assumption | trivial | omega) (by first | rfl | assumption | trivial | omega)) (by exact ev_int) (by first | rfl | assumption | trivial | omega))))) (by omega) ⟨?_, by omega⟩ <;> first | exact hφ | skip
  all_goals
    have e : pairD (.tup l) = (true && eqS (.int (l.length : Nat)) (.int 2)) := by
      show decide (l.length = 2) = decide (((l.length : Nat) : Int) = 2)
      by_cases q : l.length = 2
      · simp [q]
      · have : ¬ ((l.length : Nat) : Int) = 2 := by omega
        simp [q, this]
    have hφ' : φ (.bl (pairD (.tup l))) := hφ
    rw [e] at hφ'
    exact hφ'
/-! ascending -/
def ltD : D → D → Bool
  | .str a, .str b => ltS a b
  | .int a, .int b => decide (a < b)
  | _, _ => false
def ascD : D → Bool
  | .tup l => (l.zip (l.drop 1)).all fun p => ltD p.1 p.2
  | .lst l => (l.zip (l.drop 1)).all fun p => ltD p.1 p.2
  | _ => false
theorem zip_str (ns : List Str) : zipD (ns.map D.str) (cutD (ns.map D.str) (some 1) none) = (ns.zip (ns.drop 1)).map fun p => .tup [.str p.1, .str p.2] := by
  rw [cut_tail, zipD, ← List.map_drop, List.zip_map, List.map_map]; rfl
theorem zip_int (ns : List Int) : zipD (ns.map D.int) (cutD (ns.map D.int) (some 1) none) = (ns.zip (ns.drop 1)).map fun p => .tup [.int p.1, .int p.2] := by
  rw [cut_tail, zipD, ← List.map_drop, List.zip_map, List.map_map]; rfl
theorem zl {α : Type} {l : List α} (h : l.length ≤ 4000) : (l.zip (l.drop 1)).length ≤ 4000 := by rw [List.length_zip]; omega
theorem sc16 : FnScope ["parts", "low", "high"] ["parts"] (defScope (top 16)) := ⟨rfl, rfl, rfl, by decide +kernel, rfl, by decide +kernel, by decide +kernel⟩
theorem ok16 (hB : Bns mg) (F : FnP K "is_ascending" (top 16) f fd) : FnOk P w K mg base CX0 1 f fd ["parts"]  (spF K 0 (SQ1 (fun d => (∃ ns : List Str, d = .tup (ns.map .str) ∧ ns.length ≤ 4000) ∨ (∃ ks : List Int, d = .lst (ks.map .int) ∧ ks.length ≤ 4000)) fun d => .bl (ascD d))) := by
  refine fn_ok F sc16 (fun W as φ h => by obtain ⟨d, rfl, _⟩ := h; rfl) (by decide) fun cdv A outer s H E W as φ n hr hS hn => ?_
  obtain ⟨d, rfl, hd, hφ⟩ := hS
  rcases hd with ⟨ns, rfl, hl⟩ | ⟨ns, rfl, hl⟩
  · have hl' := zl hl
    refine ss_retE (by exact ev_all (by rfl) (by rfl) (by exact hB _ (by decide +kernel)) (by exact ev_lcB (own := [("low", 1), ("high", 2)]) (xs := ns.zip (ns.drop 1)) (enc := fun p => .tup [.str p.1, .str p.2]) (fun x => [(1, .str x.1), (2, .str x.2)]) (by rfl) sc16.nd (blkOk_by (N := ["parts", "low", "high"]) (sc := defScope (top 16)) (by decide +kernel)) (by exact EvI.to (by exact EvI.z (by exact ei_zipI (by rfl) (by exact hB _ (by decide +kernel)) (by exact es_consI (by exact ev_var (i := 0) rfl (by first | exact Or.inl rfl | exact Or.inr (Or.inl rfl) | exact Or.inr (Or.inr rfl)) rfl) (by exact es_consI (by exact (by first | exact ev_slT (by exact ev_var (i := 0) rfl (by first | exact Or.inl rfl | exact Or.inr (Or.inl rfl) | exact Or.inr (Or.inr rfl)) rfl) (by exact eo_some (by exact Ev.z (by exact ev_int) (by rfl))) eo_none | exact ev_slL (by exact ev_var (i := 0) rfl (by first | exact Or.inl rfl | exact Or.inr (Or.inl rfl) | exact Or.inr (Or.inr rfl)) rfl) (by exact eo_some (by exact Ev.z (by exact ev_int) (by rfl))) eo_none)) (by exact es_nil))) (by first | exact Or.inl rfl | exact Or.inr rfl)) (by rfl)) (zip_str ns)) (fun x hx => by exact ⟨fun s1 H1 C1 cl1 fp1 => ⟨(by exact Tg.to (by exact tg_tup (by rfl) (by exact tl_cons (by exact tg_name (i := 1) sc16.nd rfl (by first | exact Or.inl rfl | exact Or.inr rfl)) (by exact tl_cons (by exact tg_name (i := 2) sc16.nd rfl (by first | exact Or.inl rfl | exact Or.inr rfl)) (by exact tl_nil)))) (by rfl)), (by exact Ev.to (by exact Ev.z (by exact (by first | exact ev_ltI (by exact ev_var (i := 1) rfl (by first | exact Or.inl rfl | exact Or.inr (Or.inl rfl) | exact Or.inr (Or.inr rfl)) rfl) (by exact ev_var (i := 2) rfl (by first | exact Or.inl rfl | exact Or.inr (Or.inl rfl) | exact Or.inr (Or.inr rfl)) rfl) | exact ev_ltSS (by exact ev_var (i := 1) rfl (by first | exact Or.inl rfl | exact Or.inr (Or.inl rfl) | exact Or.inr (Or.inr rfl)) rfl) (by exact ev_var (i := 2) rfl (by first | exact Or.inl rfl | exact Or.inr (Or.inl rfl) | exact Or.inr (Or.inr rfl)) rfl))) (by rfl)) (by rfl))⟩, by simp⟩) (by first | rfl | assumption | trivial | omega))) (by omega) ?_ ⟨hφ, by omega⟩
    rw [List.all_map]; show _ = D.bl (((ns.map _).zip ((ns.map _).drop 1)).all _); rw [← List.map_drop, List.zip_map, List.all_map]; rfl
  · have hl' := zl hl
    refine ss_retE (by exact ev_all (by rfl) (by rfl) (by exact hB _ (by decide +kernel)) (by exact ev_lcB (own := [("low", 1), ("high", 2)]) (xs := ns.zip (ns.drop 1)) (enc := fun p => .tup [.int p.1, .int p.2]) (fun x => [(1, .int x.1), (2, .int x.2)]) (by rfl) sc16.nd (blkOk_by (N := ["parts", "low", "high"]) (sc := defScope (top 16)) (by decide +kernel)) (by exact EvI.to (by exact EvI.z (by exact ei_zipI (by rfl) (by exact hB _ (by decide +kernel)) (by exact es_consI (by exact ev_var (i := 0) rfl (by first | exact Or.inl rfl | exact Or.inr (Or.inl rfl) | exact Or.inr (Or.inr rfl)) rfl) (by exact es_consI (by exact (by first | exact ev_slT (by exact ev_var (i := 0) rfl (by first | exact Or.inl rfl | exact Or.inr (Or.inl rfl) | exact Or.inr (Or.inr rfl)) rfl) (by exact eo_some (by exact Ev.z (by exact ev_int) (by rfl))) eo_none | exact ev_slL (by exact ev_var (i := 0) rfl (by first | exact Or.inl rfl | exact Or.inr (Or.inl rfl) | exact Or.inr (Or.inr rfl)) rfl) (by exact eo_some (by exact Ev.z (by exact ev_int) (by rfl))) eo_none)) (by exact es_nil))) (by first | exact Or.inl rfl | exact Or.inr rfl)) (by rfl)) (zip_int ns)) (fun x hx => by exact ⟨fun s1 H1 C1 cl1 fp1 => ⟨(by exact Tg.to (by exact tg_tup (by rfl) (by exact tl_cons (by exact tg_name (i := 1) sc16.nd rfl (by first | exact Or.inl rfl | exact Or.inr rfl)) (by exact tl_cons (by exact tg_name (i := 2) sc16.nd rfl (by first | exact Or.inl rfl | exact Or.inr rfl)) (by exact tl_nil)))) (by rfl)), (by exact Ev.to (by exact Ev.z (by exact (by first | exact ev_ltI (by exact ev_var (i := 1) rfl (by first | exact Or.inl rfl | exact Or.inr (Or.inl rfl) | exact Or.inr (Or.inr rfl)) rfl) (by exact ev_var (i := 2) rfl (by first | exact Or.inl rfl | exact Or.inr (Or.inl rfl) | exact Or.inr (Or.inr rfl)) rfl) | exact ev_ltSS (by exact ev_var (i := 1) rfl (by first | exact Or.inl rfl | exact Or.inr (Or.inl rfl) | exact Or.inr (Or.inr rfl)) rfl) (by exact ev_var (i := 2) rfl (by first | exact Or.inl rfl | exact Or.inr (Or.inl rfl) | exact Or.inr (Or.inr rfl)) rfl))) (by rfl)) (by rfl))⟩, by simp⟩) (by first | rfl | assumption | trivial | omega))) (by omega) ?_ ⟨hφ, by omega⟩
    rw [List.all_map]; show _ = D.bl (((ns.map _).zip ((ns.map _).drop 1)).all _); rw [← List.map_drop, List.zip_map, List.all_map]; rfl
/-! names -/
def signOk (lo hi : Str) (s : Str) : Bool := !ltS s lo && !ltS hi s
def sgns (z : Str) : List Str := z.cps.toList.map fun c => ⟨#[c]⟩
theorem signs_sgns (z : Str) : Qq.signs z = (sgns z).map D.str := by unfold Qq.signs sgns; rw [List.map_map]; rfl
theorem sgns_len (z : Str) : (sgns z).length = z.length := by unfold sgns; rw [List.length_map, Array.length_toList]; rfl
def nameS (z : Str) : Bool := (decide ((1 : Int) ≤ z.length) && decide ((z.length : Int) ≤ 6)) && (sgns z).all (signOk "a" "z")
def nameD : D → Bool
  | .str z => nameS z
  | _ => false
theorem sc17 : FnScope ["value", "sign"] ["value"] (defScope (top 17)) := ⟨rfl, rfl, rfl, by decide +kernel, rfl, by decide +kernel, by decide +kernel⟩
theorem ok17 (hB : Bns mg) (hc : Cns mg) (F : FnP K "is_name" (top 17) f fd) : FnOk P w K mg base CX0 1 f fd ["value"]  (spF K 0 (SQ1 (fun d => strFits d = true) fun d => .bl (nameD d))) := by
  refine fn_ok F sc17 (fun W as φ h => by obtain ⟨d, rfl, _⟩ := h; rfl) (by decide) fun cdv A outer s H E W as φ n hr hS hn => ?_
  obtain ⟨d, rfl, hd, hφ⟩ := hS
  obtain ⟨tml, hml⟩ := hc.MOST_LETTERS
  by_cases hz : ∃ z, d = .str z
  · obtain ⟨z, rfl⟩ := hz
    refine ss_if (by exact et_pw (by exact (by first | exact et_orT' (by exact et_not (by exact et_v (by exact ev_isStr (by rfl) (by exact hB _ (by decide +kernel)) (by rfl) (by exact hB _ (by decide +kernel)) (by exact ev_var (i := 0) rfl (by first | exact Or.inl rfl | exact Or.inr (Or.inl rfl) | exact Or.inr (Or.inr rfl)) rfl)))) (by first | rfl | assumption) | exact et_or (by exact et_not (by exact et_v (by exact ev_isStr (by rfl) (by exact hB _ (by decide +kernel)) (by rfl) (by exact hB _ (by decide +kernel)) (by exact ev_var (i := 0) rfl (by first | exact Or.inl rfl | exact Or.inr (Or.inl rfl) | exact Or.inr (Or.inr rfl)) rfl)))) (fun hb => by exact eW_or1 (by exact et_not (by exact (by first | exact et_chII (by exact ev_int) (by exact ev_len (by rfl) (by exact hB _ (by decide +kernel)) (by exact ev_var (i := 0) rfl (by first | exact Or.inl rfl | exact Or.inr (Or.inl rfl) | exact Or.inr (Or.inr rfl)) rfl) (by first | rfl | assumption | trivial | omega) (by first | rfl | assumption | trivial | omega)) (by exact ev_gint (by rfl) (by assumption)) | exact et_chSS (by exact ev_int) (by exact ev_len (by rfl) (by exact hB _ (by decide +kernel)) (by exact ev_var (i := 0) rfl (by first | exact Or.inl rfl | exact Or.inr (Or.inl rfl) | exact Or.inr (Or.inr rfl)) rfl) (by first | rfl | assumption | trivial | omega) (by first | rfl | assumption | trivial | omega)) (by exact ev_gint (by rfl) (by assumption))))))))) (by omega) (fun hz => ?_) (fun hz => ?_)
    · refine ss_retE (by exact ev_bl) (by omega) ?_ ⟨hφ, by omega⟩
      have : nameS z = false := by
        unfold nameS
        simp only [isStrT, Bool.not_true, Bool.false_or, Bool.not_eq_true'] at hz
        rw [hz]; rfl
      show D.bl false = D.bl (nameS z)
      rw [this]
    · apply ss_nil
      have hz' : (decide ((1 : Int) ≤ z.length) && decide ((z.length : Int) ≤ 6)) = true := by
        simpa [isStrT] using hz
      have hlen : (sgns z).length ≤ 4000 := by
        rw [sgns_len]
        rw [Bool.and_eq_true] at hz'
        have := of_decide_eq_true hz'.2
        omega
      refine ss_retE (by exact ev_all (by rfl) (by rfl) (by exact hB _ (by decide +kernel)) (by exact ev_lcB (own := [("sign", 1)]) (xs := sgns z) (enc := D.str) (fun x => [(1, .str x)]) (by rfl) sc17.nd (blkOk_by (N := ["value", "sign"]) (sc := defScope (top 17)) (by decide +kernel)) (by exact EvI.to (by exact EvI.z (by exact ei_strI (by exact ev_var (i := 0) rfl (by first | exact Or.inl rfl | exact Or.inr (Or.inl rfl) | exact Or.inr (Or.inr rfl)) rfl)) (by rfl)) (signs_sgns z)) (fun x hx => by exact ⟨fun s1 H1 C1 cl1 fp1 => ⟨(by exact Tg.to (by exact tg_name (i := 1) sc17.nd rfl (by first | exact Or.inl rfl | exact Or.inr rfl)) (by rfl)), (by exact Ev.to (by exact Ev.z (by exact (by first | exact ev_chII (by exact ev_str) (by exact ev_var (i := 1) rfl (by first | exact Or.inl rfl | exact Or.inr (Or.inl rfl) | exact Or.inr (Or.inr rfl)) rfl) (by exact ev_str) | exact ev_chSS (by exact ev_str) (by exact ev_var (i := 1) rfl (by first | exact Or.inl rfl | exact Or.inr (Or.inl rfl) | exact Or.inr (Or.inr rfl)) rfl) (by exact ev_str))) (by rfl)) (by rfl))⟩, by simp⟩) (by first | rfl | assumption | trivial | omega))) (by omega) ?_ ⟨hφ, by omega⟩
      show _ = D.bl (nameS z)
      unfold nameS
      rw [hz', List.all_map]; rfl
  · have hs : (!isStrT d) = true := by cases d <;> first | rfl | exact absurd ⟨_, rfl⟩ hz
    refine ss_ifT (z := true) (by exact et_pw (by exact (by first | exact et_orT' (by exact et_not (by exact et_v (by exact ev_isStr (by rfl) (by exact hB _ (by decide +kernel)) (by rfl) (by exact hB _ (by decide +kernel)) (by exact ev_var (i := 0) rfl (by first | exact Or.inl rfl | exact Or.inr (Or.inl rfl) | exact Or.inr (Or.inr rfl)) rfl)))) (by first | rfl | assumption) | exact et_or (by exact et_not (by exact et_v (by exact ev_isStr (by rfl) (by exact hB _ (by decide +kernel)) (by rfl) (by exact hB _ (by decide +kernel)) (by exact ev_var (i := 0) rfl (by first | exact Or.inl rfl | exact Or.inr (Or.inl rfl) | exact Or.inr (Or.inr rfl)) rfl)))) (fun hb => by exact eW_or1 (by exact et_not (by exact (by first | exact et_chII (by exact ev_int) (by exact ev_len (by rfl) (by exact hB _ (by decide +kernel)) (by exact ev_var (i := 0) rfl (by first | exact Or.inl rfl | exact Or.inr (Or.inl rfl) | exact Or.inr (Or.inr rfl)) rfl) (by first | rfl | assumption | trivial | omega) (by first | rfl | assumption | trivial | omega)) (by exact ev_gint (by rfl) (by assumption)) | exact et_chSS (by exact ev_int) (by exact ev_len (by rfl) (by exact hB _ (by decide +kernel)) (by exact ev_var (i := 0) rfl (by first | exact Or.inl rfl | exact Or.inr (Or.inl rfl) | exact Or.inr (Or.inr rfl)) rfl) (by first | rfl | assumption | trivial | omega) (by first | rfl | assumption | trivial | omega)) (by exact ev_gint (by rfl) (by assumption))))))))) rfl (by omega) ?_
    refine ss_retE (by exact ev_bl) (by omega) ?_ ⟨hφ, by omega⟩
    cases d <;> first | rfl | exact absurd ⟨_, rfl⟩ hz
end
end K5
namespace K5
open PySem PySem.Spec PyProof.Rows L2 Qq
/-! well-formed data -/
abbrev Col := Str × Str
abbrev Cols := List Col
abbrev Tab := Str × Cols
abbrev Sch := List Tab
abbrev Row := Int × List D
abbrev Rws := List Row
abbrev Stt := List (Str × Rws)
def eCol (c : Col) : D := .tup [.str c.1, .str c.2]
def eCols (cs : Cols) : D := .tup (cs.map eCol)
def eTab (t : Tab) : D := .tup [.str t.1, eCols t.2]
def eSch (s : Sch) : D := .tup (s.map eTab)
def eRow (r : Row) : D := .tup [.int r.1, .tup r.2]
def eRows (rs : Rws) : D := .tup (rs.map eRow)
def ePart (p : Str × Rws) : D := .tup [.str p.1, eRows p.2]
def eStt (s : Stt) : D := .tup (s.map ePart)
def kindOk (k : Str) : Prop := k = "int" ∨ k = "text"
def valOk (k : Str) : D → Prop
  | .non => True
  | .int i => k = "int" ∧ -99999999999 ≤ i ∧ i ≤ 99999999999
  | .str z => k = "text" ∧ z.length ≤ 12 ∧ (sgns z).all (signOk "!" "~") = true
  | _ => False
structure WCols (cs : Cols) : Prop where
  len : cs.length ≤ 6
  nm : ∀ c ∈ cs, nameS c.1 = true
  kd : ∀ c ∈ cs, kindOk c.2
  nd : (cs.map (·.1)).Nodup
structure WSch (s : Sch) : Prop where
  len : s.length ≤ 6
  nm : ∀ c ∈ s, nameS c.1 = true
  cs : ∀ c ∈ s, WCols c.2
  nd : (s.map (·.1)).Nodup
  asc : ascD (.tup ((s.map (·.1)).map .str)) = true
def WVals (cs : Cols) (vs : List D) : Prop := vs.length = cs.length ∧ ∀ (i : Nat) (c : Col) (v : D), cs[i]? = some c → vs[i]? = some v → valOk c.2 v
structure WRows (cs : Cols) (rs : Rws) : Prop where
  len : rs.length ≤ 4000
  key : ∀ r ∈ rs, 1 ≤ r.1 ∧ r.1 ≤ 999999
  vs : ∀ r ∈ rs, WVals cs r.2
  asc : ascD (.lst ((rs.map (·.1)).map .int)) = true
def WStt (s : Sch) (t : Stt) : Prop := t.map (·.1) = s.map (·.1) ∧ ∀ (i : Nat) (c : Tab) (p : Str × Rws), s[i]? = some c → t[i]? = some p → WRows c.2 p.2
def nmP (d : D) : Prop := ∃ z, d = .str z ∧ nameS z = true
theorem name_len {z : Str} (h : nameS z = true) : z.length ≤ 6 := by
  unfold nameS at h
  rw [Bool.and_eq_true, Bool.and_eq_true] at h
  have := of_decide_eq_true h.1.2
  omega
theorem name_fits {z : Str} (h : nameS z = true) : strFits (.str z) = true := decide_eq_true (Nat.le_trans (name_len h) (by decide))
section
variable {P : Program} {w : World} {K : PySem.W.Frag} {mg : Str → Option Value} {base : Heap} {f : Addr} {fd : FuncData}
theorem sc18 : FnScope ["value", "part"] ["value"] (defScope (top 18)) := ⟨rfl, rfl, rfl, by decide +kernel, rfl, by decide +kernel, by decide +kernel⟩
theorem ok18 (hB : Bns mg) (hc : Cns mg) (c_is_short : Cal P w K mg base 1 "is_short" ["value", "most"] 0  (SQ2 (fun _ k => ∃ i, k = .int i) fun d k => .bl (match k with | .int i => shortD i d | _ => false))) (c_is_name : Cal P w K mg base 1 "is_name" ["value"] 0  (SQ1 nmP fun _ => .bl true)) (F : FnP K "are_names" (top 18) f fd) : FnOk P w K mg base CX0 2 f fd ["value"] 
    (spF K 0 (SQ1 (fun d => ∃ ns : List Str, d = .tup (ns.map .str) ∧ ns.length ≤ 6 ∧ (∀ z ∈ ns, nameS z = true) ∧ ns.Nodup) fun _ => .bl true)) := by
  refine fn_ok F sc18 (fun W as φ h => by obtain ⟨d, rfl, _⟩ := h; rfl) (by decide) fun cdv A outer s H E W as φ n hr hS hn => ?_
  obtain ⟨d, rfl, ⟨ns, rfl, hl, hn1, hnd⟩, hφ⟩ := hS
  obtain ⟨tml, hml⟩ := hc.MOST_PARTS
  have hi : ∃ i, D.int 6 = .int i := ⟨6, rfl⟩
  have hl' : ns.length ≤ 4000 := by omega
  have hl'' : ns.length < 4000 := by omega
  have hsh : shortD 6 (.tup (ns.map .str)) = true := decide_eq_true (by rw [List.length_map]; omega)
  refine ss_ifF (z := _) (by exact et_pw (by exact (by first | exact et_orT' (by exact et_not (by exact et_v (by exact ev_c2 (by exact c_is_short) (by exact hr.mono (by first | decide | omega)) (by rfl) (by exact es_consI (by exact ev_var (i := 0) rfl (by first | exact Or.inl rfl | exact Or.inr (Or.inl rfl) | exact Or.inr (Or.inr rfl)) rfl) (by exact es_consI (by exact ev_gint (by rfl) (by assumption)) (by exact es_nil))) (by first | rfl | assumption | trivial | omega) (by rfl)))) (by first | rfl | assumption) | exact et_or (by exact et_not (by exact et_v (by exact ev_c2 (by exact c_is_short) (by exact hr.mono (by first | decide | omega)) (by rfl) (by exact es_consI (by exact ev_var (i := 0) rfl (by first | exact Or.inl rfl | exact Or.inr (Or.inl rfl) | exact Or.inr (Or.inr rfl)) rfl) (by exact es_consI (by exact ev_gint (by rfl) (by assumption)) (by exact es_nil))) (by first | rfl | assumption | trivial | omega) (by rfl)))) (fun hb => by exact eW_or1 (by exact et_not (by exact et_v (by exact ev_allT (by rfl) (by rfl) (by exact hB _ (by decide +kernel)) (by exact ev_lcB (F := fun _ => true) (own := [("part", 1)]) (xs := ns) (enc := D.str) (fun x => [(1, .str x)]) (by rfl) sc18.nd (blkOk_by (N := ["value", "part"]) (sc := defScope (top 18)) (by decide +kernel)) (by exact EvI.z (by exact ei_tupI (by exact ev_var (i := 0) rfl (by first | exact Or.inl rfl | exact Or.inr (Or.inl rfl) | exact Or.inr (Or.inr rfl)) rfl)) (by rfl)) (fun x hx => by have h1 : nmP (.str x) := ⟨x, rfl, hn1 x hx⟩; exact ⟨fun s1 H1 C1 cl1 fp1 => ⟨(by exact Tg.to (by exact tg_name (i := 1) sc18.nd rfl (by first | exact Or.inl rfl | exact Or.inr rfl)) (by rfl)), (by exact Ev.to (by exact Ev.z (by exact ev_c1 (by exact c_is_name) (by exact hr.mono (by first | decide | omega)) (by rfl) (by exact es_consI (by exact ev_var (i := 1) rfl (by first | exact Or.inl rfl | exact Or.inr (Or.inl rfl) | exact Or.inr (Or.inr rfl)) rfl) (by exact es_nil)) (by first | rfl | assumption | trivial | omega) (by rfl)) (by rfl)) (by rfl))⟩, by simp⟩) (by first | rfl | assumption | trivial | omega))))))))) (by show (!(shortD 6 _) || !true) = false; rw [hsh]; rfl) (by omega) ?_
  refine ss_retE (by exact ev_eq (by exact ev_lenset (by rfl) (by rfl) (by exact hB _ (by decide +kernel)) (by rfl) (by exact hB _ (by decide +kernel)) (by exact ev_var (i := 0) rfl (by first | exact Or.inl rfl | exact Or.inr (Or.inl rfl) | exact Or.inr (Or.inr rfl)) rfl) (by first | rfl | assumption | trivial | omega) (by first | rfl | assumption | trivial | omega)) (by exact ev_len (by rfl) (by exact hB _ (by decide +kernel)) (by exact ev_var (i := 0) rfl (by first | exact Or.inl rfl | exact Or.inr (Or.inl rfl) | exact Or.inr (Or.inr rfl)) rfl) (by first | rfl | assumption | trivial | omega) (by first | rfl | assumption | trivial | omega)) (by first | rfl | assumption | trivial | omega)) (by omega) ?_ ⟨hφ, by omega⟩
  show D.bl (decide _) = D.bl true
  rw [List.length_map]; simp
theorem zip_gen {α β : Type} (f : α → D) (g : β → D) (as : List α) (bs : List β) : zipD (as.map f) (bs.map g) = (as.zip bs).map fun p => .tup [f p.1, g p.2] := by
  unfold zipD
  rw [List.zip_map, List.map_map]; rfl
theorem zip_mem {α β : Type} {as : List α} {bs : List β} {x : α × β} (h : x ∈ as.zip bs) : ∃ i : Nat, as[i]? = some x.1 ∧ bs[i]? = some x.2 := by
  obtain ⟨i, e⟩ := List.getElem?_of_mem h
  exact ⟨i, List.getElem?_zip_eq_some.mp e⟩
def keyP (d : D) : Prop := ∃ i, d = .int i ∧ 1 ≤ i ∧ i ≤ 999999
def kindP (d : D) : Prop := ∃ k, d = .str k ∧ kindOk k
theorem sc19 : FnScope ["value"] ["value"] (defScope (top 19)) := ⟨rfl, rfl, rfl, by decide +kernel, rfl, by decide +kernel, by decide +kernel⟩
theorem ok19 (hB : Bns mg) (hc : Cns mg) (c_is_integer : Cal P w K mg base 1 "is_integer" ["value"] 0  (SQ1 (fun _ => True) fun d => .bl (intD d))) (F : FnP K "is_key" (top 19) f fd) : FnOk P w K mg base CX0 2 f fd ["value"]  (spF K 0 (SQ1 keyP fun _ => .bl true)) := by
  refine fn_ok F sc19 (fun W as φ h => by obtain ⟨d, rfl, _⟩ := h; rfl) (by decide) fun cdv A outer s H E W as φ n hr hS hn => ?_
  obtain ⟨d, rfl, ⟨i, rfl, h1, h2⟩, hφ⟩ := hS
  obtain ⟨tml, hml⟩ := hc.GREATEST_KEY
  refine ss_retE (by exact (by first | exact ev_andF' (by exact ev_c1 (by exact c_is_integer) (by exact hr.mono (by first | decide | omega)) (by rfl) (by exact es_consI (by exact ev_var (i := 0) rfl (by first | exact Or.inl rfl | exact Or.inr (Or.inl rfl) | exact Or.inr (Or.inr rfl)) rfl) (by exact es_nil)) (by first | rfl | assumption | trivial | omega) (by rfl)) (by first | rfl | assumption) | exact ev_and (by exact ev_c1 (by exact c_is_integer) (by exact hr.mono (by first | decide | omega)) (by rfl) (by exact es_consI (by exact ev_var (i := 0) rfl (by first | exact Or.inl rfl | exact Or.inr (Or.inl rfl) | exact Or.inr (Or.inr rfl)) rfl) (by exact es_nil)) (by first | rfl | assumption | trivial | omega) (by rfl)) (fun hb => by exact ev_one (by exact (by first | exact ev_chII (by exact ev_int) (by exact ev_var (i := 0) rfl (by first | exact Or.inl rfl | exact Or.inr (Or.inl rfl) | exact Or.inr (Or.inr rfl)) rfl) (by exact ev_gint (by rfl) (by assumption)) | exact ev_chSS (by exact ev_int) (by exact ev_var (i := 0) rfl (by first | exact Or.inl rfl | exact Or.inr (Or.inl rfl) | exact Or.inr (Or.inr rfl)) rfl) (by exact ev_gint (by rfl) (by assumption))))))) (by omega) ?_ ⟨hφ, by omega⟩
  show D.bl (true && (decide _ && decide _)) = _
  rw [decide_eq_true h1, decide_eq_true h2]; rfl
theorem kind_in {k : Str} (h : kindOk k) : inD (.str k) [.str "int", .str "text"] = true := by
  rcases h with rfl | rfl <;> decide +kernel
theorem sc20 : FnScope ["value"] ["value"] (defScope (top 20)) := ⟨rfl, rfl, rfl, by decide +kernel, rfl, by decide +kernel, by decide +kernel⟩
theorem ok20 (hB : Bns mg) (F : FnP K "is_kind" (top 20) f fd) : FnOk P w K mg base CX0 1 f fd ["value"]  (spF K 0 (SQ1 kindP fun _ => .bl true)) := by
  refine fn_ok F sc20 (fun W as φ h => by obtain ⟨d, rfl, _⟩ := h; rfl) (by decide) fun cdv A outer s H E W as φ n hr hS hn => ?_
  obtain ⟨d, rfl, ⟨i, rfl, h1⟩, hφ⟩ := hS
  refine ss_retE (by exact (by first | exact ev_andF' (by exact ev_isStr (by rfl) (by exact hB _ (by decide +kernel)) (by rfl) (by exact hB _ (by decide +kernel)) (by exact ev_var (i := 0) rfl (by first | exact Or.inl rfl | exact Or.inr (Or.inl rfl) | exact Or.inr (Or.inr rfl)) rfl)) (by first | rfl | assumption) | exact ev_and (by exact ev_isStr (by rfl) (by exact hB _ (by decide +kernel)) (by rfl) (by exact hB _ (by decide +kernel)) (by exact ev_var (i := 0) rfl (by first | exact Or.inl rfl | exact Or.inr (Or.inl rfl) | exact Or.inr (Or.inr rfl)) rfl)) (fun hb => by exact ev_one (by exact ev_inT (by exact ev_var (i := 0) rfl (by first | exact Or.inl rfl | exact Or.inr (Or.inl rfl) | exact Or.inr (Or.inr rfl)) rfl) (by exact ev_tupJ (by exact es_consI (by exact ev_str) (by exact es_consI (by exact ev_str) (by exact es_nil))) (by rfl) (by rfl)) (by first | rfl | assumption | trivial | omega))))) (by omega) ?_ ⟨hφ, by omega⟩
  show D.bl (true && inD (.str i) [.str "int", .str "text"]) = _
  rw [kind_in h1]; rfl
theorem sc21 : FnScope ["value", "most", "sign"] ["value", "most"] (defScope (top 21)) := ⟨rfl, rfl, rfl, by decide +kernel, rfl, by decide +kernel, by decide +kernel⟩
theorem ok21 (hB : Bns mg) (F : FnP K "is_signs" (top 21) f fd) : FnOk P w K mg base CX0 1 f fd ["value", "most"]  (spF K 0 (SQ2 (fun a b => ∃ z i, a = .str z ∧ b = .int i ∧ (z.length : Int) ≤ i ∧ z.length ≤ 4000 ∧ (sgns z).all (signOk "!" "~") = true) fun _ _ => .bl true)) := by
  refine fn_ok F sc21 (fun W as φ h => by obtain ⟨d, e, rfl, _⟩ := h; rfl) (by decide) fun cdv A outer s H E W as φ n hr hS hn => ?_
  obtain ⟨d, e, rfl, ⟨z, i, rfl, rfl, h1, h2, h3⟩, hφ⟩ := hS
  have hf : strFits (.str z) = true := decide_eq_true (by omega)
  have hl : (sgns z).length ≤ 4000 := by rw [sgns_len]; exact h2
  refine ss_ifF (z := _) (by exact et_pw (by exact (by first | exact et_orT' (by exact et_not (by exact et_v (by exact ev_isStr (by rfl) (by exact hB _ (by decide +kernel)) (by rfl) (by exact hB _ (by decide +kernel)) (by exact ev_var (i := 0) rfl (by first | exact Or.inl rfl | exact Or.inr (Or.inl rfl) | exact Or.inr (Or.inr rfl)) rfl)))) (by first | rfl | assumption) | exact et_or (by exact et_not (by exact et_v (by exact ev_isStr (by rfl) (by exact hB _ (by decide +kernel)) (by rfl) (by exact hB _ (by decide +kernel)) (by exact ev_var (i := 0) rfl (by first | exact Or.inl rfl | exact Or.inr (Or.inl rfl) | exact Or.inr (Or.inr rfl)) rfl)))) (fun hb => by exact eW_or1 (by exact et_gtI (by exact ev_len (by rfl) (by exact hB _ (by decide +kernel)) (by exact ev_var (i := 0) rfl (by first | exact Or.inl rfl | exact Or.inr (Or.inl rfl) | exact Or.inr (Or.inr rfl)) rfl) (by first | rfl | assumption | trivial | omega) (by first | rfl | assumption | trivial | omega)) (by exact ev_var (i := 1) rfl (by first | exact Or.inl rfl | exact Or.inr (Or.inl rfl) | exact Or.inr (Or.inr rfl)) rfl)))))) (by show (!true || decide _) = false; rw [decide_eq_false (by omega)]; rfl) (by omega) ?_
  refine ss_retE (by exact ev_all (by rfl) (by rfl) (by exact hB _ (by decide +kernel)) (by exact ev_lcB (own := [("sign", 2)]) (xs := sgns z) (enc := D.str) (fun x => [(2, .str x)]) (by rfl) sc21.nd (blkOk_by (N := ["value", "most", "sign"]) (sc := defScope (top 21)) (by decide +kernel)) (by exact EvI.to (by exact EvI.z (by exact ei_strI (by exact ev_var (i := 0) rfl (by first | exact Or.inl rfl | exact Or.inr (Or.inl rfl) | exact Or.inr (Or.inr rfl)) rfl)) (by rfl)) (signs_sgns z)) (fun x hx => by exact ⟨fun s1 H1 C1 cl1 fp1 => ⟨(by exact Tg.to (by exact tg_name (i := 2) sc21.nd rfl (by first | exact Or.inl rfl | exact Or.inr rfl)) (by rfl)), (by exact Ev.to (by exact Ev.z (by exact (by first | exact ev_chII (by exact ev_str) (by exact ev_var (i := 2) rfl (by first | exact Or.inl rfl | exact Or.inr (Or.inl rfl) | exact Or.inr (Or.inr rfl)) rfl) (by exact ev_str) | exact ev_chSS (by exact ev_str) (by exact ev_var (i := 2) rfl (by first | exact Or.inl rfl | exact Or.inr (Or.inl rfl) | exact Or.inr (Or.inr rfl)) rfl) (by exact ev_str))) (by rfl)) (by rfl))⟩, by simp⟩) (by first | rfl | assumption | trivial | omega))) (by omega) ?_ ⟨hφ, by omega⟩
  rw [List.all_map]
  exact congrArg D.bl h3
def valP (v k : D) : Prop := ∃ z, k = .str z ∧ kindOk z ∧ valOk z v
theorem sc22 : FnScope ["value", "kind"] ["value", "kind"] (defScope (top 22)) := ⟨rfl, rfl, rfl, by decide +kernel, rfl, by decide +kernel, by decide +kernel⟩
theorem ok22 (hB : Bns mg) (hc : Cns mg) (c_is_integer : Cal P w K mg base 1 "is_integer" ["value"] 0  (SQ1 (fun _ => True) fun d => .bl (intD d))) (c_is_signs : Cal P w K mg base 1 "is_signs" ["value", "most"] 0  (SQ2 (fun a b => ∃ z i, a = .str z ∧ b = .int i ∧ (z.length : Int) ≤ i ∧ z.length ≤ 4000 ∧ (sgns z).all (signOk "!" "~") = true) fun _ _ => .bl true)) (F : FnP K "is_of_kind" (top 22) f fd) : FnOk P w K mg base CX0 2 f fd ["value", "kind"]  (spF K 0 (SQ2 valP fun _ _ => .bl true)) := by
  refine fn_ok F sc22 (fun W as φ h => by obtain ⟨d, e, rfl, _⟩ := h; rfl) (by decide) fun cdv A outer s H E W as φ n hr hS hn => ?_
  obtain ⟨d, e, rfl, ⟨z, rfl, hk, hv⟩, hφ⟩ := hS
  obtain ⟨tml, hml⟩ := hc.GREATEST_VALUE
  obtain ⟨tms, hms⟩ := hc.MOST_SIGNS
  by_cases hd : isNonD d = true
  · refine ss_ifT (z := _) (by exact et_isN (by exact ev_var (i := 0) rfl (by first | exact Or.inl rfl | exact Or.inr (Or.inl rfl) | exact Or.inr (Or.inr rfl)) rfl)) hd (by omega) ?_
    refine ss_retE (by exact ev_bl) (by omega) rfl ⟨hφ, by omega⟩
  · refine ss_ifF (z := _) (by exact et_isN (by exact ev_var (i := 0) rfl (by first | exact Or.inl rfl | exact Or.inr (Or.inl rfl) | exact Or.inr (Or.inr rfl)) rfl)) (by simpa using hd) (by omega) ?_
    cases d with
    | int i =>
      obtain ⟨rfl, h1, h2⟩ := hv
      refine ss_ifT (z := _) (by exact et_eq (by exact ev_var (i := 1) rfl (by first | exact Or.inl rfl | exact Or.inr (Or.inl rfl) | exact Or.inr (Or.inr rfl)) rfl) (by exact ev_str) (by first | rfl | assumption | trivial | omega)) (by decide +kernel) (by omega) ?_
      refine ss_retE (by exact (by first | exact ev_andF' (by exact ev_c1 (by exact c_is_integer) (by exact hr.mono (by first | decide | omega)) (by rfl) (by exact es_consI (by exact ev_var (i := 0) rfl (by first | exact Or.inl rfl | exact Or.inr (Or.inl rfl) | exact Or.inr (Or.inr rfl)) rfl) (by exact es_nil)) (by first | rfl | assumption | trivial | omega) (by rfl)) (by first | rfl | assumption) | exact ev_and (by exact ev_c1 (by exact c_is_integer) (by exact hr.mono (by first | decide | omega)) (by rfl) (by exact es_consI (by exact ev_var (i := 0) rfl (by first | exact Or.inl rfl | exact Or.inr (Or.inl rfl) | exact Or.inr (Or.inr rfl)) rfl) (by exact es_nil)) (by first | rfl | assumption | trivial | omega) (by rfl)) (fun hb => by exact ev_one (by exact (by first | exact ev_chII (by exact ev_neg (by exact ev_gint (by rfl) (by assumption))) (by exact ev_var (i := 0) rfl (by first | exact Or.inl rfl | exact Or.inr (Or.inl rfl) | exact Or.inr (Or.inr rfl)) rfl) (by exact ev_gint (by rfl) (by assumption)) | exact ev_chSS (by exact ev_neg (by exact ev_gint (by rfl) (by assumption))) (by exact ev_var (i := 0) rfl (by first | exact Or.inl rfl | exact Or.inr (Or.inl rfl) | exact Or.inr (Or.inr rfl)) rfl) (by exact ev_gint (by rfl) (by assumption))))))) (by omega) ?_ ⟨hφ, by omega⟩
      show D.bl (true && (decide _ && decide _)) = _
      rw [decide_eq_true (by omega), decide_eq_true h2]; rfl
    | str y =>
      obtain ⟨rfl, h1, h2⟩ := hv
      refine ss_ifF (z := _) (by exact et_eq (by exact ev_var (i := 1) rfl (by first | exact Or.inl rfl | exact Or.inr (Or.inl rfl) | exact Or.inr (Or.inr rfl)) rfl) (by exact ev_str) (by first | rfl | assumption | trivial | omega)) (by decide +kernel) (by omega) ?_
      have hp : ∃ z i, D.str y = .str z ∧ D.int 12 = .int i ∧ (z.length : Int) ≤ i ∧ z.length ≤ 4000 ∧ (sgns z).all (signOk "!" "~") = true := ⟨y, 12, rfl, rfl, by omega, by omega, h2⟩
      refine ss_retE (by exact ev_c2 (by exact c_is_signs) (by exact hr.mono (by first | decide | omega)) (by rfl) (by exact es_consI (by exact ev_var (i := 0) rfl (by first | exact Or.inl rfl | exact Or.inr (Or.inl rfl) | exact Or.inr (Or.inr rfl)) rfl) (by exact es_consI (by exact ev_gint (by rfl) (by assumption)) (by exact es_nil))) (by first | rfl | assumption | trivial | omega) (by rfl)) (by omega) ?_ ⟨hφ, by omega⟩
      rfl
    | non => exact absurd rfl hd
    | _ => exact hv.elim
end
end K5
namespace K5
open PySem PySem.Spec PyProof.Rows L2 Qq
section
variable {P : Program} {w : World} {K : PySem.W.Frag} {mg : Str → Option Value} {base : Heap} {f : Addr} {fd : FuncData}
def nmsP (d : D) : Prop := ∃ ns : List Str, d = .tup (ns.map .str) ∧ ns.length ≤ 6 ∧ (∀ z ∈ ns, nameS z = true) ∧ ns.Nodup
abbrev SShort := SQ2 (fun _ k => ∃ i, k = .int i) fun d k => .bl (match k with | .int i => shortD i d | _ => false)
abbrev SPair := SQ1 (fun _ => True) fun d => .bl (pairD d)
def colsP (d : D) : Prop := ∃ cs, d = eCols cs ∧ WCols cs
theorem short6 {α : Type} {l : List α} {g : α → D} (h : l.length ≤ 6) : shortD 6 (.tup (l.map g)) = true := decide_eq_true (by rw [List.length_map]; omega)
theorem sc23 : FnScope ["value", "part", "names"] ["value"] (defScope (top 23)) := ⟨rfl, rfl, rfl, by decide +kernel, rfl, by decide +kernel, by decide +kernel⟩
theorem ok23 (hB : Bns mg) (hc : Cns mg) (c_is_short : Cal P w K mg base 1 "is_short" ["value", "most"] 0  SShort) (c_is_pair : Cal P w K mg base 1 "is_pair" ["value"] 0  SPair) (c_are_names : Cal P w K mg base 2 "are_names" ["value"] 0  (SQ1 nmsP fun _ => .bl true)) (c_is_kind : Cal P w K mg base 1 "is_kind" ["value"] 0  (SQ1 kindP fun _ => .bl true)) (F : FnP K "is_columns" (top 23) f fd) : FnOk P w K mg base CX0 3 f fd ["value"]  (spF K 0 (SQ1 colsP fun _ => .bl true)) := by
  refine fn_ok F sc23 (fun W as φ h => by obtain ⟨d, rfl, _⟩ := h; rfl) (by decide) fun cdv A outer s H E W as φ n hr hS hn => ?_
  obtain ⟨d, rfl, ⟨cs, rfl, wf⟩, hφ⟩ := hS
  obtain ⟨tml, hml⟩ := hc.MOST_PARTS
  have hl6 := wf.len
  have hi : ∃ i, D.int 6 = .int i := ⟨6, rfl⟩
  have hl : cs.length ≤ 4000 := by omega
  have hsh : shortD 6 (eCols cs) = true := short6 hl6
  refine ss_ifF (z := _) (by exact et_pw (by exact (by first | exact et_orT' (by exact et_not (by exact et_v (by exact ev_c2 (by exact c_is_short) (by exact hr.mono (by first | decide | omega)) (by rfl) (by exact es_consI (by exact ev_var (i := 0) rfl (by first | exact Or.inl rfl | exact Or.inr (Or.inl rfl) | exact Or.inr (Or.inr rfl)) rfl) (by exact es_consI (by exact ev_gint (by rfl) (by assumption)) (by exact es_nil))) (by first | rfl | assumption | trivial | omega) (by rfl)))) (by first | rfl | assumption) | exact et_or (by exact et_not (by exact et_v (by exact ev_c2 (by exact c_is_short) (by exact hr.mono (by first | decide | omega)) (by rfl) (by exact es_consI (by exact ev_var (i := 0) rfl (by first | exact Or.inl rfl | exact Or.inr (Or.inl rfl) | exact Or.inr (Or.inr rfl)) rfl) (by exact es_consI (by exact ev_gint (by rfl) (by assumption)) (by exact es_nil))) (by first | rfl | assumption | trivial | omega) (by rfl)))) (fun hb => by exact eW_or1 (by exact et_not (by exact et_v (by exact ev_allT (by rfl) (by rfl) (by exact hB _ (by decide +kernel)) (by exact ev_lcB (F := fun _ => true) (own := [("part", 1)]) (xs := cs) (enc := eCol) (fun x => [(1, eCol x)]) (by rfl) sc23.nd (blkOk_by (N := ["value", "part", "names"]) (sc := defScope (top 23)) (by decide +kernel)) (by exact EvI.z (by exact ei_tupI (by exact ev_var (i := 0) rfl (by first | exact Or.inl rfl | exact Or.inr (Or.inl rfl) | exact Or.inr (Or.inr rfl)) rfl)) (by rfl)) (fun x hx => by exact ⟨fun s1 H1 C1 cl1 fp1 => ⟨(by exact Tg.to (by exact tg_name (i := 1) sc23.nd rfl (by first | exact Or.inl rfl | exact Or.inr rfl)) (by rfl)), (by exact Ev.to (by exact Ev.z (by exact ev_c1 (by exact c_is_pair) (by exact hr.mono (by first | decide | omega)) (by rfl) (by exact es_consI (by exact ev_var (i := 1) rfl (by first | exact Or.inl rfl | exact Or.inr (Or.inl rfl) | exact Or.inr (Or.inr rfl)) rfl) (by exact es_nil)) (by first | rfl | assumption | trivial | omega) (by rfl)) (by rfl)) (by rfl))⟩, by simp⟩) (by first | rfl | assumption | trivial | omega))))))))) (by show (!(shortD 6 _) || !true) = false; rw [hsh]; rfl) (by omega) ?_
  refine ss_set sc23.nd (i := 2) rfl (by first | exact Or.inl rfl | exact Or.inr rfl) (by exact ev_tupleI (by rfl) (by exact hB _ (by decide +kernel)) (by exact ev_lcF (own := [("part", 1)]) (xs := cs) (enc := eCol) (fun x => [(1, eCol x)]) (by rfl) sc23.nd (blkOk_by (N := ["value", "part", "names"]) (sc := defScope (top 23)) (by decide +kernel)) (by exact EvI.z (by exact ei_tupI (by exact ev_var (i := 0) rfl (by first | exact Or.inl rfl | exact Or.inr (Or.inl rfl) | exact Or.inr (Or.inr rfl)) rfl)) (by rfl)) (fun x hx => by exact ⟨fun s1 H1 C1 cl1 fp1 => ⟨(by exact Tg.to (by exact tg_name (i := 1) sc23.nd rfl (by first | exact Or.inl rfl | exact Or.inr rfl)) (by rfl)), (by exact Ev.to (by exact Ev.z (by exact (by first | exact ev_ixTI (by exact ev_var (i := 1) rfl (by first | exact Or.inl rfl | exact Or.inr (Or.inl rfl) | exact Or.inr (Or.inr rfl)) rfl) (by exact ev_int) (by first | rfl | assumption | trivial | omega) | exact ev_ixLI (by exact ev_var (i := 1) rfl (by first | exact Or.inl rfl | exact Or.inr (Or.inl rfl) | exact Or.inr (Or.inr rfl)) rfl) (by exact ev_int) (by first | rfl | assumption | trivial | omega))) (by rfl)) (by rfl))⟩, by simp⟩) (by first | rfl | assumption | trivial | omega))) (by omega) ?_
  have hnm : nmsP (.tup (cs.map fun c => D.str c.1)) := ⟨cs.map (·.1), by rw [List.map_map]; rfl, by rw [List.length_map]; omega, fun z hz => by obtain ⟨c, hc, rfl⟩ := List.mem_map.mp hz; exact wf.nm c hc, wf.nd⟩
  refine ss_retE (by exact (by first | exact ev_andF' (by exact ev_c1 (by exact c_are_names) (by exact hr.mono (by first | decide | omega)) (by rfl) (by exact es_consI (by exact ev_var (i := 2) rfl (by first | exact Or.inl rfl | exact Or.inr (Or.inl rfl) | exact Or.inr (Or.inr rfl)) rfl) (by exact es_nil)) (by first | rfl | assumption | trivial | omega) (by rfl)) (by first | rfl | assumption) | exact ev_and (by exact ev_c1 (by exact c_are_names) (by exact hr.mono (by first | decide | omega)) (by rfl) (by exact es_consI (by exact ev_var (i := 2) rfl (by first | exact Or.inl rfl | exact Or.inr (Or.inl rfl) | exact Or.inr (Or.inr rfl)) rfl) (by exact es_nil)) (by first | rfl | assumption | trivial | omega) (by rfl)) (fun hb => by exact ev_one (by exact ev_allT (by rfl) (by rfl) (by exact hB _ (by decide +kernel)) (by exact ev_lcB (F := fun _ => true) (own := [("part", 1)]) (xs := cs) (enc := eCol) (fun x => [(1, eCol x)]) (by rfl) sc23.nd (blkOk_by (N := ["value", "part", "names"]) (sc := defScope (top 23)) (by decide +kernel)) (by exact EvI.z (by exact ei_tupI (by exact ev_var (i := 0) rfl (by first | exact Or.inl rfl | exact Or.inr (Or.inl rfl) | exact Or.inr (Or.inr rfl)) rfl)) (by rfl)) (fun x hx => by have h1 : kindP (.str x.2) := ⟨x.2, rfl, wf.kd x hx⟩; exact ⟨fun s1 H1 C1 cl1 fp1 => ⟨(by exact Tg.to (by exact tg_name (i := 1) sc23.nd rfl (by first | exact Or.inl rfl | exact Or.inr rfl)) (by rfl)), (by exact Ev.to (by exact Ev.z (by exact ev_c1 (by exact c_is_kind) (by exact hr.mono (by first | decide | omega)) (by rfl) (by exact es_consI (by exact (by first | exact ev_ixTI (by exact ev_var (i := 1) rfl (by first | exact Or.inl rfl | exact Or.inr (Or.inl rfl) | exact Or.inr (Or.inr rfl)) rfl) (by exact ev_int) (by first | rfl | assumption | trivial | omega) | exact ev_ixLI (by exact ev_var (i := 1) rfl (by first | exact Or.inl rfl | exact Or.inr (Or.inl rfl) | exact Or.inr (Or.inr rfl)) rfl) (by exact ev_int) (by first | rfl | assumption | trivial | omega))) (by exact es_nil)) (by first | rfl | assumption | trivial | omega) (by rfl)) (by rfl)) (by rfl))⟩, by simp⟩) (by first | rfl | assumption | trivial | omega)))))) (by omega) ?_ ⟨hφ, by omega⟩
  rfl
def valsP (c v : D) : Prop := ∃ cs vs, c = eCols cs ∧ v = .tup vs ∧ WCols cs ∧ WVals cs vs
theorem eq_len {a b : Nat} (h : a = b) : (!eqS (.int (a : Nat)) (.int (b : Nat))) = false := by subst h; simp [eqS]
theorem ne_len {a b : Nat} (h : a = b) : (!eqS (.int (a : Nat)) (.int (b : Nat))) = false := eq_len h
theorem sc24 : FnScope ["columns", "value", "column", "part"] ["columns", "value"] (defScope (top 24)) := ⟨rfl, rfl, rfl, by decide +kernel, rfl, by decide +kernel, by decide +kernel⟩
theorem ok24 (hB : Bns mg) (c_is_of_kind : Cal P w K mg base 2 "is_of_kind" ["value", "kind"] 0  (SQ2 valP fun _ _ => .bl true)) (F : FnP K "are_values_of" (top 24) f fd) : FnOk P w K mg base CX0 3 f fd ["columns", "value"]  (spF K 0 (SQ2 valsP fun _ _ => .bl true)) := by
  refine fn_ok F sc24 (fun W as φ h => by obtain ⟨d, e, rfl, _⟩ := h; rfl) (by decide) fun cdv A outer s H E W as φ n hr hS hn => ?_
  obtain ⟨d, e, rfl, ⟨cs, vs, rfl, rfl, wf, hv⟩, hφ⟩ := hS
  have hl6 := wf.len
  have hlz : (cs.zip vs).length ≤ 4000 := by rw [List.length_zip]; omega
  refine ss_ifF (z := _) (by exact et_pw (by exact (by first | exact et_orT' (by exact et_not (by exact et_v (by exact ev_isTup (by rfl) (by exact hB _ (by decide +kernel)) (by rfl) (by exact hB _ (by decide +kernel)) (by exact ev_var (i := 1) rfl (by first | exact Or.inl rfl | exact Or.inr (Or.inl rfl) | exact Or.inr (Or.inr rfl)) rfl)))) (by first | rfl | assumption) | exact et_or (by exact et_not (by exact et_v (by exact ev_isTup (by rfl) (by exact hB _ (by decide +kernel)) (by rfl) (by exact hB _ (by decide +kernel)) (by exact ev_var (i := 1) rfl (by first | exact Or.inl rfl | exact Or.inr (Or.inl rfl) | exact Or.inr (Or.inr rfl)) rfl)))) (fun hb => by exact eW_or1 (by exact et_ne (by exact ev_len (by rfl) (by exact hB _ (by decide +kernel)) (by exact ev_var (i := 1) rfl (by first | exact Or.inl rfl | exact Or.inr (Or.inl rfl) | exact Or.inr (Or.inr rfl)) rfl) (by first | rfl | assumption | trivial | omega) (by first | rfl | assumption | trivial | omega)) (by exact ev_len (by rfl) (by exact hB _ (by decide +kernel)) (by exact ev_var (i := 0) rfl (by first | exact Or.inl rfl | exact Or.inr (Or.inl rfl) | exact Or.inr (Or.inr rfl)) rfl) (by first | rfl | assumption | trivial | omega) (by first | rfl | assumption | trivial | omega)) (by first | rfl | assumption | trivial | omega)))))) (by show (!true || !eqS (.int (vs.length : Nat)) (.int ((cs.map eCol).length : Nat))) = false; rw [eq_len (by rw [List.length_map]; exact hv.1)]; rfl) (by omega) ?_
  have hz : zipD (cs.map eCol) vs = (cs.zip vs).map fun p => .tup [eCol p.1, p.2] := by have := zip_gen eCol id cs vs; rwa [List.map_id] at this
  refine ss_retE (by exact ev_allT (by rfl) (by rfl) (by exact hB _ (by decide +kernel)) (by exact ev_lcB (F := fun _ => true) (own := [("column", 2), ("part", 3)]) (xs := cs.zip vs) (enc := fun p => .tup [eCol p.1, p.2]) (fun x => [(2, eCol x.1), (3, x.2)]) (by rfl) sc24.nd (blkOk_by (N := ["columns", "value", "column", "part"]) (sc := defScope (top 24)) (by decide +kernel)) (by exact EvI.to (by exact EvI.z (by exact ei_zipI (by rfl) (by exact hB _ (by decide +kernel)) (by exact es_consI (by exact ev_var (i := 0) rfl (by first | exact Or.inl rfl | exact Or.inr (Or.inl rfl) | exact Or.inr (Or.inr rfl)) rfl) (by exact es_consI (by exact ev_var (i := 1) rfl (by first | exact Or.inl rfl | exact Or.inr (Or.inl rfl) | exact Or.inr (Or.inr rfl)) rfl) (by exact es_nil))) (by first | exact Or.inl rfl | exact Or.inr rfl)) (by rfl)) hz) (fun x hx => by obtain ⟨i, h5, h6⟩ := zip_mem hx; have h1 : valP x.2 (.str x.1.2) := ⟨x.1.2, rfl, wf.kd _ (List.mem_of_getElem? h5), hv.2 i _ _ h5 h6⟩; exact ⟨fun s1 H1 C1 cl1 fp1 => ⟨(by exact Tg.to (by exact tg_tup (by rfl) (by exact tl_cons (by exact tg_name (i := 2) sc24.nd rfl (by first | exact Or.inl rfl | exact Or.inr rfl)) (by exact tl_cons (by exact tg_name (i := 3) sc24.nd rfl (by first | exact Or.inl rfl | exact Or.inr rfl)) (by exact tl_nil)))) (by rfl)), (by exact Ev.to (by exact Ev.z (by exact ev_c2 (by exact c_is_of_kind) (by exact hr.mono (by first | decide | omega)) (by rfl) (by exact es_consI (by exact ev_var (i := 3) rfl (by first | exact Or.inl rfl | exact Or.inr (Or.inl rfl) | exact Or.inr (Or.inr rfl)) rfl) (by exact es_consI (by exact (by first | exact ev_ixTI (by exact ev_var (i := 2) rfl (by first | exact Or.inl rfl | exact Or.inr (Or.inl rfl) | exact Or.inr (Or.inr rfl)) rfl) (by exact ev_int) (by first | rfl | assumption | trivial | omega) | exact ev_ixLI (by exact ev_var (i := 2) rfl (by first | exact Or.inl rfl | exact Or.inr (Or.inl rfl) | exact Or.inr (Or.inr rfl)) rfl) (by exact ev_int) (by first | rfl | assumption | trivial | omega))) (by exact es_nil))) (by first | rfl | assumption | trivial | omega) (by rfl)) (by rfl)) (by rfl))⟩, by simp⟩) (by first | rfl | assumption | trivial | omega))) (by omega) ?_ ⟨hφ, by omega⟩
  rfl
def schP (d : D) : Prop := ∃ s, d = eSch s ∧ WSch s
def ascP (d : D) : Prop := (∃ ns : List Str, d = .tup (ns.map .str) ∧ ns.length ≤ 4000) ∨ (∃ ks : List Int, d = .lst (ks.map .int) ∧ ks.length ≤ 4000)
theorem sc25 : FnScope ["value", "part", "tables"] ["value"] (defScope (top 25)) := ⟨rfl, rfl, rfl, by decide +kernel, rfl, by decide +kernel, by decide +kernel⟩
theorem ok25 (hB : Bns mg) (hc : Cns mg) (c_is_short : Cal P w K mg base 1 "is_short" ["value", "most"] 0  SShort) (c_is_pair : Cal P w K mg base 1 "is_pair" ["value"] 0  SPair) (c_are_names : Cal P w K mg base 2 "are_names" ["value"] 0  (SQ1 nmsP fun _ => .bl true)) (c_is_ascending : Cal P w K mg base 1 "is_ascending" ["parts"] 0  (SQ1 ascP fun d => .bl (ascD d))) (c_is_columns : Cal P w K mg base 3 "is_columns" ["value"] 0  (SQ1 colsP fun _ => .bl true)) (F : FnP K "is_schema" (top 25) f fd) : FnOk P w K mg base CX0 4 f fd ["value"]  (spF K 0 (SQ1 schP fun _ => .bl true)) := by
  refine fn_ok F sc25 (fun W as φ h => by obtain ⟨d, rfl, _⟩ := h; rfl) (by decide) fun cdv A outer s H E W as φ n hr hS hn => ?_
  obtain ⟨d, rfl, ⟨cs, rfl, wf⟩, hφ⟩ := hS
  obtain ⟨tml, hml⟩ := hc.MOST_PARTS
  have hl6 := wf.len
  have hi : ∃ i, D.int 6 = .int i := ⟨6, rfl⟩
  have hl : cs.length ≤ 4000 := by omega
  have hsh : shortD 6 (eSch cs) = true := short6 hl6
  refine ss_ifF (z := _) (by exact et_pw (by exact (by first | exact et_orT' (by exact et_not (by exact et_v (by exact ev_c2 (by exact c_is_short) (by exact hr.mono (by first | decide | omega)) (by rfl) (by exact es_consI (by exact ev_var (i := 0) rfl (by first | exact Or.inl rfl | exact Or.inr (Or.inl rfl) | exact Or.inr (Or.inr rfl)) rfl) (by exact es_consI (by exact ev_gint (by rfl) (by assumption)) (by exact es_nil))) (by first | rfl | assumption | trivial | omega) (by rfl)))) (by first | rfl | assumption) | exact et_or (by exact et_not (by exact et_v (by exact ev_c2 (by exact c_is_short) (by exact hr.mono (by first | decide | omega)) (by rfl) (by exact es_consI (by exact ev_var (i := 0) rfl (by first | exact Or.inl rfl | exact Or.inr (Or.inl rfl) | exact Or.inr (Or.inr rfl)) rfl) (by exact es_consI (by exact ev_gint (by rfl) (by assumption)) (by exact es_nil))) (by first | rfl | assumption | trivial | omega) (by rfl)))) (fun hb => by exact eW_or1 (by exact et_not (by exact et_v (by exact ev_allT (by rfl) (by rfl) (by exact hB _ (by decide +kernel)) (by exact ev_lcB (F := fun _ => true) (own := [("part", 1)]) (xs := cs) (enc := eTab) (fun x => [(1, eTab x)]) (by rfl) sc25.nd (blkOk_by (N := ["value", "part", "tables"]) (sc := defScope (top 25)) (by decide +kernel)) (by exact EvI.z (by exact ei_tupI (by exact ev_var (i := 0) rfl (by first | exact Or.inl rfl | exact Or.inr (Or.inl rfl) | exact Or.inr (Or.inr rfl)) rfl)) (by rfl)) (fun x hx => by exact ⟨fun s1 H1 C1 cl1 fp1 => ⟨(by exact Tg.to (by exact tg_name (i := 1) sc25.nd rfl (by first | exact Or.inl rfl | exact Or.inr rfl)) (by rfl)), (by exact Ev.to (by exact Ev.z (by exact ev_c1 (by exact c_is_pair) (by exact hr.mono (by first | decide | omega)) (by rfl) (by exact es_consI (by exact ev_var (i := 1) rfl (by first | exact Or.inl rfl | exact Or.inr (Or.inl rfl) | exact Or.inr (Or.inr rfl)) rfl) (by exact es_nil)) (by first | rfl | assumption | trivial | omega) (by rfl)) (by rfl)) (by rfl))⟩, by simp⟩) (by first | rfl | assumption | trivial | omega))))))))) (by show (!(shortD 6 _) || !true) = false; rw [hsh]; rfl) (by omega) ?_
  refine ss_set sc25.nd (i := 2) rfl (by first | exact Or.inl rfl | exact Or.inr rfl) (by exact ev_tupleI (by rfl) (by exact hB _ (by decide +kernel)) (by exact ev_lcF (own := [("part", 1)]) (xs := cs) (enc := eTab) (fun x => [(1, eTab x)]) (by rfl) sc25.nd (blkOk_by (N := ["value", "part", "tables"]) (sc := defScope (top 25)) (by decide +kernel)) (by exact EvI.z (by exact ei_tupI (by exact ev_var (i := 0) rfl (by first | exact Or.inl rfl | exact Or.inr (Or.inl rfl) | exact Or.inr (Or.inr rfl)) rfl)) (by rfl)) (fun x hx => by exact ⟨fun s1 H1 C1 cl1 fp1 => ⟨(by exact Tg.to (by exact tg_name (i := 1) sc25.nd rfl (by first | exact Or.inl rfl | exact Or.inr rfl)) (by rfl)), (by exact Ev.to (by exact Ev.z (by exact (by first | exact ev_ixTI (by exact ev_var (i := 1) rfl (by first | exact Or.inl rfl | exact Or.inr (Or.inl rfl) | exact Or.inr (Or.inr rfl)) rfl) (by exact ev_int) (by first | rfl | assumption | trivial | omega) | exact ev_ixLI (by exact ev_var (i := 1) rfl (by first | exact Or.inl rfl | exact Or.inr (Or.inl rfl) | exact Or.inr (Or.inr rfl)) rfl) (by exact ev_int) (by first | rfl | assumption | trivial | omega))) (by rfl)) (by rfl))⟩, by simp⟩) (by first | rfl | assumption | trivial | omega))) (by omega) ?_
  have em : (cs.map fun c => D.str c.1) = (cs.map (·.1)).map .str := by rw [List.map_map]; rfl
  have hnm : nmsP (.tup (cs.map fun c => D.str c.1)) := ⟨cs.map (·.1), by rw [em], by rw [List.length_map]; omega, fun z hz => by obtain ⟨c, hc, rfl⟩ := List.mem_map.mp hz; exact wf.nm c hc, wf.nd⟩
  have has : ascP (.tup (cs.map fun c => D.str c.1)) := .inl ⟨cs.map (·.1), by rw [em], by rw [List.length_map]; omega⟩
  have hasd : ascD (.tup (cs.map fun c => D.str c.1)) = true := by rw [em]; exact wf.asc
  refine ss_ifF (z := _) (by exact et_pw (by exact (by first | exact et_orT' (by exact et_not (by exact et_v (by exact ev_c1 (by exact c_are_names) (by exact hr.mono (by first | decide | omega)) (by rfl) (by exact es_consI (by exact ev_var (i := 2) rfl (by first | exact Or.inl rfl | exact Or.inr (Or.inl rfl) | exact Or.inr (Or.inr rfl)) rfl) (by exact es_nil)) (by first | rfl | assumption | trivial | omega) (by rfl)))) (by first | rfl | assumption) | exact et_or (by exact et_not (by exact et_v (by exact ev_c1 (by exact c_are_names) (by exact hr.mono (by first | decide | omega)) (by rfl) (by exact es_consI (by exact ev_var (i := 2) rfl (by first | exact Or.inl rfl | exact Or.inr (Or.inl rfl) | exact Or.inr (Or.inr rfl)) rfl) (by exact es_nil)) (by first | rfl | assumption | trivial | omega) (by rfl)))) (fun hb => by exact eW_or1 (by exact et_not (by exact et_v (by exact ev_c1 (by exact c_is_ascending) (by exact hr.mono (by first | decide | omega)) (by rfl) (by exact es_consI (by exact ev_var (i := 2) rfl (by first | exact Or.inl rfl | exact Or.inr (Or.inl rfl) | exact Or.inr (Or.inr rfl)) rfl) (by exact es_nil)) (by first | rfl | assumption | trivial | omega) (by rfl)))))))) (by show (!true || !(ascD _)) = false; rw [hasd]; rfl) (by omega) ?_
  refine ss_retE (by exact ev_allT (by rfl) (by rfl) (by exact hB _ (by decide +kernel)) (by exact ev_lcB (F := fun _ => true) (own := [("part", 1)]) (xs := cs) (enc := eTab) (fun x => [(1, eTab x)]) (by rfl) sc25.nd (blkOk_by (N := ["value", "part", "tables"]) (sc := defScope (top 25)) (by decide +kernel)) (by exact EvI.z (by exact ei_tupI (by exact ev_var (i := 0) rfl (by first | exact Or.inl rfl | exact Or.inr (Or.inl rfl) | exact Or.inr (Or.inr rfl)) rfl)) (by rfl)) (fun x hx => by have h1 : colsP (eCols x.2) := ⟨x.2, rfl, wf.cs x hx⟩; exact ⟨fun s1 H1 C1 cl1 fp1 => ⟨(by exact Tg.to (by exact tg_name (i := 1) sc25.nd rfl (by first | exact Or.inl rfl | exact Or.inr rfl)) (by rfl)), (by exact Ev.to (by exact Ev.z (by exact ev_c1 (by exact c_is_columns) (by exact hr.mono (by first | decide | omega)) (by rfl) (by exact es_consI (by exact (by first | exact ev_ixTI (by exact ev_var (i := 1) rfl (by first | exact Or.inl rfl | exact Or.inr (Or.inl rfl) | exact Or.inr (Or.inr rfl)) rfl) (by exact ev_int) (by first | rfl | assumption | trivial | omega) | exact ev_ixLI (by exact ev_var (i := 1) rfl (by first | exact Or.inl rfl | exact Or.inr (Or.inl rfl) | exact Or.inr (Or.inr rfl)) rfl) (by exact ev_int) (by first | rfl | assumption | trivial | omega))) (by exact es_nil)) (by first | rfl | assumption | trivial | omega) (by rfl)) (by rfl)) (by rfl))⟩, by simp⟩) (by first | rfl | assumption | trivial | omega))) (by omega) ?_ ⟨hφ, by omega⟩
  rfl
def rowsP (c v : D) : Prop := ∃ cs rs, c = eCols cs ∧ v = eRows rs ∧ WCols cs ∧ WRows cs rs
theorem sc26 : FnScope ["columns", "value", "row"] ["columns", "value"] (defScope (top 26)) := ⟨rfl, rfl, rfl, by decide +kernel, rfl, by decide +kernel, by decide +kernel⟩
theorem ok26 (hB : Bns mg) (c_is_pair : Cal P w K mg base 1 "is_pair" ["value"] 0  SPair) (c_is_key : Cal P w K mg base 2 "is_key" ["value"] 0  (SQ1 keyP fun _ => .bl true)) (c_are_values_of : Cal P w K mg base 3 "are_values_of" ["columns", "value"] 0  (SQ2 valsP fun _ _ => .bl true)) (c_is_ascending : Cal P w K mg base 1 "is_ascending" ["parts"] 0  (SQ1 ascP fun d => .bl (ascD d))) (F : FnP K "are_rows" (top 26) f fd) : FnOk P w K mg base CX0 4 f fd ["columns", "value"]  (spF K 0 (SQ2 rowsP fun _ _ => .bl true)) := by
  refine fn_ok F sc26 (fun W as φ h => by obtain ⟨d, e, rfl, _⟩ := h; rfl) (by decide) fun cdv A outer s H E W as φ n hr hS hn => ?_
  obtain ⟨d, e, rfl, ⟨cs, rs, rfl, rfl, wf, wr⟩, hφ⟩ := hS
  have hl := wr.len
  refine ss_ifF (z := _) (by exact et_pw (by exact (by first | exact et_orT' (by exact et_not (by exact et_v (by exact ev_isTup (by rfl) (by exact hB _ (by decide +kernel)) (by rfl) (by exact hB _ (by decide +kernel)) (by exact ev_var (i := 1) rfl (by first | exact Or.inl rfl | exact Or.inr (Or.inl rfl) | exact Or.inr (Or.inr rfl)) rfl)))) (by first | rfl | assumption) | exact et_or (by exact et_not (by exact et_v (by exact ev_isTup (by rfl) (by exact hB _ (by decide +kernel)) (by rfl) (by exact hB _ (by decide +kernel)) (by exact ev_var (i := 1) rfl (by first | exact Or.inl rfl | exact Or.inr (Or.inl rfl) | exact Or.inr (Or.inr rfl)) rfl)))) (fun hb => by exact eW_or1 (by exact et_not (by exact et_v (by exact ev_allT (by rfl) (by rfl) (by exact hB _ (by decide +kernel)) (by exact ev_lcB (F := fun _ => true) (own := [("row", 2)]) (xs := rs) (enc := eRow) (fun x => [(2, eRow x)]) (by rfl) sc26.nd (blkOk_by (N := ["columns", "value", "row"]) (sc := defScope (top 26)) (by decide +kernel)) (by exact EvI.z (by exact ei_tupI (by exact ev_var (i := 1) rfl (by first | exact Or.inl rfl | exact Or.inr (Or.inl rfl) | exact Or.inr (Or.inr rfl)) rfl)) (by rfl)) (fun x hx => by exact ⟨fun s1 H1 C1 cl1 fp1 => ⟨(by exact Tg.to (by exact tg_name (i := 2) sc26.nd rfl (by first | exact Or.inl rfl | exact Or.inr rfl)) (by rfl)), (by exact Ev.to (by exact Ev.z (by exact ev_c1 (by exact c_is_pair) (by exact hr.mono (by first | decide | omega)) (by rfl) (by exact es_consI (by exact ev_var (i := 2) rfl (by first | exact Or.inl rfl | exact Or.inr (Or.inl rfl) | exact Or.inr (Or.inr rfl)) rfl) (by exact es_nil)) (by first | rfl | assumption | trivial | omega) (by rfl)) (by rfl)) (by rfl))⟩, by simp⟩) (by first | rfl | assumption | trivial | omega))))))))) (by rfl) (by omega) ?_
  refine ss_ifF (z := _) (by exact et_not (by exact et_v (by exact ev_allT (by rfl) (by rfl) (by exact hB _ (by decide +kernel)) (by exact ev_lcB (F := fun _ => true) (own := [("row", 2)]) (xs := rs) (enc := eRow) (fun x => [(2, eRow x)]) (by rfl) sc26.nd (blkOk_by (N := ["columns", "value", "row"]) (sc := defScope (top 26)) (by decide +kernel)) (by exact EvI.z (by exact ei_tupI (by exact ev_var (i := 1) rfl (by first | exact Or.inl rfl | exact Or.inr (Or.inl rfl) | exact Or.inr (Or.inr rfl)) rfl)) (by rfl)) (fun x hx => by have h1 : keyP (.int x.1) := ⟨x.1, rfl, wr.key x hx⟩; have h2 : valsP (eCols cs) (.tup x.2) := ⟨cs, x.2, rfl, rfl, wf, wr.vs x hx⟩; exact ⟨fun s1 H1 C1 cl1 fp1 => ⟨(by exact Tg.to (by exact tg_name (i := 2) sc26.nd rfl (by first | exact Or.inl rfl | exact Or.inr rfl)) (by rfl)), (by exact Ev.to (by exact Ev.z (by exact (by first | exact ev_andF' (by exact ev_c1 (by exact c_is_key) (by exact hr.mono (by first | decide | omega)) (by rfl) (by exact es_consI (by exact (by first | exact ev_ixTI (by exact ev_var (i := 2) rfl (by first | exact Or.inl rfl | exact Or.inr (Or.inl rfl) | exact Or.inr (Or.inr rfl)) rfl) (by exact ev_int) (by first | rfl | assumption | trivial | omega) | exact ev_ixLI (by exact ev_var (i := 2) rfl (by first | exact Or.inl rfl | exact Or.inr (Or.inl rfl) | exact Or.inr (Or.inr rfl)) rfl) (by exact ev_int) (by first | rfl | assumption | trivial | omega))) (by exact es_nil)) (by first | rfl | assumption | trivial | omega) (by rfl)) (by first | rfl | assumption) | exact ev_and (by exact ev_c1 (by exact c_is_key) (by exact hr.mono (by first | decide | omega)) (by rfl) (by exact es_consI (by exact (by first | exact ev_ixTI (by exact ev_var (i := 2) rfl (by first | exact Or.inl rfl | exact Or.inr (Or.inl rfl) | exact Or.inr (Or.inr rfl)) rfl) (by exact ev_int) (by first | rfl | assumption | trivial | omega) | exact ev_ixLI (by exact ev_var (i := 2) rfl (by first | exact Or.inl rfl | exact Or.inr (Or.inl rfl) | exact Or.inr (Or.inr rfl)) rfl) (by exact ev_int) (by first | rfl | assumption | trivial | omega))) (by exact es_nil)) (by first | rfl | assumption | trivial | omega) (by rfl)) (fun hb => by exact ev_one (by exact ev_c2 (by exact c_are_values_of) (by exact hr.mono (by first | decide | omega)) (by rfl) (by exact es_consI (by exact ev_var (i := 0) rfl (by first | exact Or.inl rfl | exact Or.inr (Or.inl rfl) | exact Or.inr (Or.inr rfl)) rfl) (by exact es_consI (by exact (by first | exact ev_ixTI (by exact ev_var (i := 2) rfl (by first | exact Or.inl rfl | exact Or.inr (Or.inl rfl) | exact Or.inr (Or.inr rfl)) rfl) (by exact ev_int) (by first | rfl | assumption | trivial | omega) | exact ev_ixLI (by exact ev_var (i := 2) rfl (by first | exact Or.inl rfl | exact Or.inr (Or.inl rfl) | exact Or.inr (Or.inr rfl)) rfl) (by exact ev_int) (by first | rfl | assumption | trivial | omega))) (by exact es_nil))) (by first | rfl | assumption | trivial | omega) (by rfl))))) (by rfl)) (by rfl))⟩, by simp⟩) (by first | rfl | assumption | trivial | omega))))) (by rfl) (by omega) ?_
  have em : (rs.map fun r => D.int r.1) = (rs.map (·.1)).map .int := by rw [List.map_map]; rfl
  have has : ascP (.lst (rs.map fun r => D.int r.1)) := .inr ⟨rs.map (·.1), by rw [em], by rw [List.length_map]; omega⟩
  have hasd : ascD (.lst (rs.map fun r => D.int r.1)) = true := by rw [em]; exact wr.asc
  refine ss_retE (by exact ev_c1 (by exact c_is_ascending) (by exact hr.mono (by first | decide | omega)) (by rfl) (by exact es_consI (by exact ev_lcF (own := [("row", 2)]) (xs := rs) (enc := eRow) (fun x => [(2, eRow x)]) (by rfl) sc26.nd (blkOk_by (N := ["columns", "value", "row"]) (sc := defScope (top 26)) (by decide +kernel)) (by exact EvI.z (by exact ei_tupI (by exact ev_var (i := 1) rfl (by first | exact Or.inl rfl | exact Or.inr (Or.inl rfl) | exact Or.inr (Or.inr rfl)) rfl)) (by rfl)) (fun x hx => by exact ⟨fun s1 H1 C1 cl1 fp1 => ⟨(by exact Tg.to (by exact tg_name (i := 2) sc26.nd rfl (by first | exact Or.inl rfl | exact Or.inr rfl)) (by rfl)), (by exact Ev.to (by exact Ev.z (by exact (by first | exact ev_ixTI (by exact ev_var (i := 2) rfl (by first | exact Or.inl rfl | exact Or.inr (Or.inl rfl) | exact Or.inr (Or.inr rfl)) rfl) (by exact ev_int) (by first | rfl | assumption | trivial | omega) | exact ev_ixLI (by exact ev_var (i := 2) rfl (by first | exact Or.inl rfl | exact Or.inr (Or.inl rfl) | exact Or.inr (Or.inr rfl)) rfl) (by exact ev_int) (by first | rfl | assumption | trivial | omega))) (by rfl)) (by rfl))⟩, by simp⟩) (by first | rfl | assumption | trivial | omega)) (by exact es_nil)) (by first | rfl | assumption | trivial | omega) (by rfl)) (by omega) ?_ ⟨hφ, by omega⟩
  exact congrArg D.bl hasd
end
end K5
namespace K5
open PySem PySem.Spec PyProof.Rows L2 Qq
section
variable {P : Program} {w : World} {K : PySem.W.Frag} {mg : Str → Option Value} {base : Heap} {f : Addr} {fd : FuncData}
def sttP (s v : D) : Prop := ∃ cs t, s = eSch cs ∧ v = eStt t ∧ WSch cs ∧ WStt cs t
theorem stt_len {s : Sch} {t : Stt} (h : WStt s t) : t.length = s.length := by have := congrArg List.length h.1; rwa [List.length_map, List.length_map] at this
theorem stt_nm {s : Sch} {t : Stt} (h : WStt s t) {i : Nat} {a : Tab} {b : Str × Rws} (h1 : s[i]? = some a) (h2 : t[i]? = some b) : b.1 = a.1 := by
  have e := congrArg (fun l => l[i]?) h.1
  simp only [List.getElem?_map, h1, h2, Option.map_some] at e
  exact Option.some.inj e
theorem eqS_str (a : Str) : eqS (.str a) (.str a) = true := decide_eq_true rfl
theorem sc27 : FnScope ["schema", "value", "part", "table", "columns"] ["schema", "value"] (defScope (top 27)) := ⟨rfl, rfl, rfl, by decide +kernel, rfl, by decide +kernel, by decide +kernel⟩
theorem ok27 (hB : Bns mg) (c_is_pair : Cal P w K mg base 1 "is_pair" ["value"] 0  SPair) (c_are_rows : Cal P w K mg base 4 "are_rows" ["columns", "value"] 0  (SQ2 rowsP fun _ _ => .bl true)) (F : FnP K "is_state" (top 27) f fd) : FnOk P w K mg base CX0 5 f fd ["schema", "value"]  (spF K 0 (SQ2 sttP fun _ _ => .bl true)) := by
  refine fn_ok F sc27 (fun W as φ h => by obtain ⟨d, e, rfl, _⟩ := h; rfl) (by decide) fun cdv A outer s H E W as φ n hr hS hn => ?_
  obtain ⟨d, e, rfl, ⟨cs, t, rfl, rfl, ws, wt⟩, hφ⟩ := hS
  have hlen := stt_len wt
  have hl6 := ws.len
  have hl : t.length ≤ 4000 := by omega
  have hlz : (cs.zip t).length ≤ 4000 := by rw [List.length_zip]; omega
  refine ss_ifF (z := _) (by exact et_pw (by exact (by first | exact et_orT' (by exact et_not (by exact et_v (by exact ev_isTup (by rfl) (by exact hB _ (by decide +kernel)) (by rfl) (by exact hB _ (by decide +kernel)) (by exact ev_var (i := 1) rfl (by first | exact Or.inl rfl | exact Or.inr (Or.inl rfl) | exact Or.inr (Or.inr rfl)) rfl)))) (by first | rfl | assumption) | exact et_or (by exact et_not (by exact et_v (by exact ev_isTup (by rfl) (by exact hB _ (by decide +kernel)) (by rfl) (by exact hB _ (by decide +kernel)) (by exact ev_var (i := 1) rfl (by first | exact Or.inl rfl | exact Or.inr (Or.inl rfl) | exact Or.inr (Or.inr rfl)) rfl)))) (fun hb => by exact eW_or1 (by exact et_ne (by exact ev_len (by rfl) (by exact hB _ (by decide +kernel)) (by exact ev_var (i := 1) rfl (by first | exact Or.inl rfl | exact Or.inr (Or.inl rfl) | exact Or.inr (Or.inr rfl)) rfl) (by first | rfl | assumption | trivial | omega) (by first | rfl | assumption | trivial | omega)) (by exact ev_len (by rfl) (by exact hB _ (by decide +kernel)) (by exact ev_var (i := 0) rfl (by first | exact Or.inl rfl | exact Or.inr (Or.inl rfl) | exact Or.inr (Or.inr rfl)) rfl) (by first | rfl | assumption | trivial | omega) (by first | rfl | assumption | trivial | omega)) (by first | rfl | assumption | trivial | omega)))))) (by show (!true || !eqS (.int ((t.map ePart).length : Nat)) (.int ((cs.map eTab).length : Nat))) = false; rw [eq_len (by rw [List.length_map, List.length_map]; exact hlen)]; rfl) (by omega) ?_
  refine ss_ifF (z := _) (by exact et_not (by exact et_v (by exact ev_allT (by rfl) (by rfl) (by exact hB _ (by decide +kernel)) (by exact ev_lcB (F := fun _ => true) (own := [("part", 2)]) (xs := t) (enc := ePart) (fun x => [(2, ePart x)]) (by rfl) sc27.nd (blkOk_by (N := ["schema", "value", "part", "table", "columns"]) (sc := defScope (top 27)) (by decide +kernel)) (by exact EvI.z (by exact ei_tupI (by exact ev_var (i := 1) rfl (by first | exact Or.inl rfl | exact Or.inr (Or.inl rfl) | exact Or.inr (Or.inr rfl)) rfl)) (by rfl)) (fun x hx => by exact ⟨fun s1 H1 C1 cl1 fp1 => ⟨(by exact Tg.to (by exact tg_name (i := 2) sc27.nd rfl (by first | exact Or.inl rfl | exact Or.inr rfl)) (by rfl)), (by exact Ev.to (by exact Ev.z (by exact ev_c1 (by exact c_is_pair) (by exact hr.mono (by first | decide | omega)) (by rfl) (by exact es_consI (by exact ev_var (i := 2) rfl (by first | exact Or.inl rfl | exact Or.inr (Or.inl rfl) | exact Or.inr (Or.inr rfl)) rfl) (by exact es_nil)) (by first | rfl | assumption | trivial | omega) (by rfl)) (by rfl)) (by rfl))⟩, by simp⟩) (by first | rfl | assumption | trivial | omega))))) (by rfl) (by omega) ?_
  refine ss_retE (by exact ev_allT (by rfl) (by rfl) (by exact hB _ (by decide +kernel)) (by exact ev_lcB (F := fun _ => true) (own := [("table", 3), ("columns", 4), ("part", 2)]) (xs := cs.zip t) (enc := fun p => .tup [eTab p.1, ePart p.2]) (fun x => [(3, .str x.1.1), (4, eCols x.1.2), (2, ePart x.2)]) (by rfl) sc27.nd (blkOk_by (N := ["schema", "value", "part", "table", "columns"]) (sc := defScope (top 27)) (by decide +kernel)) (by exact EvI.to (by exact EvI.z (by exact ei_zipI (by rfl) (by exact hB _ (by decide +kernel)) (by exact es_consI (by exact ev_var (i := 0) rfl (by first | exact Or.inl rfl | exact Or.inr (Or.inl rfl) | exact Or.inr (Or.inr rfl)) rfl) (by exact es_consI (by exact ev_var (i := 1) rfl (by first | exact Or.inl rfl | exact Or.inr (Or.inl rfl) | exact Or.inr (Or.inr rfl)) rfl) (by exact es_nil))) (by first | exact Or.inl rfl | exact Or.inr rfl)) (by rfl)) (zip_gen eTab ePart cs t)) (fun x hx => by obtain ⟨i, h5, h6⟩ := zip_mem hx; have h3 := stt_nm wt h5 h6; have h1 : rowsP (eCols x.1.2) (eRows x.2.2) := ⟨_, _, rfl, rfl, ws.cs _ (List.mem_of_getElem? h5), wt.2 i _ _ h5 h6⟩; exact ⟨fun s1 H1 C1 cl1 fp1 => ⟨(by exact Tg.to (by exact tg_tup (by rfl) (by exact tl_cons (by exact tg_tup (by rfl) (by exact tl_cons (by exact tg_name (i := 3) sc27.nd rfl (by first | exact Or.inl rfl | exact Or.inr rfl)) (by exact tl_cons (by exact tg_name (i := 4) sc27.nd rfl (by first | exact Or.inl rfl | exact Or.inr rfl)) (by exact tl_nil)))) (by exact tl_cons (by exact tg_name (i := 2) sc27.nd rfl (by first | exact Or.inl rfl | exact Or.inr rfl)) (by exact tl_nil)))) (by rfl)), (by exact Ev.to (by exact Ev.z (by exact (by first | exact ev_andF' (by exact ev_eq (by exact (by first | exact ev_ixTI (by exact ev_var (i := 2) rfl (by first | exact Or.inl rfl | exact Or.inr (Or.inl rfl) | exact Or.inr (Or.inr rfl)) rfl) (by exact ev_int) (by first | rfl | assumption | trivial | omega) | exact ev_ixLI (by exact ev_var (i := 2) rfl (by first | exact Or.inl rfl | exact Or.inr (Or.inl rfl) | exact Or.inr (Or.inr rfl)) rfl) (by exact ev_int) (by first | rfl | assumption | trivial | omega))) (by exact ev_var (i := 3) rfl (by first | exact Or.inl rfl | exact Or.inr (Or.inl rfl) | exact Or.inr (Or.inr rfl)) rfl) (by first | rfl | assumption | trivial | omega)) (by first | rfl | assumption) | exact ev_and (by exact ev_eq (by exact (by first | exact ev_ixTI (by exact ev_var (i := 2) rfl (by first | exact Or.inl rfl | exact Or.inr (Or.inl rfl) | exact Or.inr (Or.inr rfl)) rfl) (by exact ev_int) (by first | rfl | assumption | trivial | omega) | exact ev_ixLI (by exact ev_var (i := 2) rfl (by first | exact Or.inl rfl | exact Or.inr (Or.inl rfl) | exact Or.inr (Or.inr rfl)) rfl) (by exact ev_int) (by first | rfl | assumption | trivial | omega))) (by exact ev_var (i := 3) rfl (by first | exact Or.inl rfl | exact Or.inr (Or.inl rfl) | exact Or.inr (Or.inr rfl)) rfl) (by first | rfl | assumption | trivial | omega)) (fun hb => by exact ev_one (by exact ev_c2 (by exact c_are_rows) (by exact hr.mono (by first | decide | omega)) (by rfl) (by exact es_consI (by exact ev_var (i := 4) rfl (by first | exact Or.inl rfl | exact Or.inr (Or.inl rfl) | exact Or.inr (Or.inr rfl)) rfl) (by exact es_consI (by exact (by first | exact ev_ixTI (by exact ev_var (i := 2) rfl (by first | exact Or.inl rfl | exact Or.inr (Or.inl rfl) | exact Or.inr (Or.inr rfl)) rfl) (by exact ev_int) (by first | rfl | assumption | trivial | omega) | exact ev_ixLI (by exact ev_var (i := 2) rfl (by first | exact Or.inl rfl | exact Or.inr (Or.inl rfl) | exact Or.inr (Or.inr rfl)) rfl) (by exact ev_int) (by first | rfl | assumption | trivial | omega))) (by exact es_nil))) (by first | rfl | assumption | trivial | omega) (by rfl))))) (by rfl)) (by show D.bl (eqS (.str x.2.1) (.str x.1.1) && true) = _; rw [h3, eqS_str]; rfl))⟩, by simp⟩) (by first | rfl | assumption | trivial | omega))) (by omega) ?_ ⟨hφ, by omega⟩
  rfl
/-! what one key has -/
abbrev KRs := List (Str × Option (List D))
def optD : Option (List D) → D
  | none => .non
  | some vs => .tup vs
def eKR (p : Str × Option (List D)) : D := .tup [.str p.1, optD p.2]
def eKRs (t : KRs) : D := .tup (t.map eKR)
def WKRs (s : Sch) (t : KRs) : Prop := t.map (·.1) = s.map (·.1) ∧ ∀ (i : Nat) (c : Tab) (p : Str × Option (List D)), s[i]? = some c → t[i]? = some p → ∀ vs, p.2 = some vs → WVals c.2 vs
theorem krs_len {s : Sch} {t : KRs} (h : WKRs s t) : t.length = s.length := by have := congrArg List.length h.1; rwa [List.length_map, List.length_map] at this
theorem krs_nm {s : Sch} {t : KRs} (h : WKRs s t) {i : Nat} {a : Tab} {b : Str × Option (List D)} (h1 : s[i]? = some a) (h2 : t[i]? = some b) : b.1 = a.1 := by
  have e := congrArg (fun l => l[i]?) h.1
  simp only [List.getElem?_map, h1, h2, Option.map_some] at e
  exact Option.some.inj e
def krsP (s v : D) : Prop := ∃ cs t, s = eSch cs ∧ v = eKRs t ∧ WSch cs ∧ WKRs cs t
theorem sc28 : FnScope ["schema", "value", "part", "table", "columns"] ["schema", "value"] (defScope (top 28)) := ⟨rfl, rfl, rfl, by decide +kernel, rfl, by decide +kernel, by decide +kernel⟩
theorem ok28 (hB : Bns mg) (c_is_pair : Cal P w K mg base 1 "is_pair" ["value"] 0  SPair) (c_are_values_of : Cal P w K mg base 3 "are_values_of" ["columns", "value"] 0  (SQ2 valsP fun _ _ => .bl true)) (F : FnP K "is_key_rows" (top 28) f fd) : FnOk P w K mg base CX0 4 f fd ["schema", "value"]  (spF K 0 (SQ2 krsP fun _ _ => .bl true)) := by
  refine fn_ok F sc28 (fun W as φ h => by obtain ⟨d, e, rfl, _⟩ := h; rfl) (by decide) fun cdv A outer s H E W as φ n hr hS hn => ?_
  obtain ⟨d, e, rfl, ⟨cs, t, rfl, rfl, ws, wt⟩, hφ⟩ := hS
  have hlen := krs_len wt
  have hl6 := ws.len
  have hl : t.length ≤ 4000 := by omega
  have hlz : (cs.zip t).length ≤ 4000 := by rw [List.length_zip]; omega
  refine ss_ifF (z := _) (by exact et_pw (by exact (by first | exact et_orT' (by exact et_not (by exact et_v (by exact ev_isTup (by rfl) (by exact hB _ (by decide +kernel)) (by rfl) (by exact hB _ (by decide +kernel)) (by exact ev_var (i := 1) rfl (by first | exact Or.inl rfl | exact Or.inr (Or.inl rfl) | exact Or.inr (Or.inr rfl)) rfl)))) (by first | rfl | assumption) | exact et_or (by exact et_not (by exact et_v (by exact ev_isTup (by rfl) (by exact hB _ (by decide +kernel)) (by rfl) (by exact hB _ (by decide +kernel)) (by exact ev_var (i := 1) rfl (by first | exact Or.inl rfl | exact Or.inr (Or.inl rfl) | exact Or.inr (Or.inr rfl)) rfl)))) (fun hb => by exact eW_or1 (by exact et_ne (by exact ev_len (by rfl) (by exact hB _ (by decide +kernel)) (by exact ev_var (i := 1) rfl (by first | exact Or.inl rfl | exact Or.inr (Or.inl rfl) | exact Or.inr (Or.inr rfl)) rfl) (by first | rfl | assumption | trivial | omega) (by first | rfl | assumption | trivial | omega)) (by exact ev_len (by rfl) (by exact hB _ (by decide +kernel)) (by exact ev_var (i := 0) rfl (by first | exact Or.inl rfl | exact Or.inr (Or.inl rfl) | exact Or.inr (Or.inr rfl)) rfl) (by first | rfl | assumption | trivial | omega) (by first | rfl | assumption | trivial | omega)) (by first | rfl | assumption | trivial | omega)))))) (by show (!true || !eqS (.int ((t.map eKR).length : Nat)) (.int ((cs.map eTab).length : Nat))) = false; rw [eq_len (by rw [List.length_map, List.length_map]; exact hlen)]; rfl) (by omega) ?_
  refine ss_ifF (z := _) (by exact et_not (by exact et_v (by exact ev_allT (by rfl) (by rfl) (by exact hB _ (by decide +kernel)) (by exact ev_lcB (F := fun _ => true) (own := [("part", 2)]) (xs := t) (enc := eKR) (fun x => [(2, eKR x)]) (by rfl) sc28.nd (blkOk_by (N := ["schema", "value", "part", "table", "columns"]) (sc := defScope (top 28)) (by decide +kernel)) (by exact EvI.z (by exact ei_tupI (by exact ev_var (i := 1) rfl (by first | exact Or.inl rfl | exact Or.inr (Or.inl rfl) | exact Or.inr (Or.inr rfl)) rfl)) (by rfl)) (fun x hx => by exact ⟨fun s1 H1 C1 cl1 fp1 => ⟨(by exact Tg.to (by exact tg_name (i := 2) sc28.nd rfl (by first | exact Or.inl rfl | exact Or.inr rfl)) (by rfl)), (by exact Ev.to (by exact Ev.z (by exact ev_c1 (by exact c_is_pair) (by exact hr.mono (by first | decide | omega)) (by rfl) (by exact es_consI (by exact ev_var (i := 2) rfl (by first | exact Or.inl rfl | exact Or.inr (Or.inl rfl) | exact Or.inr (Or.inr rfl)) rfl) (by exact es_nil)) (by first | rfl | assumption | trivial | omega) (by rfl)) (by rfl)) (by rfl))⟩, by simp⟩) (by first | rfl | assumption | trivial | omega))))) (by rfl) (by omega) ?_
  refine ss_retE (by exact ev_allT (by rfl) (by rfl) (by exact hB _ (by decide +kernel)) (by exact ev_lcB (F := fun _ => true) (own := [("table", 3), ("columns", 4), ("part", 2)]) (xs := cs.zip t) (enc := fun p => .tup [eTab p.1, eKR p.2]) (fun x => [(3, .str x.1.1), (4, eCols x.1.2), (2, eKR x.2)]) (by rfl) sc28.nd (blkOk_by (N := ["schema", "value", "part", "table", "columns"]) (sc := defScope (top 28)) (by decide +kernel)) (by exact EvI.to (by exact EvI.z (by exact ei_zipI (by rfl) (by exact hB _ (by decide +kernel)) (by exact es_consI (by exact ev_var (i := 0) rfl (by first | exact Or.inl rfl | exact Or.inr (Or.inl rfl) | exact Or.inr (Or.inr rfl)) rfl) (by exact es_consI (by exact ev_var (i := 1) rfl (by first | exact Or.inl rfl | exact Or.inr (Or.inl rfl) | exact Or.inr (Or.inr rfl)) rfl) (by exact es_nil))) (by first | exact Or.inl rfl | exact Or.inr rfl)) (by rfl)) (zip_gen eTab eKR cs t)) (fun x hx => by obtain ⟨i, h5, h6⟩ := zip_mem hx; have h3 := krs_nm wt h5 h6; have h7 := wt.2 i _ _ h5 h6; have h8 := ws.cs _ (List.mem_of_getElem? h5); clear hx h5 h6; obtain ⟨⟨x1, x2⟩, y1, y2⟩ := x; rcases y2 with _ | vs; rotate_left; have h1 : valsP (eCols x2) (.tup vs) := ⟨_, _, rfl, rfl, h8, h7 vs rfl⟩; rotate_left; all_goals exact ⟨fun s1 H1 C1 cl1 fp1 => ⟨(by exact Tg.to (by exact tg_tup (by rfl) (by exact tl_cons (by exact tg_tup (by rfl) (by exact tl_cons (by exact tg_name (i := 3) sc28.nd rfl (by first | exact Or.inl rfl | exact Or.inr rfl)) (by exact tl_cons (by exact tg_name (i := 4) sc28.nd rfl (by first | exact Or.inl rfl | exact Or.inr rfl)) (by exact tl_nil)))) (by exact tl_cons (by exact tg_name (i := 2) sc28.nd rfl (by first | exact Or.inl rfl | exact Or.inr rfl)) (by exact tl_nil)))) (by rfl)), (by exact Ev.to (by exact Ev.z (by exact (by first | exact ev_andF' (by exact ev_eq (by exact (by first | exact ev_ixTI (by exact ev_var (i := 2) rfl (by first | exact Or.inl rfl | exact Or.inr (Or.inl rfl) | exact Or.inr (Or.inr rfl)) rfl) (by exact ev_int) (by first | rfl | assumption | trivial | omega) | exact ev_ixLI (by exact ev_var (i := 2) rfl (by first | exact Or.inl rfl | exact Or.inr (Or.inl rfl) | exact Or.inr (Or.inr rfl)) rfl) (by exact ev_int) (by first | rfl | assumption | trivial | omega))) (by exact ev_var (i := 3) rfl (by first | exact Or.inl rfl | exact Or.inr (Or.inl rfl) | exact Or.inr (Or.inr rfl)) rfl) (by first | rfl | assumption | trivial | omega)) (by first | rfl | assumption) | exact ev_and (by exact ev_eq (by exact (by first | exact ev_ixTI (by exact ev_var (i := 2) rfl (by first | exact Or.inl rfl | exact Or.inr (Or.inl rfl) | exact Or.inr (Or.inr rfl)) rfl) (by exact ev_int) (by first | rfl | assumption | trivial | omega) | exact ev_ixLI (by exact ev_var (i := 2) rfl (by first | exact Or.inl rfl | exact Or.inr (Or.inl rfl) | exact Or.inr (Or.inr rfl)) rfl) (by exact ev_int) (by first | rfl | assumption | trivial | omega))) (by exact ev_var (i := 3) rfl (by first | exact Or.inl rfl | exact Or.inr (Or.inl rfl) | exact Or.inr (Or.inr rfl)) rfl) (by first | rfl | assumption | trivial | omega)) (fun hb => by exact ev_one (by exact (by first | exact ev_orT' (by exact ev_isN (by exact (by first | exact ev_ixTI (by exact ev_var (i := 2) rfl (by first | exact Or.inl rfl | exact Or.inr (Or.inl rfl) | exact Or.inr (Or.inr rfl)) rfl) (by exact ev_int) (by first | rfl | assumption | trivial | omega) | exact ev_ixLI (by exact ev_var (i := 2) rfl (by first | exact Or.inl rfl | exact Or.inr (Or.inl rfl) | exact Or.inr (Or.inr rfl)) rfl) (by exact ev_int) (by first | rfl | assumption | trivial | omega)))) (by first | rfl | assumption) | exact ev_or (by exact ev_isN (by exact (by first | exact ev_ixTI (by exact ev_var (i := 2) rfl (by first | exact Or.inl rfl | exact Or.inr (Or.inl rfl) | exact Or.inr (Or.inr rfl)) rfl) (by exact ev_int) (by first | rfl | assumption | trivial | omega) | exact ev_ixLI (by exact ev_var (i := 2) rfl (by first | exact Or.inl rfl | exact Or.inr (Or.inl rfl) | exact Or.inr (Or.inr rfl)) rfl) (by exact ev_int) (by first | rfl | assumption | trivial | omega)))) (fun hb => by exact ev_one (by exact ev_c2 (by exact c_are_values_of) (by exact hr.mono (by first | decide | omega)) (by rfl) (by exact es_consI (by exact ev_var (i := 4) rfl (by first | exact Or.inl rfl | exact Or.inr (Or.inl rfl) | exact Or.inr (Or.inr rfl)) rfl) (by exact es_consI (by exact (by first | exact ev_ixTI (by exact ev_var (i := 2) rfl (by first | exact Or.inl rfl | exact Or.inr (Or.inl rfl) | exact Or.inr (Or.inr rfl)) rfl) (by exact ev_int) (by first | rfl | assumption | trivial | omega) | exact ev_ixLI (by exact ev_var (i := 2) rfl (by first | exact Or.inl rfl | exact Or.inr (Or.inl rfl) | exact Or.inr (Or.inr rfl)) rfl) (by exact ev_int) (by first | rfl | assumption | trivial | omega))) (by exact es_nil))) (by first | rfl | assumption | trivial | omega) (by rfl)))))))) (by rfl)) (by have h4 : y1 = x1 := h3; show D.bl (eqS (.str y1) (.str x1) && true) = _; rw [h4, eqS_str]; rfl))⟩, by simp⟩) (by first | rfl | assumption | trivial | omega))) (by omega) ?_ ⟨hφ, by omega⟩
  rfl
theorem sc29 : FnScope ["value"] ["value"] (defScope (top 29)) := ⟨rfl, rfl, rfl, by decide +kernel, rfl, by decide +kernel, by decide +kernel⟩
theorem ok29 (c_is_schema : Cal P w K mg base 4 "is_schema" ["value"] 0  (SQ1 schP fun _ => .bl true)) (F : FnP K "want_schema" (top 29) f fd) : FnOk P w K mg base CX0 5 f fd ["value"]  (spF K 0 (SQ1 schP fun _ => .non)) := by
  refine fn_ok F sc29 (fun W as φ h => by obtain ⟨d, rfl, _⟩ := h; rfl) (by decide) fun cdv A outer s H E W as φ n hr hS hn => ?_
  obtain ⟨d, rfl, hd, hφ⟩ := hS
  refine ss_ifF (z := _) (by exact et_not (by exact et_v (by exact ev_c1 (by exact c_is_schema) (by exact hr.mono (by first | decide | omega)) (by rfl) (by exact es_consI (by exact ev_var (i := 0) rfl (by first | exact Or.inl rfl | exact Or.inr (Or.inl rfl) | exact Or.inr (Or.inr rfl)) rfl) (by exact es_nil)) (by first | rfl | assumption | trivial | omega) (by rfl)))) (by rfl) (by omega) ?_
  exact ss_nil ⟨hφ, by omega⟩
theorem sc30 : FnScope ["value"] ["value"] (defScope (top 30)) := ⟨rfl, rfl, rfl, by decide +kernel, rfl, by decide +kernel, by decide +kernel⟩
theorem ok30 (c_is_key : Cal P w K mg base 2 "is_key" ["value"] 0  (SQ1 keyP fun _ => .bl true)) (F : FnP K "want_key" (top 30) f fd) : FnOk P w K mg base CX0 3 f fd ["value"]  (spF K 0 (SQ1 keyP fun _ => .non)) := by
  refine fn_ok F sc30 (fun W as φ h => by obtain ⟨d, rfl, _⟩ := h; rfl) (by decide) fun cdv A outer s H E W as φ n hr hS hn => ?_
  obtain ⟨d, rfl, hd, hφ⟩ := hS
  refine ss_ifF (z := _) (by exact et_not (by exact et_v (by exact ev_c1 (by exact c_is_key) (by exact hr.mono (by first | decide | omega)) (by rfl) (by exact es_consI (by exact ev_var (i := 0) rfl (by first | exact Or.inl rfl | exact Or.inr (Or.inl rfl) | exact Or.inr (Or.inr rfl)) rfl) (by exact es_nil)) (by first | rfl | assumption | trivial | omega) (by rfl)))) (by rfl) (by omega) ?_
  exact ss_nil ⟨hφ, by omega⟩
theorem sc32 : FnScope ["schema", "table", "_"] ["schema"] (defScope (top 32)) := ⟨rfl, rfl, rfl, by decide +kernel, rfl, by decide +kernel, by decide +kernel⟩
theorem ok32 (hB : Bns mg) (c_want_schema : Cal P w K mg base 5 "want_schema" ["value"] 0  (SQ1 schP fun _ => .non)) (F : FnP K "empty_state" (top 32) f fd) : FnOk P w K mg base CX0 6 f fd ["schema"]  (spF K 0 fun W as φ => ∃ s, as = [.dat (eSch s)] ∧ WSch s ∧ φ (eStt (s.map fun t => (t.1, [])))) := by
  refine fn_ok F sc32 (fun W as φ h => by obtain ⟨d, rfl, _⟩ := h; rfl) (by decide) fun cdv A outer s H E W as φ n hr hS hn => ?_
  obtain ⟨cs, rfl, ws, hφ⟩ := hS
  have hsc : schP (eSch cs) := ⟨cs, rfl, ws⟩
  have hl6 := ws.len
  have hl : cs.length ≤ 4000 := by omega
  refine ss_expr (by exact ev_c1 (by exact c_want_schema) (by exact hr.mono (by first | decide | omega)) (by rfl) (by exact es_consI (by exact ev_var (i := 0) rfl (by first | exact Or.inl rfl | exact Or.inr (Or.inl rfl) | exact Or.inr (Or.inr rfl)) rfl) (by exact es_nil)) (by first | rfl | assumption | trivial | omega) (by rfl)) (by omega) ?_
  refine ss_retE (by exact ev_tupleI (by rfl) (by exact hB _ (by decide +kernel)) (by exact ev_lcF (own := [("table", 1), ("_", 2)]) (xs := cs) (enc := eTab) (fun x => [(1, .str x.1), (2, eCols x.2)]) (by rfl) sc32.nd (blkOk_by (N := ["schema", "table", "_"]) (sc := defScope (top 32)) (by decide +kernel)) (by exact EvI.z (by exact ei_tupI (by exact ev_var (i := 0) rfl (by first | exact Or.inl rfl | exact Or.inr (Or.inl rfl) | exact Or.inr (Or.inr rfl)) rfl)) (by rfl)) (fun x hx => by exact ⟨fun s1 H1 C1 cl1 fp1 => ⟨(by exact Tg.to (by exact tg_tup (by rfl) (by exact tl_cons (by exact tg_name (i := 1) sc32.nd rfl (by first | exact Or.inl rfl | exact Or.inr rfl)) (by exact tl_cons (by exact tg_name (i := 2) sc32.nd rfl (by first | exact Or.inl rfl | exact Or.inr rfl)) (by exact tl_nil)))) (by rfl)), (by exact Ev.to (by exact Ev.z (by exact ev_tupJ (by exact es_consI (by exact ev_var (i := 1) rfl (by first | exact Or.inl rfl | exact Or.inr (Or.inl rfl) | exact Or.inr (Or.inr rfl)) rfl) (by exact es_consI (by exact ev_tupJ (by exact es_nil) (by rfl) (by rfl)) (by exact es_nil))) (by rfl) (by rfl)) (by rfl)) (by rfl))⟩, by simp⟩) (by first | rfl | assumption | trivial | omega))) (by omega) ?_ ⟨hφ, by omega⟩
  unfold eStt
  rw [List.map_map]; rfl
theorem sc33 : FnScope ["schema", "value"] ["schema", "value"] (defScope (top 33)) := ⟨rfl, rfl, rfl, by decide +kernel, rfl, by decide +kernel, by decide +kernel⟩
theorem ok33 (c_want_schema : Cal P w K mg base 5 "want_schema" ["value"] 0  (SQ1 schP fun _ => .non)) (c_is_state : Cal P w K mg base 5 "is_state" ["schema", "value"] 0  (SQ2 sttP fun _ _ => .bl true)) (F : FnP K "fits" (top 33) f fd) : FnOk P w K mg base CX0 6 f fd ["schema", "value"]  (spF K 0 (SQ2 sttP fun _ _ => .bl true)) := by
  refine fn_ok F sc33 (fun W as φ h => by obtain ⟨d, e, rfl, _⟩ := h; rfl) (by decide) fun cdv A outer s H E W as φ n hr hS hn => ?_
  obtain ⟨d, e, rfl, hst, hφ⟩ := hS
  have hsc : schP d := let ⟨cs, t, a, b, c, _⟩ := hst; ⟨cs, a, c⟩
  refine ss_expr (by exact ev_c1 (by exact c_want_schema) (by exact hr.mono (by first | decide | omega)) (by rfl) (by exact es_consI (by exact ev_var (i := 0) rfl (by first | exact Or.inl rfl | exact Or.inr (Or.inl rfl) | exact Or.inr (Or.inr rfl)) rfl) (by exact es_nil)) (by first | rfl | assumption | trivial | omega) (by rfl)) (by omega) ?_
  refine ss_retE (by exact ev_c2 (by exact c_is_state) (by exact hr.mono (by first | decide | omega)) (by rfl) (by exact es_consI (by exact ev_var (i := 0) rfl (by first | exact Or.inl rfl | exact Or.inr (Or.inl rfl) | exact Or.inr (Or.inr rfl)) rfl) (by exact es_consI (by exact ev_var (i := 1) rfl (by first | exact Or.inl rfl | exact Or.inr (Or.inl rfl) | exact Or.inr (Or.inr rfl)) rfl) (by exact es_nil))) (by first | rfl | assumption | trivial | omega) (by rfl)) (by omega) ?_ ⟨hφ, by omega⟩
  rfl
theorem sc38 : FnScope ["schema", "value"] ["schema", "value"] (defScope (top 38)) := ⟨rfl, rfl, rfl, by decide +kernel, rfl, by decide +kernel, by decide +kernel⟩
theorem ok38 (c_fits : Cal P w K mg base 6 "fits" ["schema", "value"] 0  (SQ2 sttP fun _ _ => .bl true)) (F : FnP K "want_state" (top 38) f fd) : FnOk P w K mg base CX0 7 f fd ["schema", "value"]  (spF K 0 (SQ2 sttP fun _ _ => .non)) := by
  refine fn_ok F sc38 (fun W as φ h => by obtain ⟨d, e, rfl, _⟩ := h; rfl) (by decide) fun cdv A outer s H E W as φ n hr hS hn => ?_
  obtain ⟨d, e, rfl, hd, hφ⟩ := hS
  refine ss_ifF (z := _) (by exact et_not (by exact et_v (by exact ev_c2 (by exact c_fits) (by exact hr.mono (by first | decide | omega)) (by rfl) (by exact es_consI (by exact ev_var (i := 0) rfl (by first | exact Or.inl rfl | exact Or.inr (Or.inl rfl) | exact Or.inr (Or.inr rfl)) rfl) (by exact es_consI (by exact ev_var (i := 1) rfl (by first | exact Or.inl rfl | exact Or.inr (Or.inl rfl) | exact Or.inr (Or.inr rfl)) rfl) (by exact es_nil))) (by first | rfl | assumption | trivial | omega) (by rfl)))) (by rfl) (by omega) ?_
  exact ss_nil ⟨hφ, by omega⟩
end
end K5
namespace K5
open PySem PySem.Spec PyProof.Rows L2 Qq
/-! told states whose rows are tuples without a dict -/
def eRowsP (rs : Rws) : D := .rws (rs.map eRow)
def ePartP (p : Str × Rws) : D := .tup [.str p.1, eRowsP p.2]
def eSttP (s : Stt) : D := .tup (s.map ePartP)
def kRows (rs : Rws) : List (Key × D) := rs.map fun r => (.inl r.1, .tup r.2)
theorem prs_rows (rs : Rws) : eRowsP rs = .rws (prsD (kRows rs)) := by
  unfold eRowsP prsD kRows
  rw [List.map_map]; rfl
theorem getK_app (a b : List (Key × D)) (k : Key) : getK (a ++ b) k = (getK a k).orElse fun _ => getK b k := by
  unfold getK
  rw [List.find?_append]
  cases a.find? _ <;> rfl
theorem putD_new (a : List (Key × D)) (k : Key) (d : D) (h : k ∉ a.map (·.1)) : putD a k d = a ++ [(k, d)] := by
  unfold putD
  rw [if_neg]
  intro q
  rw [List.any_eq_true] at q
  obtain ⟨p, hp, e⟩ := q
  exact h (List.mem_map.mpr ⟨p, hp, of_decide_eq_true e⟩)
theorem merge_nodup : ∀ (b a : List (Key × D)), ((a ++ b).map (·.1)).Nodup → mergeD a b = a ++ b
  | [], a, _ => by rw [List.append_nil]; rfl
  | (k, d) :: b, a, h => by
    have h1 : k ∉ a.map (·.1) := by
      intro q
      rw [List.map_append, List.map_cons] at h
      exact (List.nodup_append.mp h).2.2 k q k (List.mem_cons_self ..) rfl
    unfold mergeD
    rw [putD_new a k d h1, merge_nodup b (a ++ [(k, d)]) (by rw [List.append_assoc]; exact h), List.append_assoc]
    rfl
/-- what a key has in rows -/
def inRows (rs : Rws) (key : Int) : Option (List D) := (rs.find? fun r => decide (r.1 = key)).map (·.2)
theorem get_rows (rs : Rws) (key : Int) : (getK (kRows rs) (.inl key)).getD .non = optD (inRows rs key) := by
  induction rs with
  | nil => rfl
  | cons r rs ih =>
    by_cases q : r.1 = key
    · simp [getK, kRows, inRows, optD, q]
    · have e : ¬ (Sum.inl r.1 : Key) = .inl key := fun z => q (Sum.inl.inj z)
      simp only [getK, kRows, inRows, List.map_cons, List.find?_cons, decide_eq_false e, decide_eq_false q] at ih ⊢
      exact ih
theorem asc_lt : ∀ {ks : List Int}, ascD (.lst (ks.map .int)) = true → ks.Pairwise (· < ·) := by
  intro ks h
  unfold ascD at h
  induction ks with
  | nil => exact .nil
  | cons a ks ih =>
    cases ks with
    | nil => exact .cons (fun _ z => nomatch z) .nil
    | cons b ks =>
      simp only [List.map_cons, List.drop_one, List.tail_cons, List.zip_cons_cons, List.all_cons, Bool.and_eq_true] at h ih
      have h1 : a < b := of_decide_eq_true h.1
      have p := ih (by simpa using h.2)
      refine .cons (fun x hx => ?_) p
      rcases List.mem_cons.mp hx with rfl | hx
      · exact h1
      · exact Int.lt_trans h1 (List.rel_of_pairwise_cons p hx)
theorem rows_nodup {cs : Cols} {rs : Rws} (h : WRows cs rs) : ((kRows rs).map (·.1)).Nodup := by
  have p := asc_lt h.asc
  unfold kRows
  rw [List.map_map]
  rw [List.pairwise_map] at p
  refine List.nodup_iff_pairwise_ne.mpr (List.pairwise_map.mpr (p.imp fun {a b} q e => ?_))
  have e' : (Sum.inl a.1 : Key) = .inl b.1 := e
  have := Sum.inl.inj e'
  omega
theorem dict_rows {cs : Cols} {rs : Rws} (h : WRows cs rs) : mergeD [] (kRows rs) = kRows rs := merge_nodup _ [] (rows_nodup h)
section
variable {P : Program} {w : World} {K : PySem.W.Frag} {mg : Str → Option Value} {base : Heap} {f : Addr} {fd : FuncData}
def toldP (s v : D) : Prop := True
/-- a told state of a schema -/
def TldP (v : D) (t : Stt) : Prop := v = eSttP t ∧ ∃ cs, WSch cs ∧ WStt cs t
theorem tl_rows {t : Stt} {cs : Sch} (h : WStt cs t) {i : Nat} {p : Str × Rws} (e : t[i]? = some p) : ∃ c, WRows c p.2 := by
  have hl := stt_len h
  have hi : i < cs.length := by rw [← hl]; exact (List.getElem?_eq_some_iff.mp e).1
  exact ⟨_, h.2 i cs[i] p (List.getElem?_eq_getElem hi) e⟩
theorem sc36 : FnScope ["state", "key", "table", "rows"] ["state", "key"] (defScope (top 36)) := ⟨rfl, rfl, rfl, by decide +kernel, rfl, by decide +kernel, by decide +kernel⟩
theorem ok36 (hB : Bns mg) (c_want_key : Cal P w K mg base 3 "want_key" ["value"] 0  (SQ1 keyP fun _ => .non)) (F : FnP K "key_rows" (top 36) f fd) : FnOk P w K mg base CX0 4 f fd ["state", "key"]  (spF K 0 fun W as φ => ∃ v k t, as = [.dat v, .dat (.int k)] ∧ TldP v t ∧ 1 ≤ k ∧ k ≤ 999999 ∧ φ (eKRs (t.map fun p => (p.1, inRows p.2 k)))) := by
  refine fn_ok F sc36 (fun W as φ h => by obtain ⟨v, k, t, rfl, _⟩ := h; rfl) (by decide) fun cdv A outer s H E W as φ n hr hS hn => ?_
  obtain ⟨v, k, t, rfl, ⟨rfl, cs, ws, wt⟩, h1, h2, hφ⟩ := hS
  have hk : keyP (.int k) := ⟨k, rfl, h1, h2⟩
  have hl : t.length ≤ 4000 := by have := stt_len wt; have := ws.len; omega
  refine ss_expr (by exact ev_c1 (by exact c_want_key) (by exact hr.mono (by first | decide | omega)) (by rfl) (by exact es_consI (by exact ev_var (i := 1) rfl (by first | exact Or.inl rfl | exact Or.inr (Or.inl rfl) | exact Or.inr (Or.inr rfl)) rfl) (by exact es_nil)) (by first | rfl | assumption | trivial | omega) (by rfl)) (by omega) ?_
  refine ss_retE (by exact ev_tupleI (by rfl) (by exact hB _ (by decide +kernel)) (by exact ev_lcF (own := [("table", 2), ("rows", 3)]) (xs := t) (enc := ePartP) (fun x => [(2, .str x.1), (3, eRowsP x.2)]) (by rfl) sc36.nd (blkOk_by (N := ["state", "key", "table", "rows"]) (sc := defScope (top 36)) (by decide +kernel)) (by exact EvI.z (by exact ei_tupI (by exact ev_var (i := 0) rfl (by first | exact Or.inl rfl | exact Or.inr (Or.inl rfl) | exact Or.inr (Or.inr rfl)) rfl)) (by rfl)) (fun x hx => by obtain ⟨i, h3⟩ := List.getElem?_of_mem hx; obtain ⟨c, h4⟩ := tl_rows wt h3; exact ⟨fun s1 H1 C1 cl1 fp1 => ⟨(by exact Tg.to (by exact tg_tup (by rfl) (by exact tl_cons (by exact tg_name (i := 2) sc36.nd rfl (by first | exact Or.inl rfl | exact Or.inr rfl)) (by exact tl_cons (by exact tg_name (i := 3) sc36.nd rfl (by first | exact Or.inl rfl | exact Or.inr rfl)) (by exact tl_nil)))) (by rfl)), (by exact Ev.to (by exact Ev.z (by exact ev_tupJ (by exact es_consI (by exact ev_var (i := 2) rfl (by first | exact Or.inl rfl | exact Or.inr (Or.inl rfl) | exact Or.inr (Or.inr rfl)) rfl) (by exact es_consI (by exact ev_get1 (k := (.inl k)) (by exact hu_of hr) (by exact ev_dictT (kds := kRows x.2) (by rfl) (by rfl) (by exact hB _ (by decide +kernel)) (by exact Ev.to (by exact ev_var (i := 3) rfl (by first | exact Or.inl rfl | exact Or.inr (Or.inl rfl) | exact Or.inr (Or.inr rfl)) rfl) (by exact prs_rows _))) (by exact ev_var (i := 1) rfl (by first | exact Or.inl rfl | exact Or.inr (Or.inl rfl) | exact Or.inr (Or.inr rfl)) rfl)) (by exact es_nil))) (by rfl) (by rfl)) (by rfl)) (by rw [dict_rows h4, get_rows]))⟩, by simp⟩) (by first | rfl | assumption | trivial | omega))) (by omega) ?_ ⟨hφ, by omega⟩
  unfold eKRs
  rw [List.map_map]; rfl
theorem filter_one {t : Stt} (hn : (t.map (·.1)).Nodup) {p : Str × Rws} (hp : p ∈ t) : t.filter (fun q => eqS (.str q.1) (.str p.1)) = [p] := by
  induction t with
  | nil => cases hp
  | cons a t ih =>
    rw [List.map_cons, List.nodup_cons] at hn
    rw [List.filter_cons]
    rcases List.mem_cons.mp hp with rfl | h
    · rw [if_pos (eqS_str _)]
      have : t.filter (fun q => eqS (.str q.1) (.str p.1)) = [] := List.filter_eq_nil_iff.mpr fun q hq e => hn.1 (List.mem_map.mpr ⟨q, hq, of_decide_eq_true e⟩)
      rw [this]
    · have ne : ¬ a.1 = p.1 := fun e => hn.1 (e ▸ List.mem_map.mpr ⟨p, h, rfl⟩)
      rw [if_neg (by show ¬ (decide (a.1 = p.1)) = true; rw [decide_eq_false ne]; exact fun z => nomatch z)]
      exact ih hn.2 h
theorem sc35 : FnScope ["state", "table", "key", "found", "name", "rows"] ["state", "table", "key"] (defScope (top 35)) := ⟨rfl, rfl, rfl, by decide +kernel, rfl, by decide +kernel, by decide +kernel⟩
theorem ok35 (hB : Bns mg) (c_want_key : Cal P w K mg base 3 "want_key" ["value"] 0  (SQ1 keyP fun _ => .non)) (F : FnP K "row_in" (top 35) f fd) : FnOk P w K mg base CX0 4 f fd ["state", "table", "key"]  (spF K 0 fun W as φ => ∃ v k t p, as = [.dat v, .dat (.str p.1), .dat (.int k)] ∧ TldP v t ∧ p ∈ t ∧ 1 ≤ k ∧ k ≤ 999999 ∧ φ (optD (inRows p.2 k))) := by
  refine fn_ok F sc35 (fun W as φ h => by obtain ⟨v, k, t, p, rfl, _⟩ := h; rfl) (by decide) fun cdv A outer s H E W as φ n hr hS hn => ?_
  obtain ⟨v, k, t, p, rfl, ⟨rfl, cs, ws, wt⟩, hp, h1, h2, hφ⟩ := hS
  have hk : keyP (.int k) := ⟨k, rfl, h1, h2⟩
  have hl : t.length ≤ 4000 := by have := stt_len wt; have := ws.len; omega
  obtain ⟨i, h3⟩ := List.getElem?_of_mem hp
  obtain ⟨c, h4⟩ := tl_rows wt h3
  have hn1 : (t.map (·.1)).Nodup := by rw [wt.1]; exact ws.nd
  have hf := filter_one hn1 hp
  refine (ss_setLcP (p := (fun q => eqS (.str q.1) (.str p.1))) (own := [("name", 4), ("rows", 5)]) (xs := t) (enc := ePartP) (fun x => [(4, .str x.1), (5, eRowsP x.2)]) (by rfl) sc35.nd (i := 3) (by rfl) (by rfl) (by exact sw_true (by rfl) (by rfl) (by rfl) (by decide +kernel)) (by exact of_decide_eq_true (by rfl)) (blkOk_by (N := ["state", "table", "key", "found", "name", "rows"]) (sc := defScope (top 35)) (by decide +kernel)) (by exact EvI.z (by exact ei_tupI (by exact ev_var (i := 0) rfl (by first | exact Or.inl rfl | exact Or.inr (Or.inl rfl) | exact Or.inr (Or.inr rfl)) rfl)) (by rfl)) (fun x hx => by exact ⟨fun s1 H1 C1 cl1 fp1 => ⟨(by exact Tg.to (by exact tg_tup (by rfl) (by exact tl_cons (by exact tg_name (i := 4) sc35.nd rfl (by first | exact Or.inl rfl | exact Or.inr rfl)) (by exact tl_cons (by exact tg_name (i := 5) sc35.nd rfl (by first | exact Or.inl rfl | exact Or.inr rfl)) (by exact tl_nil)))) (by rfl)), (by exact EvT.to (by exact EvT.z (by exact et_eq (by exact ev_var (i := 4) rfl (by first | exact Or.inl rfl | exact Or.inr (Or.inl rfl) | exact Or.inr (Or.inr rfl)) rfl) (by exact ev_var (i := 1) rfl (by first | exact Or.inl rfl | exact Or.inr (Or.inl rfl) | exact Or.inr (Or.inr rfl)) rfl) (by first | rfl | assumption | trivial | omega)) (by rfl)) (by rfl)), fun hp => (by exact Ev.to (by exact Ev.z (by exact ev_var (i := 5) rfl (by first | exact Or.inl rfl | exact Or.inr (Or.inl rfl) | exact Or.inr (Or.inr rfl)) rfl) (by rfl)) (by rfl))⟩, by simp⟩) (by first | rfl | assumption | trivial | omega) (by omega) ?_)
  rw [hf]
  refine ss_ifF (z := _) (by exact et_eq (by exact ev_len (by rfl) (by exact hB _ (by decide +kernel)) (by exact ev_var (i := 3) rfl (by first | exact Or.inl rfl | exact Or.inr (Or.inl rfl) | exact Or.inr (Or.inr rfl)) rfl) (by first | rfl | assumption | trivial | omega) (by first | rfl | assumption | trivial | omega)) (by exact ev_int) (by first | rfl | assumption | trivial | omega)) (by rfl) (by omega) ?_
  refine ss_expr (by exact ev_c1 (by exact c_want_key) (by exact hr.mono (by first | decide | omega)) (by rfl) (by exact es_consI (by exact ev_var (i := 2) rfl (by first | exact Or.inl rfl | exact Or.inr (Or.inl rfl) | exact Or.inr (Or.inr rfl)) rfl) (by exact es_nil)) (by first | rfl | assumption | trivial | omega) (by rfl)) (by omega) ?_
  refine ss_retE (by exact ev_get1 (k := (.inl k)) (by exact hu_of hr) (by exact ev_dictT (kds := kRows p.2) (by rfl) (by rfl) (by exact hB _ (by decide +kernel)) (by exact Ev.to (by exact (by first | exact ev_ixTI (by exact ev_var (i := 3) rfl (by first | exact Or.inl rfl | exact Or.inr (Or.inl rfl) | exact Or.inr (Or.inr rfl)) rfl) (by exact ev_int) (by first | rfl | assumption | trivial | omega) | exact ev_ixLI (by exact ev_var (i := 3) rfl (by first | exact Or.inl rfl | exact Or.inr (Or.inl rfl) | exact Or.inr (Or.inr rfl)) rfl) (by exact ev_int) (by first | rfl | assumption | trivial | omega))) (by exact prs_rows _))) (by exact ev_var (i := 2) rfl (by first | exact Or.inl rfl | exact Or.inr (Or.inl rfl) | exact Or.inr (Or.inr rfl)) rfl)) (by omega) ?_ ⟨hφ, by omega⟩
  rw [dict_rows h4, get_rows]
end
end K5
namespace K5
open PySem PySem.Spec PyProof.Rows L2 Qq
section
variable {P : Program} {w : World} {K : PySem.W.Frag} {mg : Str → Option Value} {base : Heap} {f ct Pt : Addr} {fd : FuncData}
def lamQ : Str := Str.ofString "sorted_rows" ++ ".<locals>." ++ "<lambda>"
def dKI (rs : List (Int × D)) : D := .dct (rs.map fun r => (Sum.inl r.1, r.2))
def tRI (rs : List (Int × D)) : D := .tup (rs.map fun r => .tup [.int r.1, r.2])
abbrev SSrt (Pt : Addr) := SP (fun W (_ : List (Int × D)) => TabW W Pt lamQ) (fun rs => [dKI rs]) fun rs => tRI (sortR rs)
theorem sc40 : FnScope ["rows"] ["rows"] (defScope (top 40)) := ⟨rfl, rfl, rfl, by decide +kernel, rfl, by decide +kernel, by decide +kernel⟩
theorem ok40 (hB : Bns mg) (hct : fd.code = .ref ct) (TB : LamX.TabB base mg ct Pt) (F : FnP K "sorted_rows" (top 40) f fd) : FnOk P w K mg base CX0 3 f fd ["rows"]  (spF K 0 (SSrt Pt)) := by
  refine fn_okC F hct sc40 (fun W as φ h => by obtain ⟨rs, rfl, _⟩ := h; rfl) (by decide) fun A outer s H E W as φ n hr hS hn => ?_
  obtain ⟨rs, rfl, tw, hφ⟩ := hS
  refine ss_retE (by exact ev_tupleI (by rfl) (by exact hB _ (by decide +kernel)) (by exact ev_sortedKL (k := 0) (ct := ct) (Pt := Pt) (q := lamQ) (by assumption) (by exact ⟨by assumption, by rfl, by rfl, by rfl, by decide +kernel, by decide +kernel, by rfl, by rfl, by rfl, by rfl, ⟨_, _, _, _, rfl⟩, fun _ _ _ _ _ => rfl⟩) (by exact hr.mono (by first | decide | omega)) (by rfl) (by rfl) (by exact hB _ (by decide +kernel)) (by exact ev_var (i := 0) rfl (by first | exact Or.inl rfl | exact Or.inr (Or.inl rfl) | exact Or.inr (Or.inr rfl)) rfl))) (by omega) ?_ ⟨hφ, by omega⟩
  rfl
/-- rows without a key -/
def dropR (rs : List (Int × D)) (key : Int) : List (Int × D) := rs.filter fun r => !eqS (.int r.1) (.int key)
def withR (rs : List (Int × D)) (key : Int) : D → List (Int × D)
  | .non => sortR (dropR rs key)
  | d => sortR (dropR rs key ++ [(key, d)])
def rowsP' (rs : List (Int × D)) : Prop := (rs.map (·.1)).Nodup ∧ rs.length ≤ 4000
abbrev SWith (Pt : Addr) := SP (fun W (x : List (Int × D) × Int × D) => TabW W Pt lamQ ∧ rowsP' x.1) (fun x => [tRI x.1, .int x.2.1, x.2.2]) fun x => tRI (withR x.1 x.2.1 x.2.2)
theorem nd_inl {rs : List (Int × D)} (h : (rs.map (·.1)).Nodup) : ((rs.map fun r => ((Sum.inl r.1 : Key), r.2)).map (·.1)).Nodup := by
  rw [List.map_map]
  exact List.nodup_iff_pairwise_ne.mpr (List.pairwise_map.mpr ((List.pairwise_map.mp (List.nodup_iff_pairwise_ne.mp h)).imp fun {a b} q e => q (Sum.inl.inj e)))
theorem dropR_nd {rs : List (Int × D)} {key : Int} (h : (rs.map (·.1)).Nodup) : ((dropR rs key).map (·.1)).Nodup := List.Sublist.nodup (List.Sublist.map _ List.filter_sublist) h
theorem merge_drop {rs : List (Int × D)} {key : Int} (h : (rs.map (·.1)).Nodup) : mergeD [] ((dropR rs key).map fun r => ((Sum.inl r.1 : Key), r.2)) = (dropR rs key).map fun r => (Sum.inl r.1, r.2) := merge_nodup _ [] (nd_inl (dropR_nd h))
theorem put_drop {rs : List (Int × D)} {key : Int} {d : D} : putD ((dropR rs key).map fun r => ((Sum.inl r.1 : Key), r.2)) (Sum.inl key) d = (dropR rs key ++ [(key, d)]).map fun r => (Sum.inl r.1, r.2) := by
  rw [putD_new, List.map_append]
  · rfl
  · intro h
    rw [List.map_map] at h
    obtain ⟨r, hr, e⟩ := List.mem_map.mp h
    have e' : r.1 = key := Sum.inl.inj e
    have h2 := (List.mem_filter.mp hr).2
    rw [e'] at h2
    simp [eqS] at h2
theorem sc39 : FnScope ["rows", "key", "values", "new", "place", "old"] ["rows", "key", "values"] (defScope (top 39)) := ⟨rfl, rfl, rfl, by decide +kernel, rfl, by decide +kernel, by decide +kernel⟩
theorem ok39 (hB : Bns mg) (c_sorted_rows : Cal P w K mg base 3 "sorted_rows" ["rows"] 0  (SSrt Pt)) (F : FnP K "rows_with" (top 39) f fd) : FnOk P w K mg base CX0 4 f fd ["rows", "key", "values"]  (spF K 0 (SWith Pt)) := by
  refine fn_ok F sc39 (fun W as φ h => by obtain ⟨x, rfl, _⟩ := h; rfl) (by decide) fun cdv A outer s H E W as φ n hr hS hn => ?_
  obtain ⟨⟨rs, key, d⟩, rfl, ⟨tw, hnd, hlt⟩, hφ⟩ := hS
  have hl : rs.length ≤ 4000 := hlt
  have hln : n ≤ LIM := by omega
  refine (ss_setDcP (own := [("place", 4), ("old", 5)]) (xs := rs) (enc := fun r => .tup [.int r.1, r.2]) (kf := fun r => Sum.inl r.1) (F := fun r => r.2) (p := (fun r => !eqS (.int r.1) (.int key))) (fun x => [(4, .int x.1), (5, x.2)]) (by rfl) sc39.nd (i := 3) (by rfl) (by rfl) (by exact swd_true (by rfl) (by rfl) (by rfl) (by decide +kernel)) (by exact of_decide_eq_true (by rfl)) (blkOk_by (N := ["rows", "key", "values", "new", "place", "old"]) (sc := defScope (top 39)) (by decide +kernel)) (by exact EvI.z (by exact ei_tupI (by exact ev_var (i := 0) rfl (by first | exact Or.inl rfl | exact Or.inr (Or.inl rfl) | exact Or.inr (Or.inr rfl)) rfl)) (by rfl)) (fun x hx => by exact ⟨fun s1 H1 C1 cl1 fp1 => ⟨(by exact Tg.to (by exact tg_tup (by rfl) (by exact tl_cons (by exact tg_name (i := 4) sc39.nd rfl (by first | exact Or.inl rfl | exact Or.inr rfl)) (by exact tl_cons (by exact tg_name (i := 5) sc39.nd rfl (by first | exact Or.inl rfl | exact Or.inr rfl)) (by exact tl_nil)))) (by rfl)), (by exact EvT.to (by exact EvT.z (by exact et_ne (by exact ev_var (i := 4) rfl (by first | exact Or.inl rfl | exact Or.inr (Or.inl rfl) | exact Or.inr (Or.inr rfl)) rfl) (by exact ev_var (i := 1) rfl (by first | exact Or.inl rfl | exact Or.inr (Or.inl rfl) | exact Or.inr (Or.inr rfl)) rfl) (by first | rfl | assumption | trivial | omega)) (by rfl)) (by rfl)), fun hp => ⟨(by exact Ev.to (by exact Ev.z (by exact ev_var (i := 4) rfl (by first | exact Or.inl rfl | exact Or.inr (Or.inl rfl) | exact Or.inr (Or.inr rfl)) rfl) (by rfl)) (by rfl)), (by exact Ev.to (by exact Ev.z (by exact ev_var (i := 5) rfl (by first | exact Or.inl rfl | exact Or.inr (Or.inl rfl) | exact Or.inr (Or.inr rfl)) rfl) (by rfl)) (by rfl))⟩⟩, by simp⟩) (by first | rfl | assumption | trivial | omega) (by omega) ?_)
  rw [show mergeD [] ((rs.filter fun r => !eqS (.int r.1) (.int key)).map fun d => ((Sum.inl d.1 : Key), d.2)) = (dropR rs key).map fun r => (Sum.inl r.1, r.2) from merge_drop hnd]
  have hdl : ((dropR rs key).map fun r => ((Sum.inl r.1 : Key), r.2)).length < 5000 := by
    rw [List.length_map]; exact Nat.lt_of_le_of_lt (List.length_filter_le _ _) (by omega)
  cases hd : isNonD d with
  | true =>
    refine ss_ifF (z := _) (by exact et_notN (by exact ev_var (i := 2) rfl (by first | exact Or.inl rfl | exact Or.inr (Or.inl rfl) | exact Or.inr (Or.inr rfl)) rfl)) (by rw [hd]; rfl) (by omega) ?_
    refine ss_frzD (i := 3) rfl ?_
    refine ss_retE (by exact ev_cp (dropR rs key) (by exact c_sorted_rows) (by exact hr.mono (by first | decide | omega)) (by rfl) (by exact es_consI (by exact ev_var (i := 3) rfl (by first | exact Or.inl rfl | exact Or.inr (Or.inl rfl) | exact Or.inr (Or.inr rfl)) rfl) (by exact es_nil)) (by rfl) (by exact tw) (by rfl)) (by omega) ?_ ⟨hφ, by omega⟩
    cases d <;> first | rfl | cases hd
  | false =>
    refine ss_ifT (z := _) (by exact et_notN (by exact ev_var (i := 2) rfl (by first | exact Or.inl rfl | exact Or.inr (Or.inl rfl) | exact Or.inr (Or.inr rfl)) rfl)) (by rw [hd]; rfl) (by omega) ?_
    refine ss_one (sm_dset (i := 3) (k := Sum.inl key) (hu_of hr) rfl (by first | exact Or.inl rfl | exact Or.inr (Or.inl rfl) | exact Or.inr (Or.inr rfl)) rfl (by exact ev_var (i := 2) rfl (by first | exact Or.inl rfl | exact Or.inr (Or.inl rfl) | exact Or.inr (Or.inr rfl)) rfl) (by exact ev_var (i := 1) rfl (by first | exact Or.inl rfl | exact Or.inr (Or.inl rfl) | exact Or.inr (Or.inr rfl)) rfl) hdl (by omega) ?_)
    rw [put_drop]
    refine ss_frzD (i := 3) rfl ?_
    refine ss_retE (by exact ev_cp (dropR rs key ++ [(key, d)]) (by exact c_sorted_rows) (by exact hr.mono (by first | decide | omega)) (by rfl) (by exact es_consI (by exact ev_var (i := 3) rfl (by first | exact Or.inl rfl | exact Or.inr (Or.inl rfl) | exact Or.inr (Or.inr rfl)) rfl) (by exact es_nil)) (by rfl) (by exact tw) (by rfl)) (by omega) ?_ ⟨hφ, by omega⟩
    cases d <;> first | rfl | cases hd
/-! rows of a state -/
def conv (rs : Rws) : List (Int × D) := rs.map fun r => (r.1, .tup r.2)
theorem tRI_conv (rs : Rws) : tRI (conv rs) = eRows rs := by
  unfold tRI conv eRows
  rw [List.map_map]; rfl
def sortRows (rs : Rws) : Rws := rs.mergeSort fun a b => decide (a.1 ≤ b.1)
theorem sort_conv (rs : Rws) : sortR (conv rs) = conv (sortRows rs) := by
  unfold sortR conv sortRows
  exact (List.map_mergeSort (f := fun r : Row => (r.1, D.tup r.2)) (r := fun a b => decide (a.1 ≤ b.1)) (s := fun a b => decide (a.1 ≤ b.1)) (l := rs) fun _ _ _ _ => rfl).symm
def dropRows (rs : Rws) (key : Int) : Rws := rs.filter fun r => !eqS (.int r.1) (.int key)
theorem drop_conv (rs : Rws) (key : Int) : dropR (conv rs) key = conv (dropRows rs key) := by
  unfold dropR conv dropRows
  rw [List.filter_map]; rfl
/-- rows with just this under the key -/
def withRows (rs : Rws) (key : Int) : Option (List D) → Rws
  | none => sortRows (dropRows rs key)
  | some vs => sortRows (dropRows rs key ++ [(key, vs)])
theorem with_conv (rs : Rws) (key : Int) (o : Option (List D)) : withR (conv rs) key (optD o) = conv (withRows rs key o) := by
  cases o with
  | none => show sortR (dropR (conv rs) key) = _; rw [drop_conv, sort_conv]; rfl
  | some vs =>
    show sortR (dropR (conv rs) key ++ [(key, .tup vs)]) = _
    rw [drop_conv]
    show sortR (conv (dropRows rs key) ++ conv [(key, vs)]) = _
    rw [show conv (dropRows rs key) ++ conv [(key, vs)] = conv (dropRows rs key ++ [(key, vs)]) from (List.map_append ..).symm, sort_conv]; rfl
theorem rows_conv {cs : Cols} {rs : Rws} (h : WRows cs rs) : rowsP' (conv rs) := by
  refine ⟨?_, by unfold conv; rw [List.length_map]; exact h.len⟩
  unfold conv
  rw [List.map_map]
  have p := asc_lt h.asc
  exact List.nodup_iff_pairwise_ne.mpr (p.imp fun {a b} q e => by omega)
abbrev SWK (Pt : Addr) := SP (fun W (x : Sch × Stt × Int × KRs) => TabW W Pt lamQ ∧ WSch x.1 ∧ WStt x.1 x.2.1 ∧ (1 ≤ x.2.2.1 ∧ x.2.2.1 ≤ 999999) ∧ WKRs x.1 x.2.2.2) (fun x => [eSch x.1, eStt x.2.1, .int x.2.2.1, eKRs x.2.2.2]) fun x => eStt ((x.2.1.zip x.2.2.2).map fun p => (p.1.1, withRows p.1.2 x.2.2.1 p.2.2))
theorem sc37 : FnScope ["schema", "state", "key", "rows", "table", "old", "_", "values"] ["schema", "state", "key", "rows"] (defScope (top 37)) := ⟨rfl, rfl, rfl, by decide +kernel, rfl, by decide +kernel, by decide +kernel⟩
theorem ok37 (hB : Bns mg) (c_want_state : Cal P w K mg base 7 "want_state" ["schema", "value"] 0  (SQ2 sttP fun _ _ => .non)) (c_want_key : Cal P w K mg base 3 "want_key" ["value"] 0  (SQ1 keyP fun _ => .non)) (c_is_key_rows : Cal P w K mg base 4 "is_key_rows" ["schema", "value"] 0  (SQ2 krsP fun _ _ => .bl true)) (c_rows_with : Cal P w K mg base 4 "rows_with" ["rows", "key", "values"] 0  (SWith Pt)) (F : FnP K "with_key_rows" (top 37) f fd) : FnOk P w K mg base CX0 8 f fd ["schema", "state", "key", "rows"]  (spF K 0 (SWK Pt)) := by
  refine fn_ok F sc37 (fun W as φ h => by obtain ⟨x, rfl, _⟩ := h; rfl) (by decide) fun cdv A outer s H E W as φ n hr hS hn => ?_
  obtain ⟨⟨cs, t, key, kr⟩, rfl, ⟨tw, ws, wt, hk12, wk⟩, hφ⟩ := hS
  have hst : sttP (eSch cs) (eStt t) := ⟨cs, t, rfl, rfl, ws, wt⟩
  have hkr : krsP (eSch cs) (eKRs kr) := ⟨cs, kr, rfl, rfl, ws, wk⟩
  have hk : keyP (.int key) := ⟨key, rfl, hk12.1, hk12.2⟩
  have l1 := stt_len wt
  have l6 := ws.len
  have hlz : (t.zip kr).length ≤ 4000 := by rw [List.length_zip]; exact Nat.le_trans (Nat.min_le_left _ _) (by rw [l1]; exact Nat.le_trans l6 (by decide))
  refine ss_expr (by exact ev_c2 (by exact c_want_state) (by exact hr.mono (by first | decide | omega)) (by rfl) (by exact es_consI (by exact ev_var (i := 0) rfl (by first | exact Or.inl rfl | exact Or.inr (Or.inl rfl) | exact Or.inr (Or.inr rfl)) rfl) (by exact es_consI (by exact ev_var (i := 1) rfl (by first | exact Or.inl rfl | exact Or.inr (Or.inl rfl) | exact Or.inr (Or.inr rfl)) rfl) (by exact es_nil))) (by first | rfl | assumption | trivial | omega) (by rfl)) (by omega) ?_
  refine ss_expr (by exact ev_c1 (by exact c_want_key) (by exact hr.mono (by first | decide | omega)) (by rfl) (by exact es_consI (by exact ev_var (i := 2) rfl (by first | exact Or.inl rfl | exact Or.inr (Or.inl rfl) | exact Or.inr (Or.inr rfl)) rfl) (by exact es_nil)) (by first | rfl | assumption | trivial | omega) (by rfl)) (by omega) ?_
  refine ss_ifF (z := _) (by exact et_not (by exact et_v (by exact ev_c2 (by exact c_is_key_rows) (by exact hr.mono (by first | decide | omega)) (by rfl) (by exact es_consI (by exact ev_var (i := 0) rfl (by first | exact Or.inl rfl | exact Or.inr (Or.inl rfl) | exact Or.inr (Or.inr rfl)) rfl) (by exact es_consI (by exact ev_var (i := 3) rfl (by first | exact Or.inl rfl | exact Or.inr (Or.inl rfl) | exact Or.inr (Or.inr rfl)) rfl) (by exact es_nil))) (by first | rfl | assumption | trivial | omega) (by rfl)))) (by rfl) (by omega) ?_
  refine ss_retE (by exact ev_tupleI (by rfl) (by exact hB _ (by decide +kernel)) (by exact ev_lcF (own := [("table", 4), ("old", 5), ("_", 6), ("values", 7)]) (xs := t.zip kr) (enc := fun p => .tup [ePart p.1, eKR p.2]) (fun x => [(4, .str x.1.1), (5, eRows x.1.2), (6, .str x.2.1), (7, optD x.2.2)]) (by rfl) sc37.nd (blkOk_by (N := ["schema", "state", "key", "rows", "table", "old", "_", "values"]) (sc := defScope (top 37)) (by decide +kernel)) (by exact EvI.to (by exact EvI.z (by exact ei_zipI (by rfl) (by exact hB _ (by decide +kernel)) (by exact es_consI (by exact ev_var (i := 1) rfl (by first | exact Or.inl rfl | exact Or.inr (Or.inl rfl) | exact Or.inr (Or.inr rfl)) rfl) (by exact es_consI (by exact ev_var (i := 3) rfl (by first | exact Or.inl rfl | exact Or.inr (Or.inl rfl) | exact Or.inr (Or.inr rfl)) rfl) (by exact es_nil))) (by first | exact Or.inl rfl | exact Or.inr rfl)) (by rfl)) (zip_gen ePart eKR t kr)) (fun x hx => by obtain ⟨i, h5, h6⟩ := zip_mem hx; obtain ⟨c, h4⟩ := tl_rows wt h5; exact ⟨fun s1 H1 C1 cl1 fp1 => ⟨(by exact Tg.to (by exact tg_tup (by rfl) (by exact tl_cons (by exact tg_tup (by rfl) (by exact tl_cons (by exact tg_name (i := 4) sc37.nd rfl (by first | exact Or.inl rfl | exact Or.inr rfl)) (by exact tl_cons (by exact tg_name (i := 5) sc37.nd rfl (by first | exact Or.inl rfl | exact Or.inr rfl)) (by exact tl_nil)))) (by exact tl_cons (by exact tg_tup (by rfl) (by exact tl_cons (by exact tg_name (i := 6) sc37.nd rfl (by first | exact Or.inl rfl | exact Or.inr rfl)) (by exact tl_cons (by exact tg_name (i := 7) sc37.nd rfl (by first | exact Or.inl rfl | exact Or.inr rfl)) (by exact tl_nil)))) (by exact tl_nil)))) (by rfl)), (by exact Ev.to (by exact Ev.z (by exact ev_tupJ (by exact es_consI (by exact ev_var (i := 4) rfl (by first | exact Or.inl rfl | exact Or.inr (Or.inl rfl) | exact Or.inr (Or.inr rfl)) rfl) (by exact es_consI (by exact ev_cp (conv x.1.2, key, optD x.2.2) (by exact c_rows_with) (by exact hr.mono (by first | decide | omega)) (by rfl) (by exact es_consI (by exact ev_var (i := 5) rfl (by first | exact Or.inl rfl | exact Or.inr (Or.inl rfl) | exact Or.inr (Or.inr rfl)) rfl) (by exact es_consI (by exact ev_var (i := 2) rfl (by first | exact Or.inl rfl | exact Or.inr (Or.inl rfl) | exact Or.inr (Or.inr rfl)) rfl) (by exact es_consI (by exact ev_var (i := 7) rfl (by first | exact Or.inl rfl | exact Or.inr (Or.inl rfl) | exact Or.inr (Or.inr rfl)) rfl) (by exact es_nil)))) (by show [_, _, _] = [_, _, _]; rw [tRI_conv]) (by exact ⟨tw, rows_conv h4⟩) (by show tRI (withR _ _ _) = _; rw [with_conv, tRI_conv])) (by exact es_nil))) (by rfl) (by rfl)) (by rfl)) (by rfl))⟩, by simp⟩) (by first | rfl | assumption | trivial | omega))) (by omega) ?_ ⟨hφ, by omega⟩
  show D.tup (List.map _ (t.zip kr)) = D.tup (((t.zip kr).map fun p => (p.1.1, withRows p.1.2 key p.2.2)).map ePart)
  rw [List.map_map]; rfl
end
end K5
namespace K5
open PySem PySem.Spec PyProof.Rows L2 Qq
section
variable {P : Program} {w : World} {K : PySem.W.Frag} {mg : Str → Option Value} {base : Heap} {f ct Pt : Addr} {fd : FuncData}
theorem primes_rg : ∀ d ∈ [D.int 2147483647, .int 2147483629, .int 2147483587, .int 2147483579, .int 2147483563], Rg 2147483563 2147483647 d := fun d h => by
  simp only [List.mem_cons, List.not_mem_nil, or_false] at h
  rcases h with rfl | rfl | rfl | rfl | rfl <;> exact ⟨_, rfl, by decide, by decide⟩
/-- a draw -/
abbrev STake : Wd → List Sl → (D → Prop) → Prop := fun W as φ => ∃ (a : Addr) (u : Int), as = [.at_ a, .dat (.int u)] ∧ PotW W a ∧ 0 < u ∧ u ≤ 1000000 ∧ ∀ v, 0 ≤ v → v < u → φ (.int v)
theorem sc43 : FnScope ["pot", "upto", "digit", "prime", "blend"] ["pot", "upto"] (defScope (top 43)) := ⟨rfl, rfl, rfl, by decide +kernel, rfl, by decide +kernel, by decide +kernel⟩
theorem ok43 (hB : Bns mg) (F : FnP K "_law_take" (top 43) f fd) : FnOk P w K mg base CX0 1 f fd ["pot", "upto"]  (spF K 1 STake) := by
  refine fn_ok F sc43 (fun W as φ h => by obtain ⟨a, u, rfl, _⟩ := h; rfl) (by decide) fun cdv A outer s H E W as φ n hr hS hn => ?_
  obtain ⟨ad, u, rfl, hpw, hu0, hu1, hφ⟩ := hS
  have hle : u ≤ u := Int.le_refl u
  have hz : decide (0 < u) = true := decide_eq_true hu0
  have hz2 : decide (u < 1073741824) = true := decide_eq_true (by omega)
  refine ss_cons (sm_if (ψ := fun _ => True) (by exact et_gt0 (by exact ev_pot0 (i := 0) hpw rfl (by first | exact Or.inl rfl | exact Or.inr (Or.inl rfl) | exact Or.inr (Or.inr rfl)) rfl) (by exact ev_rint) Nn.isI Rg.isI) (by omega) (fun _ => ?_) (fun _ => ?_))
  · refine ss_cons (sm_set sc43.nd (i := 2) rfl (by first | exact Or.inl rfl | exact Or.inr rfl) (by exact ev_rmod (by exact ev_rInt (by rfl) (by exact hB _ (by decide +kernel)) (by exact ev_pot0 (i := 0) hpw rfl (by first | exact Or.inl rfl | exact Or.inr (Or.inl rfl) | exact Or.inr (Or.inr rfl)) rfl) Nn.isI) (by exact ev_rv (by exact ev_var (i := 1) rfl (by first | exact Or.inl rfl | exact Or.inr (Or.inl rfl) | exact Or.inr (Or.inr rfl)) rfl) (by exact hle) (by exact hle)) hz) (by omega) (fun d hd => ?_))
    obtain ⟨v, rfl, v0, v1⟩ := hd
    refine ss_cons (sm_pot0 (i := 0) hpw rfl (by first | exact Or.inl rfl | exact Or.inr (Or.inl rfl) | exact Or.inr (Or.inr rfl)) rfl (by exact ev_rfdiv (by exact ev_pot0 (i := 0) hpw rfl (by first | exact Or.inl rfl | exact Or.inr (Or.inl rfl) | exact Or.inr (Or.inr rfl)) rfl) (by exact ev_rv (by exact ev_var (i := 1) rfl (by first | exact Or.inl rfl | exact Or.inr (Or.inl rfl) | exact Or.inr (Or.inr rfl)) rfl) (by exact hle) (by exact hle)) hz hz2) (by omega) ?_)
    refine ss_one (sm_ret (by exact ev_var (i := 2) rfl (by first | exact Or.inl rfl | exact Or.inr (Or.inl rfl) | exact Or.inr (Or.inr rfl)) rfl) (by omega) fun d hd => ?_)
    obtain rfl : d = .int v := hd
    exact ⟨hφ v v0 (by omega), by omega⟩
  · refine ss_nil ?_
    refine ss_cons (sm_pot2 (i := 0) hpw rfl (by first | exact Or.inl rfl | exact Or.inr (Or.inl rfl) | exact Or.inr (Or.inr rfl)) rfl (by omega) ?_)
    refine ss_cons (sm_set sc43.nd (i := 3) rfl (by first | exact Or.inl rfl | exact Or.inr rfl) (by exact ev_rix (φ := (Rg 2147483563 2147483647)) (by exact ev_lstJ (by exact es_consI (by exact ev_int) (by exact es_consI (by exact ev_int) (by exact es_consI (by exact ev_int) (by exact es_consI (by exact ev_int) (by exact es_consI (by exact ev_int) (by exact es_nil)))))) (by rfl) (by rfl)) (by exact ev_rmod (by exact Ev.nn (by exact ev_rInt (by rfl) (by exact hB _ (by decide +kernel)) (by exact ev_pot2 (i := 0) hpw rfl (by first | exact Or.inl rfl | exact Or.inr (Or.inl rfl) | exact Or.inr (Or.inr rfl)) rfl) Rg.isI) (by rfl)) (by exact ev_rint) (by rfl)) (by first | rfl | omega) (by exact primes_rg)) (by omega) (fun d hd => ?_))
    obtain ⟨pr, rfl, p0, p1⟩ := hd
    have hpz : decide (0 < (2147483563 : Int)) = true := rfl
    refine ss_cons (sm_set sc43.nd (i := 4) rfl (by first | exact Or.inl rfl | exact Or.inr rfl) (by exact ev_rmod (by exact ev_rInt (by rfl) (by exact hB _ (by decide +kernel)) (by exact ev_rcube (by exact ev_rInt (by rfl) (by exact hB _ (by decide +kernel)) (by exact ev_radd (by exact ev_radd (by exact ev_pot1 (i := 0) hpw rfl (by first | exact Or.inl rfl | exact Or.inr (Or.inl rfl) | exact Or.inr (Or.inr rfl)) rfl) (by exact ev_rmul (by exact ev_rmul (by exact ev_rint) (by exact ev_pot2 (i := 0) hpw rfl (by first | exact Or.inl rfl | exact Or.inr (Or.inl rfl) | exact Or.inr (Or.inr rfl)) rfl) (by rfl) (by rfl) (by rfl)) (by exact ev_pot2 (i := 0) hpw rfl (by first | exact Or.inl rfl | exact Or.inr (Or.inl rfl) | exact Or.inr (Or.inr rfl)) rfl) (by rfl) (by rfl) (by rfl))) (by exact ev_rint)) Rg.isI) (by rfl) (by rfl)) Nn.isI) (by exact ev_rv (by exact ev_var (i := 3) rfl (by first | exact Or.inl rfl | exact Or.inr (Or.inl rfl) | exact Or.inr (Or.inr rfl)) rfl) (by exact p0) (by exact p1)) (by rfl)) (by omega) (fun d hd => ?_))
    obtain ⟨bl, rfl, b0, b1⟩ := hd
    have b1' : bl ≤ 2147483646 := b1
    refine ss_cons (sm_set sc43.nd (i := 4) rfl (by first | exact Or.inl rfl | exact Or.inr rfl) (by exact ev_rmod (by exact Ev.nn (by exact ev_rInt (by rfl) (by exact hB _ (by decide +kernel)) (by exact ev_rmul (by exact ev_rv (by exact ev_var (i := 4) rfl (by first | exact Or.inl rfl | exact Or.inr (Or.inl rfl) | exact Or.inr (Or.inr rfl)) rfl) (by exact b0) (by exact b1')) (by exact ev_radd (by exact ev_rmod (by exact Ev.nn (by exact ev_rInt (by rfl) (by exact hB _ (by decide +kernel)) (by exact ev_rv (by exact ev_var (i := 4) rfl (by first | exact Or.inl rfl | exact Or.inr (Or.inl rfl) | exact Or.inr (Or.inr rfl)) rfl) (by exact b0) (by exact b1')) Rg.isI) (by rfl)) (by exact ev_rint) (by rfl)) (by exact ev_rmul (by exact ev_rint) (by exact ev_pot2 (i := 0) hpw rfl (by first | exact Or.inl rfl | exact Or.inr (Or.inl rfl) | exact Or.inr (Or.inr rfl)) rfl) (by rfl) (by rfl) (by rfl))) (by rfl) (by rfl) (by rfl)) Rg.isI) (by rfl)) (by exact ev_rint) (by rfl)) (by omega) (fun d hd => ?_))
    obtain ⟨bl2, rfl, c0, c1⟩ := hd
    have c1' : bl2 ≤ 2305843009213693950 := by omega
    refine ss_one (sm_ret (by exact ev_rmod (by exact ev_rInt (by rfl) (by exact hB _ (by decide +kernel)) (by exact ev_rfdiv (by exact Ev.nn (by exact ev_rv (by exact ev_var (i := 4) rfl (by first | exact Or.inl rfl | exact Or.inr (Or.inl rfl) | exact Or.inr (Or.inr rfl)) rfl) (by exact c0) (by exact c1')) (by rfl)) (by exact ev_rint) (by rfl) (by rfl)) Nn.isI) (by exact ev_rv (by exact ev_var (i := 1) rfl (by first | exact Or.inl rfl | exact Or.inr (Or.inl rfl) | exact Or.inr (Or.inr rfl)) rfl) (by exact hle) (by exact hle)) hz) (by omega) fun d hd => ?_)
    obtain ⟨v, rfl, v0, v1⟩ := hd
    exact ⟨hφ v v0 (by omega), by omega⟩
theorem ev_take {W : Wd} {X : Cx} {Γ : List Sl} {c i : Nat} {e : Expr} {p pos np : Pos} {ad : Addr} {u : Int} (hB : Bns mg) (C : Cal X.prog X.w X.K X.mg X.base 1 "_law_take" ["pot", "upto"] 1 STake) (hr : Room 1 X.A) (hg : Gl X "_law_take") (pw : PotW W ad) (hN : X.N[i]? = some "pot") (hv : Vis X.env.scope "pot") (hΓ : Γ[i]? = some (.at_ ad)) (he : Ev W X e Γ c (Is (.int u))) (h0 : 0 < u) (h1 : u ≤ 1000000)
    (hs2 : starEach [e] X.env = (false, eval e X.env) :: starEach [] X.env := by rfl) (hs : starEach [.Name "pot" np, e] X.env = (false, eval (.Name "pot" np) X.env) :: starEach [e] X.env := by rfl) (hpl : (backTo pos (starEach [e] X.env)).any (·.1) = false := by rfl) : Ev W X (.Call (.Name "_law_take" p) [.Name "pot" np, e] [] pos) Γ (c + 0 + 1) (Rg 0 (u - 1)) :=
  ev_pcall C hr hg hN hv hΓ (es_consI he es_nil hs2) ⟨ad, u, rfl, pw, h0, h1, fun v a b => ⟨v, rfl, a, by omega⟩⟩ hs (by decide) (by decide) (by decide) hpl
/-- one of some -/
abbrev SOf : Wd → List Sl → (D → Prop) → Prop := fun W as φ => ∃ (a : Addr) (ds : List D), as = [.at_ a, .dat (.lst ds)] ∧ PotW W a ∧ 0 < ds.length ∧ ds.length ≤ 1000000 ∧ ∀ d ∈ ds, φ d
theorem sc44 : FnScope ["pot", "some"] ["pot", "some"] (defScope (top 44)) := ⟨rfl, rfl, rfl, by decide +kernel, rfl, by decide +kernel, by decide +kernel⟩
theorem ok44 (hB : Bns mg) (c__law_take : Cal P w K mg base 1 "_law_take" ["pot", "upto"] 1 STake) (F : FnP K "_law_of" (top 44) f fd) : FnOk P w K mg base CX0 2 f fd ["pot", "some"]  (spF K 1 SOf) := by
  refine fn_ok F sc44 (fun W as φ h => by obtain ⟨a, u, rfl, _⟩ := h; rfl) (by decide) fun cdv A outer s H E W as φ n hr hS hn => ?_
  obtain ⟨ad, ds, rfl, hpw, h0, h1, hφ⟩ := hS
  refine ss_one (sm_ret (by exact ev_rix (φ := φ) (by exact ev_var (i := 1) rfl (by first | exact Or.inl rfl | exact Or.inr (Or.inl rfl) | exact Or.inr (Or.inr rfl)) rfl) (by exact ev_take hB c__law_take (by exact hr.mono (by first | decide | omega)) (by rfl) hpw (i := 0) rfl (by first | exact Or.inl rfl | exact Or.inr (Or.inl rfl) | exact Or.inr (Or.inr rfl)) rfl (by exact ev_len (by rfl) (by exact hB _ (by decide +kernel)) (by exact ev_var (i := 1) rfl (by first | exact Or.inl rfl | exact Or.inr (Or.inl rfl) | exact Or.inr (Or.inr rfl)) rfl) (by first | rfl | assumption | trivial | omega) (by first | rfl | assumption | trivial | omega)) (by omega) (by omega)) (by first | rfl | omega) (by exact hφ)) (by omega) fun d hd => ?_)
  exact ⟨hd, by omega⟩
end
end K5
namespace K5
open PySem PySem.Spec PyProof.Rows L2 Qq
section
variable {P : Program} {w : World} {K : PySem.W.Frag} {mg : Str → Option Value} {base : Heap} {f ct Pt : Addr} {fd : FuncData}
/-- so many unlike ones -/
abbrev SSome : Wd → List Sl → (D → Prop) → Prop := fun W as φ => ∃ (a : Addr) (ds : List D) (m : Nat), as = [.at_ a, .dat (.lst ds), .dat (.int m)] ∧ PotW W a ∧ ds.length ≤ 64 ∧ m ≤ ds.length ∧ ∀ out rest, (out ++ rest).Perm ds → out.length = m → φ (.lst out)
theorem perm_pop {out rs ds : List D} {k : Nat} {d : D} (h : (out ++ rs).Perm ds) (e : rs[k]? = some d) : ((out ++ [d]) ++ rs.eraseIdx k).Perm ds := by
  have h1 : (d :: rs.eraseIdx k).Perm rs := erase_perm rs k d e
  rw [List.append_assoc]
  exact (List.Perm.append_left out h1).trans h
theorem sc45 : FnScope ["pot", "pool", "many", "rests", "found", "lap"] ["pot", "pool", "many"] (defScope (top 45)) := ⟨rfl, rfl, rfl, by decide +kernel, rfl, by decide +kernel, by decide +kernel⟩
theorem ok45 (hB : Bns mg) (c__law_take : Cal P w K mg base 1 "_law_take" ["pot", "upto"] 1 STake) (F : FnP K "_law_some" (top 45) f fd) : FnOk P w K mg base CX0 2 f fd ["pot", "pool", "many"]  (spF K 64 SSome) := by
  refine fn_ok F sc45 (fun W as φ h => by obtain ⟨a, u, m, rfl, _⟩ := h; rfl) (by decide) fun cdv A outer s H E W as φ n hr hS hn => ?_
  obtain ⟨ad, ds, m, rfl, hpw, h64, hm, hφ⟩ := hS
  refine ss_cons (sm_parLN (i := 3) (j := 4) (by rfl) sc45.nd rfl rfl (by decide) (by rfl) (by rfl) (by rfl) (by exact hB _ (by decide +kernel)) (by exact ev_var (i := 1) rfl (by first | exact Or.inl rfl | exact Or.inr (Or.inl rfl) | exact Or.inr (Or.inr rfl)) rfl) (by omega) ?_ (by rfl))
  refine ss_cons (sm_for (xs := List.range m) (enc := fun (i : Nat) => D.int (0 + i)) (by exact PassesOwn.never) (by rfl) (by exact EvI.to (by exact ei_rangeI (by rfl) (by exact hB _ (by decide +kernel)) (by exact ev_var (i := 2) rfl (by first | exact Or.inl rfl | exact Or.inr (Or.inl rfl) | exact Or.inr (Or.inr rfl)) rfl) (by omega) (by omega)) (by rfl)) (by omega)
    (fun k Γ' n' => ∃ acc rs sl, Γ' = [.at_ ad, .dat (.lst ds), .dat (.int m), .ml rs, .ml acc, sl] ∧ n' = n + k ∧ (acc ++ rs).Perm ds ∧ acc.length = k) ⟨[], ds, .un, rfl, rfl, .refl _, rfl⟩ ?_ ?_)
  · rintro k i Γ' n' hk ⟨acc, rs, sl, rfl, rfl, hp, hl⟩
    have hkm : k < m := by have := (List.getElem?_eq_some_iff.mp hk).1; rwa [List.length_range] at this
    have hlen := hp.length_eq
    rw [List.length_append] at hlen
    refine ⟨_, (by exact tg_name (i := 5) sc45.nd rfl (by first | exact Or.inl rfl | exact Or.inr rfl)), ?_⟩
    refine ss_one (sm_appop (i := 4) (j := 3) (hi := (rs.length : Int) - 1) rfl (by first | exact Or.inl rfl | exact Or.inr (Or.inl rfl) | exact Or.inr (Or.inr rfl)) rfl rfl (by first | exact Or.inl rfl | exact Or.inr (Or.inl rfl) | exact Or.inr (Or.inr rfl)) rfl (by decide) (by exact ev_take hB c__law_take (by exact hr.mono (by decide)) (by rfl) hpw (i := 0) rfl (by first | exact Or.inl rfl | exact Or.inr (Or.inl rfl) | exact Or.inr (Or.inr rfl)) rfl (by exact ev_lenM (i := 3) (by rfl) (by exact hB _ (by decide +kernel)) rfl (by first | exact Or.inl rfl | exact Or.inr (Or.inl rfl) | exact Or.inr (Or.inr rfl)) rfl) (by omega) (by omega)) (by omega) (by omega) (by omega) (by omega) fun j d hj => ?_)
    exact ⟨acc ++ [d], rs.eraseIdx j, _, rfl, by omega, perm_pop hp hj, by rw [List.length_append, hl]; rfl⟩
  · rintro Γ' n' ⟨acc, rs, sl, rfl, rfl, hp, hl⟩
    refine ss_frzL (i := 4) rfl ?_
    rw [List.length_range] at hl
    refine ss_retE (by exact ev_var (i := 4) rfl (by first | exact Or.inl rfl | exact Or.inr (Or.inl rfl) | exact Or.inr (Or.inr rfl)) rfl) (by rw [List.length_range]; omega) rfl ⟨hφ acc rs hp hl, by rw [List.length_range]; omega⟩
end
end K5
namespace K5
open PySem PySem.Spec PyProof.Rows L2 Qq
section
variable {P : Program} {w : World} {K : PySem.W.Frag} {mg : Str → Option Value} {base : Heap} {f ct Pt : Addr} {fd : FuncData}
/-! the law's own looks at values -/
abbrev SIsInt := SP (fun _ (x : Int × Int × Int) => x.2.1 ≤ x.1 ∧ x.1 ≤ x.2.2) (fun x => [.int x.1, .int x.2.1, .int x.2.2]) fun _ => .bl true
theorem sc47 : FnScope ["value", "low", "high"] ["value", "low", "high"] (defScope (top 47)) := ⟨rfl, rfl, rfl, by decide +kernel, rfl, by decide +kernel, by decide +kernel⟩
theorem ok47 (hB : Bns mg) (F : FnP K "_law_is_int" (top 47) f fd) : FnOk P w K mg base CX0 1 f fd ["value", "low", "high"]  (spF K 0 SIsInt) := by
  refine fn_ok F sc47 (fun W as φ h => by obtain ⟨x, rfl, _⟩ := h; rfl) (by decide) fun cdv A outer s H E W as φ n hr hS hn => ?_
  obtain ⟨⟨v, lo, hi⟩, rfl, ⟨h1, h2⟩, hφ⟩ := hS
  refine ss_retE (by exact (by first | exact ev_andF' (by exact ev_isInt (by rfl) (by exact hB _ (by decide +kernel)) (by rfl) (by exact hB _ (by decide +kernel)) (by exact ev_var (i := 0) rfl (by first | exact Or.inl rfl | exact Or.inr (Or.inl rfl) | exact Or.inr (Or.inr rfl)) rfl)) (by first | rfl | assumption) | exact ev_and (by exact ev_isInt (by rfl) (by exact hB _ (by decide +kernel)) (by rfl) (by exact hB _ (by decide +kernel)) (by exact ev_var (i := 0) rfl (by first | exact Or.inl rfl | exact Or.inr (Or.inl rfl) | exact Or.inr (Or.inr rfl)) rfl)) (fun hb => by exact (by first | exact ev_andF' (by exact ev_not (by exact ev_isBool (by rfl) (by exact hB _ (by decide +kernel)) (by rfl) (by exact hB _ (by decide +kernel)) (by exact ev_var (i := 0) rfl (by first | exact Or.inl rfl | exact Or.inr (Or.inl rfl) | exact Or.inr (Or.inr rfl)) rfl))) (by first | rfl | assumption) | exact ev_and (by exact ev_not (by exact ev_isBool (by rfl) (by exact hB _ (by decide +kernel)) (by rfl) (by exact hB _ (by decide +kernel)) (by exact ev_var (i := 0) rfl (by first | exact Or.inl rfl | exact Or.inr (Or.inl rfl) | exact Or.inr (Or.inr rfl)) rfl))) (fun hb => by exact ev_one (by exact (by first | exact ev_chII (by exact ev_var (i := 1) rfl (by first | exact Or.inl rfl | exact Or.inr (Or.inl rfl) | exact Or.inr (Or.inr rfl)) rfl) (by exact ev_var (i := 0) rfl (by first | exact Or.inl rfl | exact Or.inr (Or.inl rfl) | exact Or.inr (Or.inr rfl)) rfl) (by exact ev_var (i := 2) rfl (by first | exact Or.inl rfl | exact Or.inr (Or.inl rfl) | exact Or.inr (Or.inr rfl)) rfl) | exact ev_chSS (by exact ev_var (i := 1) rfl (by first | exact Or.inl rfl | exact Or.inr (Or.inl rfl) | exact Or.inr (Or.inr rfl)) rfl) (by exact ev_var (i := 0) rfl (by first | exact Or.inl rfl | exact Or.inr (Or.inl rfl) | exact Or.inr (Or.inr rfl)) rfl) (by exact ev_var (i := 2) rfl (by first | exact Or.inl rfl | exact Or.inr (Or.inl rfl) | exact Or.inr (Or.inr rfl)) rfl)))))))) (by omega) ?_ ⟨hφ, by omega⟩
  show D.bl (true && (true && (decide (lo ≤ v) && decide (v ≤ hi)))) = _
  rw [decide_eq_true h1, decide_eq_true h2]; rfl
abbrev SIsText := SP (fun _ (z : Str) => z.length ≤ 12 ∧ (sgns z).all (signOk "!" "~") = true) (fun z => [.str z]) fun _ => .bl true
theorem sc48 : FnScope ["value", "sign"] ["value"] (defScope (top 48)) := ⟨rfl, rfl, rfl, by decide +kernel, rfl, by decide +kernel, by decide +kernel⟩
theorem ok48 (hB : Bns mg) (F : FnP K "_law_state_is_text" (top 48) f fd) : FnOk P w K mg base CX0 1 f fd ["value"]  (spF K 0 SIsText) := by
  refine fn_ok F sc48 (fun W as φ h => by obtain ⟨x, rfl, _⟩ := h; rfl) (by decide) fun cdv A outer s H E W as φ n hr hS hn => ?_
  obtain ⟨z, rfl, ⟨h1, h3⟩, hφ⟩ := hS
  have hf : strFits (.str z) = true := decide_eq_true (by omega)
  have hl : (sgns z).length ≤ 4000 := by rw [sgns_len]; omega
  refine ss_retE (by exact (by first | exact ev_andF' (by exact ev_isStr (by rfl) (by exact hB _ (by decide +kernel)) (by rfl) (by exact hB _ (by decide +kernel)) (by exact ev_var (i := 0) rfl (by first | exact Or.inl rfl | exact Or.inr (Or.inl rfl) | exact Or.inr (Or.inr rfl)) rfl)) (by first | rfl | assumption) | exact ev_and (by exact ev_isStr (by rfl) (by exact hB _ (by decide +kernel)) (by rfl) (by exact hB _ (by decide +kernel)) (by exact ev_var (i := 0) rfl (by first | exact Or.inl rfl | exact Or.inr (Or.inl rfl) | exact Or.inr (Or.inr rfl)) rfl)) (fun hb => by exact (by first | exact ev_andF' (by exact ev_leI (by exact ev_len (by rfl) (by exact hB _ (by decide +kernel)) (by exact ev_var (i := 0) rfl (by first | exact Or.inl rfl | exact Or.inr (Or.inl rfl) | exact Or.inr (Or.inr rfl)) rfl) (by first | rfl | assumption | trivial | omega) (by first | rfl | assumption | trivial | omega)) (by exact ev_int)) (by first | rfl | assumption) | exact ev_and (by exact ev_leI (by exact ev_len (by rfl) (by exact hB _ (by decide +kernel)) (by exact ev_var (i := 0) rfl (by first | exact Or.inl rfl | exact Or.inr (Or.inl rfl) | exact Or.inr (Or.inr rfl)) rfl) (by first | rfl | assumption | trivial | omega) (by first | rfl | assumption | trivial | omega)) (by exact ev_int)) (fun hb => by exact ev_one (by exact ev_all (by rfl) (by rfl) (by exact hB _ (by decide +kernel)) (by exact ev_lcB (own := [("sign", 1)]) (xs := sgns z) (enc := D.str) (fun x => [(1, .str x)]) (by rfl) sc48.nd (blkOk_by (N := ["value", "sign"]) (sc := defScope (top 48)) (by decide +kernel)) (by exact EvI.to (by exact EvI.z (by exact ei_strI (by exact ev_var (i := 0) rfl (by first | exact Or.inl rfl | exact Or.inr (Or.inl rfl) | exact Or.inr (Or.inr rfl)) rfl)) (by rfl)) (signs_sgns z)) (fun x hx => by exact ⟨fun s1 H1 C1 cl1 fp1 => ⟨(by exact Tg.to (by exact tg_name (i := 1) sc48.nd rfl (by first | exact Or.inl rfl | exact Or.inr rfl)) (by rfl)), (by exact Ev.to (by exact Ev.z (by exact (by first | exact ev_chII (by exact ev_str) (by exact ev_var (i := 1) rfl (by first | exact Or.inl rfl | exact Or.inr (Or.inl rfl) | exact Or.inr (Or.inr rfl)) rfl) (by exact ev_str) | exact ev_chSS (by exact ev_str) (by exact ev_var (i := 1) rfl (by first | exact Or.inl rfl | exact Or.inr (Or.inl rfl) | exact Or.inr (Or.inr rfl)) rfl) (by exact ev_str))) (by rfl)) (by rfl))⟩, by simp⟩) (by first | rfl | assumption | trivial | omega)))))))) (by omega) ?_ ⟨hφ, by omega⟩
  rw [List.all_map]
  show D.bl (true && (decide ((z.length : Int) ≤ 12) && _)) = _
  rw [decide_eq_true (by omega : (z.length : Int) ≤ 12)]
  exact congrArg D.bl h3
theorem sc49 : FnScope ["value", "kind"] ["value", "kind"] (defScope (top 49)) := ⟨rfl, rfl, rfl, by decide +kernel, rfl, by decide +kernel, by decide +kernel⟩
theorem ok49 (c__law_is_int : Cal P w K mg base 1 "_law_is_int" ["value", "low", "high"] 0 SIsInt) (c__law_state_is_text : Cal P w K mg base 1 "_law_state_is_text" ["value"] 0 SIsText) (F : FnP K "_law_state_is_of" (top 49) f fd) : FnOk P w K mg base CX0 2 f fd ["value", "kind"]  (spF K 0 (SQ2 valP fun _ _ => .bl true)) := by
  refine fn_ok F sc49 (fun W as φ h => by obtain ⟨d, e, rfl, _⟩ := h; rfl) (by decide) fun cdv A outer s H E W as φ n hr hS hn => ?_
  obtain ⟨d, e, rfl, ⟨z, rfl, hk, hv⟩, hφ⟩ := hS
  by_cases hd : isNonD d = true
  · refine ss_ifT (z := _) (by exact et_isN (by exact ev_var (i := 0) rfl (by first | exact Or.inl rfl | exact Or.inr (Or.inl rfl) | exact Or.inr (Or.inr rfl)) rfl)) hd (by omega) ?_
    refine ss_retE (by exact ev_bl) (by omega) rfl ⟨hφ, by omega⟩
  · refine ss_ifF (z := _) (by exact et_isN (by exact ev_var (i := 0) rfl (by first | exact Or.inl rfl | exact Or.inr (Or.inl rfl) | exact Or.inr (Or.inr rfl)) rfl)) (by simpa using hd) (by omega) ?_
    cases d with
    | int i =>
      obtain ⟨hz, h1, h2⟩ := hv
      have he : eqS (.str z) (.str "int") = true := by rw [hz]; decide +kernel
      have e1 : (1 - 10 ^ (11 : Int).toNat : Int) ≤ i := by have : (1 - 10 ^ (11 : Int).toNat : Int) = -99999999999 := by decide +kernel
                                                            omega
      have e2 : i ≤ (10 ^ (11 : Int).toNat - 1 : Int) := by have : (10 ^ (11 : Int).toNat - 1 : Int) = 99999999999 := by decide +kernel
                                                            omega
      refine ss_retE (by exact ev_ifT' (by exact et_eq (by exact ev_var (i := 1) rfl (by first | exact Or.inl rfl | exact Or.inr (Or.inl rfl) | exact Or.inr (Or.inr rfl)) rfl) (by exact ev_str) (by first | rfl | assumption | trivial | omega)) he (by exact ev_cp ((i, 1 - 10 ^ (11 : Int).toNat, 10 ^ (11 : Int).toNat - 1) : Int × Int × Int) (by exact c__law_is_int) (by exact hr.mono (by first | decide | omega)) (by rfl) (by exact es_consI (by exact ev_var (i := 0) rfl (by first | exact Or.inl rfl | exact Or.inr (Or.inl rfl) | exact Or.inr (Or.inr rfl)) rfl) (by exact es_consI (by exact ev_subI (by exact ev_int) (by exact ev_powI (by exact ev_int) (by exact ev_int) (by rfl))) (by exact es_consI (by exact ev_subI (by exact ev_powI (by exact ev_int) (by exact ev_int) (by rfl)) (by exact ev_int)) (by exact es_nil)))) (by rfl) (by exact ⟨e1, e2⟩) (by rfl))) (by omega) ?_ ⟨hφ, by omega⟩
      rfl
    | str y =>
      obtain ⟨hz, h1, h2⟩ := hv
      have he : eqS (.str z) (.str "int") = false := by rw [hz]; decide +kernel
      refine ss_retE (by exact ev_ifF' (by exact et_eq (by exact ev_var (i := 1) rfl (by first | exact Or.inl rfl | exact Or.inr (Or.inl rfl) | exact Or.inr (Or.inr rfl)) rfl) (by exact ev_str) (by first | rfl | assumption | trivial | omega)) he (by exact ev_cp y (by exact c__law_state_is_text) (by exact hr.mono (by first | decide | omega)) (by rfl) (by exact es_consI (by exact ev_var (i := 0) rfl (by first | exact Or.inl rfl | exact Or.inr (Or.inl rfl) | exact Or.inr (Or.inr rfl)) rfl) (by exact es_nil)) (by rfl) (by exact ⟨h1, h2⟩) (by rfl))) (by omega) ?_ ⟨hφ, by omega⟩
      rfl
    | non => exact absurd rfl hd
    | _ => exact hv.elim
/-- columns of an own state, values -/
abbrev SAreVals := SP (fun _ (x : Cols × List D) => WCols x.1 ∧ WVals x.1 x.2) (fun x => [.lst (x.1.map eCol), .tup x.2]) fun _ => .bl true
end
end K5
namespace K5
open PySem PySem.Spec PyProof.Rows L2 Qq
/-! the law's own states -/
abbrev Own := List (Str × Cols × Rws)
def dRows (rs : Rws) : D := .dct (kRows rs)
def oC (o : Own) : List (Key × D) := o.map fun t => (Sum.inr t.1, .lst (t.2.1.map eCol))
def oR (o : Own) : List (Key × D) := o.map fun t => (Sum.inr t.1, dRows t.2.2)
def eOwn (o : Own) : D := .dct [(Sum.inr "columns", .dct (oC o)), (Sum.inr "rows", .dct (oR o))]
def oN (o : Own) : List Str := o.map (·.1)
structure WOwn (o : Own) : Prop where
  len : o.length ≤ 6
  nm : ∀ t ∈ o, nameS t.1 = true
  nd : (oN o).Nodup
  cs : ∀ t ∈ o, WCols t.2.1
  key : ∀ t ∈ o, ∀ r ∈ t.2.2, 1 ≤ r.1 ∧ r.1 ≤ 999999
  kn : ∀ t ∈ o, (t.2.2.map (·.1)).Nodup
  vs : ∀ t ∈ o, ∀ r ∈ t.2.2, WVals t.2.1 r.2
  rl : ∀ t ∈ o, t.2.2.length ≤ 60
def rowsOf (o : Own) (x : Str) : Rws := ((o.find? fun t => decide (t.1 = x)).map (·.2.2)).getD []
def colsOf (o : Own) (x : Str) : Cols := ((o.find? fun t => decide (t.1 = x)).map (·.2.1)).getD []
theorem oR_keys (o : Own) : (oR o).map (·.1) = (oN o).map Sum.inr := by unfold oR oN; rw [List.map_map, List.map_map]; rfl
theorem oC_keys (o : Own) : (oC o).map (·.1) = (oN o).map Sum.inr := by unfold oC oN; rw [List.map_map, List.map_map]; rfl
theorem get_oR {o : Own} {x : Str} (h : x ∈ oN o) : getK (oR o) (Sum.inr x) = some (dRows (rowsOf o x)) := by
  induction o with
  | nil => cases h
  | cons t o ih =>
    by_cases q : t.1 = x
    · simp [getK, oR, rowsOf, q]
    · have e : ¬ (Sum.inr t.1 : Key) = Sum.inr x := fun z => q (Sum.inr.inj z)
      have h' : x ∈ oN o := (List.mem_cons.mp h).resolve_left fun z => q z.symm
      simp only [getK, oR, rowsOf, List.map_cons, List.find?_cons, decide_eq_false e, decide_eq_false q] at ih ⊢
      exact ih h'
theorem sortT_mem {ks : List Str} {x : Str} : x ∈ sortT ks ↔ x ∈ ks := (List.mergeSort_perm ks _).mem_iff
theorem sortT_len (ks : List Str) : (sortT ks).length = ks.length := (List.mergeSort_perm ks _).length_eq
theorem get_own (o : Own) : getK [(Sum.inr "columns", .dct (oC o)), (Sum.inr "rows", .dct (oR o))] (Sum.inr "rows") = some (.dct (oR o)) := by
  have e : ¬ (Sum.inr (Str.ofString "columns") : Key) = Sum.inr (Str.ofString "rows") := by decide +kernel
  simp only [getK, List.find?_cons, decide_eq_false e]
  simp
/-- what a key has in an own state -/
def keyedOf (o : Own) (key : Int) : KRs := (sortT (oN o)).map fun x => (x, inRows (rowsOf o x) key)
section
variable {P : Program} {w : World} {K : PySem.W.Frag} {mg : Str → Option Value} {base : Heap} {f ct Pt : Addr} {fd : FuncData}
abbrev SKeyed := SP (fun _ (x : Own × Int) => WOwn x.1) (fun x => [eOwn x.1, .int x.2]) fun x => eKRs (keyedOf x.1 x.2)
theorem sc54 : FnScope ["own", "key", "table"] ["own", "key"] (defScope (top 54)) := ⟨rfl, rfl, rfl, by decide +kernel, rfl, by decide +kernel, by decide +kernel⟩
theorem ok54 (hB : Bns mg) (F : FnP K "_law_state_keyed" (top 54) f fd) : FnOk P w K mg base CX0 3 f fd ["own", "key"]  (spF K 0 SKeyed) := by
  refine fn_ok F sc54 (fun W as φ h => by obtain ⟨x, rfl, _⟩ := h; rfl) (by decide) fun cdv A outer s H E W as φ n hr hS hn => ?_
  obtain ⟨⟨o, key⟩, rfl, wo, hφ⟩ := hS
  have hln : (oN o).length ≤ 6 := by unfold oN; rw [List.length_map]; exact wo.len
  have hl : (sortT (oN o)).length ≤ 4000 := by rw [sortT_len]; omega
  have hgo := get_own o
  refine ss_retE (by exact ev_tupleI (by rfl) (by exact hB _ (by decide +kernel)) (by exact ev_lcF (own := [("table", 2)]) (xs := sortT (oN o)) (enc := D.str) (fun x => [(2, .str x)]) (by rfl) sc54.nd (blkOk_by (N := ["own", "key", "table"]) (sc := defScope (top 54)) (by decide +kernel)) (by exact EvI.z (by exact ei_lstI (by exact ev_sortedD (ks := oN o) (by rfl) (by rfl) (by exact hB _ (by decide +kernel)) (by exact ev_dget (k := Sum.inr "rows") (by exact hu_of hr) (by exact ev_var (i := 0) rfl (by first | exact Or.inl rfl | exact Or.inr (Or.inl rfl) | exact Or.inr (Or.inr rfl)) rfl) (by exact ev_str) (by first | rfl | assumption | trivial | omega)) (by exact oR_keys o) (by omega))) (by rfl)) (fun x hx => by have hx1 := get_oR (sortT_mem.mp hx); exact ⟨fun s1 H1 C1 cl1 fp1 => ⟨(by exact Tg.to (by exact tg_name (i := 2) sc54.nd rfl (by first | exact Or.inl rfl | exact Or.inr rfl)) (by rfl)), (by exact Ev.to (by exact Ev.z (by exact ev_tupJ (by exact es_consI (by exact ev_var (i := 2) rfl (by first | exact Or.inl rfl | exact Or.inr (Or.inl rfl) | exact Or.inr (Or.inr rfl)) rfl) (by exact es_consI (by exact ev_get1 (k := (.inl key)) (by exact hu_of hr) (by exact ev_dget (k := (.inr x)) (by exact hu_of hr) (by exact ev_dget (k := Sum.inr "rows") (by exact hu_of hr) (by exact ev_var (i := 0) rfl (by first | exact Or.inl rfl | exact Or.inr (Or.inl rfl) | exact Or.inr (Or.inr rfl)) rfl) (by exact ev_str) (by first | rfl | assumption | trivial | omega)) (by exact ev_var (i := 2) rfl (by first | exact Or.inl rfl | exact Or.inr (Or.inl rfl) | exact Or.inr (Or.inr rfl)) rfl) (by exact hx1)) (by exact ev_var (i := 1) rfl (by first | exact Or.inl rfl | exact Or.inr (Or.inl rfl) | exact Or.inr (Or.inr rfl)) rfl)) (by exact es_nil))) (by rfl) (by rfl)) (by rfl)) (by rw [get_rows]))⟩, by simp⟩) (by first | rfl | assumption | trivial | omega))) (by omega) ?_ ⟨hφ, by omega⟩
  show D.tup (List.map _ (sortT (oN o))) = D.tup (((sortT (oN o)).map fun x => (x, inRows (rowsOf o x) key)).map eKR)
  rw [List.map_map]; rfl
/-- an own state as it is told -/
def sortKeys (rs : Rws) : Rws := (sortI (rs.map (·.1))).map fun k => (k, ((rs.find? fun r => decide (r.1 = k)).map (·.2)).getD [])
def toldOf (o : Own) : Stt := (sortT (oN o)).map fun x => (x, sortKeys (rowsOf o x))
abbrev STold := SP (fun _ (x : Own) => WOwn x) (fun x => [eOwn x]) fun x => eSttP (toldOf x)
theorem kRows_keys (rs : Rws) : (kRows rs).map (·.1) = (rs.map (·.1)).map Sum.inl := by unfold kRows; rw [List.map_map, List.map_map]; rfl
theorem get_kRows {rs : Rws} {k : Int} (h : k ∈ rs.map (·.1)) : getK (kRows rs) (Sum.inl k) = some (.tup (((rs.find? fun r => decide (r.1 = k)).map (·.2)).getD [])) := by
  induction rs with
  | nil => cases h
  | cons t o ih =>
    by_cases q : t.1 = k
    · simp [getK, kRows, q]
    · have e : ¬ (Sum.inl t.1 : Key) = Sum.inl k := fun z => q (Sum.inl.inj z)
      have h' : k ∈ o.map (·.1) := (List.mem_cons.mp h).resolve_left fun z => q z.symm
      simp only [getK, kRows, List.map_cons, List.find?_cons, decide_eq_false e, decide_eq_false q] at ih ⊢
      exact ih h'
theorem sortI_mem {ks : List Int} {x : Int} : x ∈ sortI ks ↔ x ∈ ks := (List.mergeSort_perm ks _).mem_iff
theorem sortI_len (ks : List Int) : (sortI ks).length = ks.length := (List.mergeSort_perm ks _).length_eq
theorem rowsOf_mem {o : Own} {x : Str} (h : x ∈ oN o) : ∃ t ∈ o, rowsOf o x = t.2.2 := by
  induction o with
  | nil => cases h
  | cons t o ih =>
    by_cases q : t.1 = x
    · exact ⟨t, List.mem_cons_self .., by simp [rowsOf, q]⟩
    · have h' : x ∈ oN o := (List.mem_cons.mp h).resolve_left fun z => q z.symm
      obtain ⟨u, hu, e⟩ := ih h'
      refine ⟨u, List.mem_cons_of_mem _ hu, ?_⟩
      rw [← e]
      simp only [rowsOf, List.find?_cons, decide_eq_false q]
theorem told_part (o : Own) (x : Str) : ePartP (x, sortKeys (rowsOf o x)) = .tup [.str x, .rws ((sortI ((rowsOf o x).map (·.1))).map fun k => .tup [.int k, .tup ((((rowsOf o x).find? fun r => decide (r.1 = k)).map (·.2)).getD [])])] := by
  unfold ePartP eRowsP sortKeys
  rw [List.map_map]; rfl
theorem sc53 : FnScope ["own", "found", "table", "rows", "key"] ["own"] (defScope (top 53)) := ⟨rfl, rfl, rfl, by decide +kernel, rfl, by decide +kernel, by decide +kernel⟩
theorem ok53 (hB : Bns mg) (F : FnP K "_law_state_told" (top 53) f fd) : FnOk P w K mg base CX0 3 f fd ["own"]  (spF K 0 STold) := by
  refine fn_ok F sc53 (fun W as φ h => by obtain ⟨x, rfl, _⟩ := h; rfl) (by decide) fun cdv A outer s H E W as φ n hr hS hn => ?_
  obtain ⟨o, rfl, wo, hφ⟩ := hS
  have hln : (oN o).length ≤ 6 := by unfold oN; rw [List.length_map]; exact wo.len
  have hl : (sortT (oN o)).length ≤ 4000 := by rw [sortT_len]; omega
  have hgo := get_own o
  refine ss_cons (sm_setM (i := 1) sc53.nd rfl (by first | exact Or.inl rfl | exact Or.inr rfl) em_nil (by omega) fun sl e => ?_)
  subst e
  refine ss_cons (sm_for (xs := sortT (oN o)) (enc := D.str) (by exact PassesOwn.never) (by rfl) (by exact EvI.z (by exact ei_lstI (by exact ev_sortedD (ks := oN o) (by rfl) (by rfl) (by exact hB _ (by decide +kernel)) (by exact ev_dget (k := Sum.inr "rows") (by exact hu_of hr) (by exact ev_var (i := 0) rfl (by first | exact Or.inl rfl | exact Or.inr (Or.inl rfl) | exact Or.inr (Or.inr rfl)) rfl) (by exact ev_str) (by first | rfl | assumption | trivial | omega)) (by exact oR_keys o) (by omega))) (by rfl)) (by omega)
    (fun k Γ' n' => ∃ a b c, Γ' = [.dat (eOwn o), .ml (((sortT (oN o)).take k).map fun x => ePartP (x, sortKeys (rowsOf o x))), a, b, c] ∧ n' ≤ n) ⟨_, _, _, rfl, by omega⟩ ?_ ?_)
  · rintro k x Γ' n' hk ⟨a, b, c, rfl, hle⟩
    have hxm : x ∈ oN o := sortT_mem.mp (List.mem_of_getElem? hk)
    have hx1 := get_oR hxm
    obtain ⟨t, ht, et⟩ := rowsOf_mem hxm
    have hrl : (rowsOf o x).length ≤ 60 := by rw [et]; exact wo.rl t ht
    have hkl : ((rowsOf o x).map (·.1)).length < 64 := by rw [List.length_map]; omega
    have hsl : (sortI ((rowsOf o x).map (·.1))).length ≤ 4000 := by rw [sortI_len]; omega
    have htk : (((sortT (oN o)).take k).map fun x => ePartP (x, sortKeys (rowsOf o x))).length < 4000 := by rw [List.length_map, List.length_take]; exact Nat.lt_of_le_of_lt (Nat.min_le_right _ _) (by rw [sortT_len]; omega)
    refine ⟨_, (by exact tg_name (i := 2) sc53.nd rfl (by first | exact Or.inl rfl | exact Or.inr rfl)), ?_⟩
    refine ss_set sc53.nd (i := 3) rfl (by first | exact Or.inl rfl | exact Or.inr rfl) (by exact ev_dget (k := (.inr x)) (by exact hu_of hr) (by exact ev_dget (k := Sum.inr "rows") (by exact hu_of hr) (by exact ev_var (i := 0) rfl (by first | exact Or.inl rfl | exact Or.inr (Or.inl rfl) | exact Or.inr (Or.inr rfl)) rfl) (by exact ev_str) (by first | rfl | assumption | trivial | omega)) (by exact ev_var (i := 2) rfl (by first | exact Or.inl rfl | exact Or.inr (Or.inl rfl) | exact Or.inr (Or.inr rfl)) rfl) (by exact hx1)) (by omega) ?_
    refine ss_one ?_
    refine sm_append (i := 1) (by rfl) (by first | exact Or.inl rfl | exact Or.inr (Or.inl rfl) | exact Or.inr (Or.inr rfl)) (by rfl) (by exact Ev.to (by exact ev_tupJ (by exact es_consI (by exact ev_var (i := 2) rfl (by first | exact Or.inl rfl | exact Or.inr (Or.inl rfl) | exact Or.inr (Or.inr rfl)) rfl) (by exact es_consI (by exact ev_tupleX (by rfl) (by exact hB _ (by decide +kernel)) (by exact ev_lcF (own := [("key", 4)]) (xs := sortI ((rowsOf o x).map (·.1))) (enc := D.int) (fun x => [(4, .int x)]) (by rfl) sc53.nd (blkOk_by (N := ["own", "found", "table", "rows", "key"]) (sc := defScope (top 53)) (by decide +kernel)) (by exact EvI.z (by exact ei_lstI (by exact ev_sortedDI (ks := _) (by rfl) (by rfl) (by exact hB _ (by decide +kernel)) (by exact ev_var (i := 3) rfl (by first | exact Or.inl rfl | exact Or.inr (Or.inl rfl) | exact Or.inr (Or.inr rfl)) rfl) (by exact kRows_keys _) (by omega))) (by rfl)) (fun x hx => by have hx2 := get_kRows (sortI_mem.mp hx); exact ⟨fun s1 H1 C1 cl1 fp1 => ⟨(by exact Tg.to (by exact tg_name (i := 4) sc53.nd rfl (by first | exact Or.inl rfl | exact Or.inr rfl)) (by rfl)), (by exact Ev.to (by exact Ev.z (by exact ev_tupJ (by exact es_consI (by exact ev_var (i := 4) rfl (by first | exact Or.inl rfl | exact Or.inr (Or.inl rfl) | exact Or.inr (Or.inr rfl)) rfl) (by exact es_consI (by exact ev_dget (k := (.inl x)) (by exact hu_of hr) (by exact ev_var (i := 3) rfl (by first | exact Or.inl rfl | exact Or.inr (Or.inl rfl) | exact Or.inr (Or.inr rfl)) rfl) (by exact ev_var (i := 4) rfl (by first | exact Or.inl rfl | exact Or.inr (Or.inl rfl) | exact Or.inr (Or.inr rfl)) rfl) (by exact hx2)) (by exact es_nil))) (by rfl) (by rfl)) (by rfl)) (by rfl))⟩, by simp⟩) (by first | rfl | assumption | trivial | omega))) (by exact es_nil))) (by rfl) (by rfl)) (by exact (told_part o x).symm)) (by omega) htk fun d hd => ?_
    obtain rfl := hd
    exact ⟨_, _, _, by rw [take_succ hk, List.map_append]; rfl, by omega⟩
  · rintro Γ' n' ⟨a, b, c, rfl, hle⟩
    rw [List.take_length]
    refine ss_frzL (i := 1) rfl ?_
    refine ss_retE (by exact ev_tupleI (by rfl) (by exact hB _ (by decide +kernel)) (by exact ev_var (i := 1) rfl (by first | exact Or.inl rfl | exact Or.inr (Or.inl rfl) | exact Or.inr (Or.inr rfl)) rfl)) (by omega) ?_ ⟨hφ, by omega⟩
    show D.tup ((sortT (oN o)).map fun x => ePartP (x, sortKeys (rowsOf o x))) = D.tup (((sortT (oN o)).map fun x => (x, sortKeys (rowsOf o x))).map ePartP)
    rw [List.map_map]; rfl
end
end K5
namespace K5
open PySem PySem.Spec PyProof.Rows L2 Qq
/-- two data that _law_same finds alike, at most k deep -/
def sameS : D → D → Prop
  | .non, .non => True
  | .bl a, .bl b => a = b
  | .int a, .int b => a = b
  | .str a, .str b => a = b
  | _, _ => False
def SameT : Nat → D → D → Prop
  | 0, d, e => sameS d e
  | k + 1, d, e => sameS d e ∨ ∃ xs ys, (d = .tup xs ∨ d = .rws xs) ∧ (e = .tup ys ∨ e = .rws ys) ∧ xs.length = ys.length ∧ xs.length ≤ 4000 ∧ ∀ (i : Nat) (x y : D), xs[i]? = some x → ys[i]? = some y → SameT k x y
section
variable {P : Program} {w : World} {K : PySem.W.Frag} {mg : Str → Option Value} {base : Heap} {f ct Pt : Addr} {fd : FuncData}
theorem sc62 : FnScope ["one", "other", "mine", "its"] ["one", "other"] (defScope (top 62)) := ⟨rfl, rfl, rfl, by decide +kernel, rfl, by decide +kernel, by decide +kernel⟩
theorem same_scalar {W : Wd} {φ : D → Prop} {n : Nat} {A : Around} {outer : List Env} {s : Shared} {H : Hp} {E : XK} {cdv : Value} {d e : D} (hB : Bns mg) (h : sameS d e) (hφ : φ (.bl true)) (hn : n + 0 ≤ LIM) :
    Sms W (cxOf CX0 P w K mg base ["one", "other", "mine", "its"] "_law_same" (defScope (top 62)) f cdv A outer s H E).nox (defBody (top 62)) ([.dat d, .dat e] ++ unsl 2) n ⟨fun _ n' => φ .non ∧ n' ≤ n + 0, fun d n' => φ d ∧ n' ≤ n + 0, fun _ _ => False, fun _ _ => False, fun _ _ _ _ _ => False⟩ := by
  have heq : ∀ a : Str, eqS (.str a) (.str a) = true := fun a => decide_eq_true rfl
  have hei : ∀ a : Int, eqS (.int a) (.int a) = true := fun a => decide_eq_true rfl
  have heb : ∀ a : Bool, eqS (.bl a) (.bl a) = true := fun a => decide_eq_true rfl
  cases d <;> cases e <;> first | exact h.elim | skip
  all_goals
    first | obtain rfl := h | skip
    refine ss_ifF (z := _) (by exact et_pw (by exact (by first | exact et_orT' (by exact et_v (by exact ev_isTup (by rfl) (by exact hB _ (by decide +kernel)) (by rfl) (by exact hB _ (by decide +kernel)) (by exact ev_var (i := 0) rfl (by first | exact Or.inl rfl | exact Or.inr (Or.inl rfl) | exact Or.inr (Or.inr rfl)) rfl))) (by first | rfl | assumption) | exact et_or (by exact et_v (by exact ev_isTup (by rfl) (by exact hB _ (by decide +kernel)) (by rfl) (by exact hB _ (by decide +kernel)) (by exact ev_var (i := 0) rfl (by first | exact Or.inl rfl | exact Or.inr (Or.inl rfl) | exact Or.inr (Or.inr rfl)) rfl))) (fun hb => by exact eW_or1 (by exact et_v (by exact ev_isTup (by rfl) (by exact hB _ (by decide +kernel)) (by rfl) (by exact hB _ (by decide +kernel)) (by exact ev_var (i := 1) rfl (by first | exact Or.inl rfl | exact Or.inr (Or.inl rfl) | exact Or.inr (Or.inr rfl)) rfl))))))) (by rfl) (by omega) ?_
    refine ss_retE (by exact (by first | exact ev_andF' (by exact ev_eq (by exact ev_isBool (by rfl) (by exact hB _ (by decide +kernel)) (by rfl) (by exact hB _ (by decide +kernel)) (by exact ev_var (i := 0) rfl (by first | exact Or.inl rfl | exact Or.inr (Or.inl rfl) | exact Or.inr (Or.inr rfl)) rfl)) (by exact ev_isBool (by rfl) (by exact hB _ (by decide +kernel)) (by rfl) (by exact hB _ (by decide +kernel)) (by exact ev_var (i := 1) rfl (by first | exact Or.inl rfl | exact Or.inr (Or.inl rfl) | exact Or.inr (Or.inr rfl)) rfl)) (by first | rfl | assumption | trivial | omega)) (by first | rfl | assumption) | exact ev_and (by exact ev_eq (by exact ev_isBool (by rfl) (by exact hB _ (by decide +kernel)) (by rfl) (by exact hB _ (by decide +kernel)) (by exact ev_var (i := 0) rfl (by first | exact Or.inl rfl | exact Or.inr (Or.inl rfl) | exact Or.inr (Or.inr rfl)) rfl)) (by exact ev_isBool (by rfl) (by exact hB _ (by decide +kernel)) (by rfl) (by exact hB _ (by decide +kernel)) (by exact ev_var (i := 1) rfl (by first | exact Or.inl rfl | exact Or.inr (Or.inl rfl) | exact Or.inr (Or.inr rfl)) rfl)) (by first | rfl | assumption | trivial | omega)) (fun hb => by exact ev_one (by exact ev_eq (by exact ev_var (i := 0) rfl (by first | exact Or.inl rfl | exact Or.inr (Or.inl rfl) | exact Or.inr (Or.inr rfl)) rfl) (by exact ev_var (i := 1) rfl (by first | exact Or.inl rfl | exact Or.inr (Or.inl rfl) | exact Or.inr (Or.inr rfl)) rfl) (by first | rfl | assumption | trivial | omega))))) (by omega) ?_ ⟨hφ, by omega⟩
    first | rfl | (simp [heq, hei, heb, isBoolT, eqS])
theorem same_seq {W : Wd} {φ : D → Prop} {n k : Nat} {A : Around} {outer : List Env} {s : Shared} {H : Hp} {E : XK} {cdv : Value} {xs ys : List D} (hB : Bns mg) (c__law_same : Cal P w K mg base (k + 1) "_law_same" ["one", "other"] 0 (SQ2 (SameT k) fun _ _ => .bl true)) (hr : Room (k + 1) (A.deeper (envOfC "_law_same" (defScope (top 62)) s.heap.objs.size f cdv))) (hlen : xs.length = ys.length) (hl4 : xs.length ≤ 4000) (hall : ∀ (i : Nat) (x y : D), xs[i]? = some x → ys[i]? = some y → SameT k x y) (hφ : φ (.bl true)) (hn : n + 0 ≤ LIM) :
    Sms W (cxOf CX0 P w K mg base ["one", "other", "mine", "its"] "_law_same" (defScope (top 62)) f cdv A outer s H E).nox (defBody (top 62)) ([.dat (.tup xs), .dat (.tup ys)] ++ unsl 2) n ⟨fun _ n' => φ .non ∧ n' ≤ n + 0, fun d n' => φ d ∧ n' ≤ n + 0, fun _ _ => False, fun _ _ => False, fun _ _ _ _ _ => False⟩ := by
  have hlz : (xs.zip ys).length ≤ 4000 := by rw [List.length_zip]; exact Nat.le_trans (Nat.min_le_left _ _) hl4
  refine ss_ifT (z := _) (by exact et_pw (by exact (by first | exact et_orT' (by exact et_v (by exact ev_isTup (by rfl) (by exact hB _ (by decide +kernel)) (by rfl) (by exact hB _ (by decide +kernel)) (by exact ev_var (i := 0) rfl (by first | exact Or.inl rfl | exact Or.inr (Or.inl rfl) | exact Or.inr (Or.inr rfl)) rfl))) (by first | rfl | assumption) | exact et_or (by exact et_v (by exact ev_isTup (by rfl) (by exact hB _ (by decide +kernel)) (by rfl) (by exact hB _ (by decide +kernel)) (by exact ev_var (i := 0) rfl (by first | exact Or.inl rfl | exact Or.inr (Or.inl rfl) | exact Or.inr (Or.inr rfl)) rfl))) (fun hb => by exact eW_or1 (by exact et_v (by exact ev_isTup (by rfl) (by exact hB _ (by decide +kernel)) (by rfl) (by exact hB _ (by decide +kernel)) (by exact ev_var (i := 1) rfl (by first | exact Or.inl rfl | exact Or.inr (Or.inl rfl) | exact Or.inr (Or.inr rfl)) rfl))))))) (by rfl) (by omega) ?_
  refine ss_ifF (z := _) (by exact et_pw (by exact (by first | exact et_orT' (by exact et_not (by exact et_v (by exact ev_isTup (by rfl) (by exact hB _ (by decide +kernel)) (by rfl) (by exact hB _ (by decide +kernel)) (by exact ev_var (i := 0) rfl (by first | exact Or.inl rfl | exact Or.inr (Or.inl rfl) | exact Or.inr (Or.inr rfl)) rfl)))) (by first | rfl | assumption) | exact et_or (by exact et_not (by exact et_v (by exact ev_isTup (by rfl) (by exact hB _ (by decide +kernel)) (by rfl) (by exact hB _ (by decide +kernel)) (by exact ev_var (i := 0) rfl (by first | exact Or.inl rfl | exact Or.inr (Or.inl rfl) | exact Or.inr (Or.inr rfl)) rfl)))) (fun hb => by exact (by first | exact et_orT' (by exact et_not (by exact et_v (by exact ev_isTup (by rfl) (by exact hB _ (by decide +kernel)) (by rfl) (by exact hB _ (by decide +kernel)) (by exact ev_var (i := 1) rfl (by first | exact Or.inl rfl | exact Or.inr (Or.inl rfl) | exact Or.inr (Or.inr rfl)) rfl)))) (by first | rfl | assumption) | exact et_or (by exact et_not (by exact et_v (by exact ev_isTup (by rfl) (by exact hB _ (by decide +kernel)) (by rfl) (by exact hB _ (by decide +kernel)) (by exact ev_var (i := 1) rfl (by first | exact Or.inl rfl | exact Or.inr (Or.inl rfl) | exact Or.inr (Or.inr rfl)) rfl)))) (fun hb => by exact eW_or1 (by exact et_ne (by exact ev_len (by rfl) (by exact hB _ (by decide +kernel)) (by exact ev_var (i := 0) rfl (by first | exact Or.inl rfl | exact Or.inr (Or.inl rfl) | exact Or.inr (Or.inr rfl)) rfl) (by first | rfl | assumption | trivial | omega) (by first | rfl | assumption | trivial | omega)) (by exact ev_len (by rfl) (by exact hB _ (by decide +kernel)) (by exact ev_var (i := 1) rfl (by first | exact Or.inl rfl | exact Or.inr (Or.inl rfl) | exact Or.inr (Or.inr rfl)) rfl) (by first | rfl | assumption | trivial | omega) (by first | rfl | assumption | trivial | omega)) (by first | rfl | assumption | trivial | omega)))))))) (by show (!true || (!true || !eqS (.int (xs.length : Nat)) (.int (ys.length : Nat)))) = false; rw [eq_len hlen]; rfl) (by omega) ?_
  refine ss_retE (by exact ev_allT (by rfl) (by rfl) (by exact hB _ (by decide +kernel)) (by exact ev_lcB (F := fun _ => true) (own := [("mine", 2), ("its", 3)]) (xs := xs.zip ys) (enc := fun p => .tup [p.1, p.2]) (fun x => [(2, x.1), (3, x.2)]) (by rfl) sc62.nd (blkOk_by (N := ["one", "other", "mine", "its"]) (sc := defScope (top 62)) (by decide +kernel)) (by exact EvI.to (by exact EvI.z (by exact ei_zipI (by rfl) (by exact hB _ (by decide +kernel)) (by exact es_consI (by exact ev_var (i := 0) rfl (by first | exact Or.inl rfl | exact Or.inr (Or.inl rfl) | exact Or.inr (Or.inr rfl)) rfl) (by exact es_consI (by exact ev_var (i := 1) rfl (by first | exact Or.inl rfl | exact Or.inr (Or.inl rfl) | exact Or.inr (Or.inr rfl)) rfl) (by exact es_nil))) (by first | exact Or.inl rfl | exact Or.inr rfl)) (by rfl)) rfl) (fun x hx => by obtain ⟨i, h5, h6⟩ := zip_mem hx; have h1 : SameT k x.1 x.2 := hall i _ _ h5 h6; exact ⟨fun s1 H1 C1 cl1 fp1 => ⟨(by exact Tg.to (by exact tg_tup (by rfl) (by exact tl_cons (by exact tg_name (i := 2) sc62.nd rfl (by first | exact Or.inl rfl | exact Or.inr rfl)) (by exact tl_cons (by exact tg_name (i := 3) sc62.nd rfl (by first | exact Or.inl rfl | exact Or.inr rfl)) (by exact tl_nil)))) (by rfl)), (by exact Ev.to (by exact Ev.z (by exact ev_c2 (by exact c__law_same) (by exact hr.mono (by first | decide | omega)) (by rfl) (by exact es_consI (by exact ev_var (i := 2) rfl (by first | exact Or.inl rfl | exact Or.inr (Or.inl rfl) | exact Or.inr (Or.inr rfl)) rfl) (by exact es_consI (by exact ev_var (i := 3) rfl (by first | exact Or.inl rfl | exact Or.inr (Or.inl rfl) | exact Or.inr (Or.inr rfl)) rfl) (by exact es_nil))) (by first | rfl | assumption | trivial | omega) (by rfl)) (by rfl)) (by rfl))⟩, by simp⟩) (by first | rfl | assumption | trivial | omega))) (by omega) ?_ ⟨hφ, by omega⟩
  rfl
theorem ok62 (hB : Bns mg) (F : FnP K "_law_same" (top 62) f fd) (toCal : ∀ {lv S}, FnOk P w K mg base CX0 lv f fd ["one", "other"] (spF K 0 S) → Cal P w K mg base lv "_law_same" ["one", "other"] 0 S) : ∀ k, FnOk P w K mg base CX0 (k + 1) f fd ["one", "other"] (spF K 0 (SQ2 (SameT k) fun _ _ => .bl true))
  | 0 => by
    refine fn_ok F sc62 (fun W as φ h => by obtain ⟨d, e, rfl, _⟩ := h; rfl) (by decide) fun cdv A outer s H E W as φ n hr hS hn => ?_
    obtain ⟨d, e, rfl, h, hφ⟩ := hS
    exact same_scalar hB h hφ hn
  | k + 1 => by
    have c__law_same := toCal (ok62 hB F toCal k)
    refine fn_ok F sc62 (fun W as φ h => by obtain ⟨d, e, rfl, _⟩ := h; rfl) (by decide) fun cdv A outer s H E W as φ n hr hS hn => ?_
    obtain ⟨d, e, rfl, h, hφ⟩ := hS
    rcases h with h | ⟨xs, ys, hd, he, hlen, hl4, hall⟩
    · exact same_scalar hB h hφ hn
    · have key := same_seq (A := A) (outer := outer) (s := s) (H := H) (E := E) (cdv := cdv) (φ := φ) (W := W) hB c__law_same hr hlen hl4 hall hφ hn
      rcases hd with rfl | rfl <;> rcases he with rfl | rfl
      · exact key
      · exact ss_weak (i := 1) rfl key
      · exact ss_weak (i := 0) rfl key
      · exact ss_weak (i := 0) rfl (ss_weak (i := 1) rfl key)
end
end K5
namespace K5
open PySem PySem.Spec PyProof.Rows L2 Qq
section
variable {P : Program} {w : World} {K : PySem.W.Frag} {mg : Str → Option Value} {base : Heap} {f ct Pt : Addr} {fd : FuncData}
theorem et_eqI {W : Wd} {X : Cx} {Γ : List Sl} {c1 c2 : Nat} {a b : Expr} {pos : Pos} {φa φb : D → Prop} (ha : Ev W X a Γ c1 φa) (hb : Ev W X b Γ c2 φb) (h1 : ∀ d, φa d → ∃ v, d = .int v) (h2 : ∀ d, φb d → ∃ v, d = .int v) : EvT W X (.Compare a [.Eq] [b] pos) Γ (c1 + c2) (fun _ => True) :=
  et_cmp2 op_eq (nomark _) ha hb fun dx dy f1 f2 => by
    obtain ⟨x, rfl⟩ := h1 dx f1
    obtain ⟨y, rfl⟩ := h2 dy f2
    exact ⟨_, r2_eq rfl, trivial⟩
/-- a drawn value of a kind -/
abbrev SVal : Wd → List Sl → (D → Prop) → Prop := fun W as φ => ∃ (a : Addr) (k : Str), as = [.at_ a, .dat (.str k)] ∧ PotW W a ∧ kindOk k ∧ ∀ v, valOk k v → φ v
def LVal (k : Str) (d : D) : Prop := ∃ ds, d = .lst ds ∧ 0 < ds.length ∧ ds.length ≤ 1000000 ∧ ∀ x ∈ ds, valOk k x
theorem txt_ok {z : Str} (h : z.length ≤ 12) (h2 : (sgns z).all (signOk "!" "~") = true) : valOk "text" (.str z) := ⟨rfl, h, h2⟩
def IntsSs (ss : List Sl) : Prop := ∃ d r, ss = .dat d :: r ∧ Is (.int 0) d ∧ ∃ d r', r = .dat d :: r' ∧ Is (.int 1) d ∧ ∃ d r'', r' = .dat d :: r'' ∧ Is (.int 2) d ∧ ∃ d r3, r'' = .dat d :: r3 ∧ Is (.int (-1)) d ∧ ∃ d r4, r3 = .dat d :: r4 ∧ Is (.int 5) d ∧ ∃ d r5, r4 = .dat d :: r5 ∧ Is (.int 40) d ∧
  ∃ d r6, r5 = .dat d :: r6 ∧ Is (.int (-12345678901)) d ∧ ∃ d r7, r6 = .dat d :: r7 ∧ Rg 0 (99 - 1) d ∧ Is [] r7
theorem ints_lval {k : Str} (hk : k = "int") {ss : List Sl} (h : IntsSs ss) : ∃ ds, ss = ds.map .dat ∧ ds.length ≤ sizeLine ∧ LVal k (.lst ds) := by
  obtain ⟨_, _, rfl, rfl, _, _, rfl, rfl, _, _, rfl, rfl, _, _, rfl, rfl, _, _, rfl, rfl, _, _, rfl, rfl, _, _, rfl, rfl, _, _, rfl, ⟨v, rfl, h9, h10⟩, rfl⟩ := h
  refine ⟨[.int 0, .int 1, .int 2, .int (-1), .int 5, .int 40, .int (-12345678901), .int v], rfl, (by show 8 ≤ sizeLine; decide), _, rfl, (by show 0 < 8; decide), (by show 8 ≤ 1000000; decide), fun x hx => ?_⟩
  simp only [List.mem_cons, List.not_mem_nil, or_false] at hx
  rcases hx with rfl | rfl | rfl | rfl | rfl | rfl | rfl | rfl
  all_goals exact ⟨hk, by omega, by omega⟩
theorem of_lval {W : Wd} {ad : Addr} {k : Str} {φ : D → Prop} {ss : List Sl} (hpw : PotW W ad) (hφ : ∀ v, valOk k v → φ v) (h : ∃ r, ss = .at_ ad :: r ∧ ∃ d r2, r = .dat d :: r2 ∧ LVal k d ∧ Is [] r2) : SOf W ss φ := by
  obtain ⟨r, rfl, d, r2, rfl, ⟨ds, rfl, l1, l2, l3⟩, rfl⟩ := h
  exact ⟨ad, ds, rfl, hpw, l1, l2, fun d hd => hφ d (l3 d hd)⟩
def txts : List Str := ["", "a", "b", "x-y", "p-q-r", "7", "007", "-3", "none", "'", "-", "longer-text"]
theorem txts_all : txts.all (fun z => decide (z.length ≤ 12) && (sgns z).all (signOk "!" "~")) = true := by decide +kernel
theorem txts_ok {k : Str} (hk : k = "text") {d : D} (h : d ∈ txts.map D.str) : valOk k d := by
  obtain ⟨z, hz, rfl⟩ := List.mem_map.mp h
  have q := List.all_eq_true.mp txts_all z hz
  rw [Bool.and_eq_true] at q
  exact ⟨hk, of_decide_eq_true q.1, q.2⟩
theorem sc58 : FnScope ["pot", "kind"] ["pot", "kind"] (defScope (top 58)) := ⟨rfl, rfl, rfl, by decide +kernel, rfl, by decide +kernel, by decide +kernel⟩
theorem ok58 (hB : Bns mg) (c__law_take : Cal P w K mg base 1 "_law_take" ["pot", "upto"] 1 STake) (c__law_of : Cal P w K mg base 2 "_law_of" ["pot", "some"] 1 SOf) (F : FnP K "_law_state_value_drawn" (top 58) f fd) : FnOk P w K mg base CX0 3 f fd ["pot", "kind"]  (spF K 3 SVal) := by
  refine fn_ok F sc58 (fun W as φ h => by obtain ⟨a, u, rfl, _⟩ := h; rfl) (by decide) fun cdv A outer s H E W as φ n hr hS hn => ?_
  obtain ⟨ad, k, rfl, hpw, hk, hφ⟩ := hS
  refine ss_cons (sm_if (ψ := fun _ => True) (by exact et_eqI (by exact ev_take hB c__law_take (by exact hr.mono (by first | decide | omega)) (by rfl) hpw (i := 0) rfl (by first | exact Or.inl rfl | exact Or.inr (Or.inl rfl) | exact Or.inr (Or.inr rfl)) rfl (by exact ev_int) (by decide) (by decide)) (by exact ev_rint) Rg.isI Rg.isI) (by omega) (fun _ => ?_) (fun _ => ?_))
  · refine ss_one (sm_ret (by exact ev_non) (by omega) fun d hd => ?_)
    obtain rfl : d = .non := hd
    exact ⟨hφ _ (by cases k; trivial), by omega⟩
  refine ss_nil ?_
  rcases hk with hk | hk
  · have he : eqS (.str k) (.str "int") = true := by rw [hk]; decide +kernel
    refine ss_ifT (z := _) (by exact et_eq (by exact ev_var (i := 1) rfl (by first | exact Or.inl rfl | exact Or.inr (Or.inl rfl) | exact Or.inr (Or.inr rfl)) rfl) (by exact ev_str) (by first | rfl | assumption | trivial | omega)) he (by omega) ?_
    have hlst : ∀ ss, IntsSs ss → ∃ ds, ss = ds.map .dat ∧ ds.length ≤ sizeLine ∧ LVal k (.lst ds) := fun ss h => ints_lval hk h
    have hcall : ∀ ss, (∃ r, ss = .at_ ad :: r ∧ ∃ d r2, r = .dat d :: r2 ∧ LVal k d ∧ Is [] r2) → SOf W ss φ := fun ss h => of_lval hpw hφ h
    refine ss_one (sm_ret (by exact ev_call (φ := φ) c__law_of (by exact hr.mono (by decide)) (by rfl) (by exact es_at (i := 0) rfl (by first | exact Or.inl rfl | exact Or.inr (Or.inl rfl) | exact Or.inr (Or.inr rfl)) rfl (by exact es_cons (φ := LVal k) (by exact ev_lst (by exact es_cons (by exact ev_int) (by exact es_cons (by exact ev_int) (by exact es_cons (by exact ev_int) (by exact es_cons (by exact ev_neg (by exact ev_int)) (by exact es_cons (by exact ev_int) (by exact es_cons (by exact ev_int) (by exact es_cons (by exact ev_neg (by exact ev_int)) (by exact es_cons (by exact ev_take hB c__law_take (by exact hr.mono (by first | decide | omega)) (by rfl) hpw (i := 0) rfl (by first | exact Or.inl rfl | exact Or.inr (Or.inl rfl) | exact Or.inr (Or.inr rfl)) rfl (by exact ev_int) (by decide) (by decide)) (by exact es_nil))))))))) hlst) es_nil)) hcall) (by omega) fun d hd => ⟨hd, by omega⟩)
  · have he : eqS (.str k) (.str "int") = false := by rw [hk]; decide +kernel
    refine ss_ifF (z := _) (by exact et_eq (by exact ev_var (i := 1) rfl (by first | exact Or.inl rfl | exact Or.inr (Or.inl rfl) | exact Or.inr (Or.inr rfl)) rfl) (by exact ev_str) (by first | rfl | assumption | trivial | omega)) he (by omega) ?_
    have hcall : ∀ ss, (∃ r, ss = .at_ ad :: r ∧ Is [.dat (.lst (txts.map .str))] r) → SOf W ss φ := fun ss ⟨r, e, q⟩ => ⟨ad, txts.map .str, by rw [e, show r = _ from q], hpw, by decide, by decide, fun d hd => hφ d (txts_ok hk hd)⟩
    refine ss_one (sm_ret (by exact ev_call (φ := φ) c__law_of (by exact hr.mono (by decide)) (by rfl) (by exact es_at (i := 0) rfl (by first | exact Or.inl rfl | exact Or.inr (Or.inl rfl) | exact Or.inr (Or.inr rfl)) rfl (by exact es_consI (by exact Ev.to (by exact ev_lstJ (by exact es_consI (by exact ev_str) (by exact es_consI (by exact ev_str) (by exact es_consI (by exact ev_str) (by exact es_consI (by exact ev_str) (by exact es_consI (by exact ev_str) (by exact es_consI (by exact ev_str) (by exact es_consI (by exact ev_str) (by exact es_consI (by exact ev_str) (by exact es_consI (by exact ev_str) (by exact es_consI (by exact ev_str) (by exact es_consI (by exact ev_str) (by exact es_consI (by exact ev_str) (by exact es_nil))))))))))))) (by rfl) (by rfl)) (by rfl)) es_nil)) hcall) (by omega) fun d hd => ⟨hd, by omega⟩)
end
end K5
namespace K5
open PySem PySem.Spec PyProof.Rows L2 Qq
section
variable {P : Program} {w : World} {K : PySem.W.Frag} {mg : Str → Option Value} {base : Heap} {f ct Pt : Addr} {fd : FuncData}
/-- drawn values of columns, told as a tuple or as a list -/
abbrev SVals : Wd → List Sl → (D → Prop) → Prop := fun W as φ => ∃ (a : Addr) (cs : Cols), (as = [.at_ a, .dat (.tup (cs.map eCol))] ∨ as = [.at_ a, .dat (.lst (cs.map eCol))]) ∧ PotW W a ∧ WCols cs ∧ ∀ vs, WVals cs vs → φ (.tup vs)
theorem all2_wvals {cs : Cols} {vs : List D} (h : All2 (fun (c : Col) v => valOk c.2 v) cs vs) : WVals cs vs := by
  induction h with
  | nil => exact ⟨rfl, fun i c v h => by simp at h⟩
  | cons a t ih =>
    refine ⟨by rw [List.length_cons, List.length_cons, ih.1], fun i c v h1 h2 => ?_⟩
    cases i with
    | zero => cases h1; cases h2; exact a
    | succ i => exact ih.2 i c v (by simpa using h1) (by simpa using h2)
theorem sc59 : FnScope ["pot", "columns", "name", "kind"] ["pot", "columns"] (defScope (top 59)) := ⟨rfl, rfl, rfl, by decide +kernel, rfl, by decide +kernel, by decide +kernel⟩
theorem ok59 (hB : Bns mg) (c_vd : Cal P w K mg base 3 "_law_state_value_drawn" ["pot", "kind"] 3 SVal) (F : FnP K "_law_state_values_drawn" (top 59) f fd) : FnOk P w K mg base CX0 4 f fd ["pot", "columns"]  (spF K 18 SVals) := by
  refine fn_ok F sc59 (fun W as φ h => by obtain ⟨a, u, h | h, _⟩ := h <;> rw [h] <;> rfl) (by decide) fun cdv A outer s H E W as φ n hr hS hn => ?_
  obtain ⟨ad, cs, has, hpw, wf, hφ⟩ := hS
  have hl6 := wf.len
  have hret : ∀ d : D, (∃ vs, d = .tup vs ∧ WVals cs vs) → φ d := fun d ⟨vs, e, h⟩ => by rw [e]; exact hφ vs h
  have hm : ∀ sl, (∃ es, sl = Sl.ml es ∧ All2 (fun (c : Col) v => valOk c.2 v) (cs.filter fun _ => true) es) → ∃ vs, datOf sl = D.lst vs ∧ WVals cs vs := fun sl ⟨es, e, h⟩ => by
    rw [List.filter_eq_self.mpr (fun _ _ => rfl)] at h
    rw [e]; exact ⟨es, rfl, all2_wvals h⟩
  have ht2 : ∀ d : D, (∃ vs, d = .lst vs ∧ WVals cs vs) → ∃ ds, (d = .lst ds ∨ d = .tup ds) ∧ ∃ vs, D.tup ds = .tup vs ∧ WVals cs vs := fun d ⟨vs, e, h⟩ => ⟨vs, .inl e, vs, rfl, h⟩
  have hcost : 0 + cs.length * 3 ≤ 18 := by omega
  have hl : cs.length ≤ 4000 := by omega
  rcases has with rfl | rfl
  · refine ss_one (sm_ret (φ := fun d => ∃ vs, d = .tup vs ∧ WVals cs vs) (by exact ev_tupleL (by rfl) (by exact hB _ (by decide +kernel)) (by exact ev_of_m (by exact em_lc (own := [("name", 2), ("kind", 3)]) (xs := cs) (enc := eCol) (φ := fun (c : Col) v => valOk c.2 v) (p := fun _ => true) (c0 := 0) (c1 := 3) (c := 18) (by rfl) sc59.nd (blkOk_by (N := ["pot", "columns", "name", "kind"]) (sc := defScope (top 59)) (by decide +kernel)) (by exact EvI.z (by exact ei_tupI (by exact ev_var (i := 1) rfl (by first | exact Or.inl rfl | exact Or.inr (Or.inl rfl) | exact Or.inr (Or.inr rfl)) rfl)) (by rfl)) (fun x => [(2, .str x.1), (3, .str x.2)]) (fun x hx => by have hk := wf.kd x hx; have hS' : SVal W [.at_ ad, .dat (.str x.2)] (fun v => valOk x.2 v) := ⟨ad, x.2, rfl, hpw, hk, fun v h => h⟩; exact ⟨fun s1 H1 C1 cl1 fp1 => ⟨(by exact Tg.to (by exact tg_tup (by rfl) (by exact tl_cons (by exact tg_name (i := 2) sc59.nd rfl (by first | exact Or.inl rfl | exact Or.inr rfl)) (by exact tl_cons (by exact tg_name (i := 3) sc59.nd rfl (by first | exact Or.inl rfl | exact Or.inr rfl)) (by exact tl_nil)))) (by rfl)), ets_nil, fun _ => by exact Ev.cost (by exact ev_pcall c_vd (by exact hr.mono (by decide)) (by rfl) (i := 0) rfl (by first | exact Or.inl rfl | exact Or.inr (Or.inl rfl) | exact Or.inr (Or.inr rfl)) rfl (by exact es_consI (by exact ev_var (i := 3) rfl (by first | exact Or.inl rfl | exact Or.inr (Or.inl rfl) | exact Or.inr (Or.inr rfl)) rfl) es_nil) hS') (by decide)⟩, by simp⟩) hl hcost) hm) ht2) (by omega) fun d hd => ⟨hret d hd, by omega⟩)
  · refine ss_one (sm_ret (φ := fun d => ∃ vs, d = .tup vs ∧ WVals cs vs) (by exact ev_tupleL (by rfl) (by exact hB _ (by decide +kernel)) (by exact ev_of_m (by exact em_lc (own := [("name", 2), ("kind", 3)]) (xs := cs) (enc := eCol) (φ := fun (c : Col) v => valOk c.2 v) (p := fun _ => true) (c0 := 0) (c1 := 3) (c := 18) (by rfl) sc59.nd (blkOk_by (N := ["pot", "columns", "name", "kind"]) (sc := defScope (top 59)) (by decide +kernel)) (by exact EvI.z (by exact ei_lstI (by exact ev_var (i := 1) rfl (by first | exact Or.inl rfl | exact Or.inr (Or.inl rfl) | exact Or.inr (Or.inr rfl)) rfl)) (by rfl)) (fun x => [(2, .str x.1), (3, .str x.2)]) (fun x hx => by have hk := wf.kd x hx; have hS' : SVal W [.at_ ad, .dat (.str x.2)] (fun v => valOk x.2 v) := ⟨ad, x.2, rfl, hpw, hk, fun v h => h⟩; exact ⟨fun s1 H1 C1 cl1 fp1 => ⟨(by exact Tg.to (by exact tg_tup (by rfl) (by exact tl_cons (by exact tg_name (i := 2) sc59.nd rfl (by first | exact Or.inl rfl | exact Or.inr rfl)) (by exact tl_cons (by exact tg_name (i := 3) sc59.nd rfl (by first | exact Or.inl rfl | exact Or.inr rfl)) (by exact tl_nil)))) (by rfl)), ets_nil, fun _ => by exact Ev.cost (by exact ev_pcall c_vd (by exact hr.mono (by decide)) (by rfl) (i := 0) rfl (by first | exact Or.inl rfl | exact Or.inr (Or.inl rfl) | exact Or.inr (Or.inr rfl)) rfl (by exact es_consI (by exact ev_var (i := 3) rfl (by first | exact Or.inl rfl | exact Or.inr (Or.inl rfl) | exact Or.inr (Or.inr rfl)) rfl) es_nil) hS') (by decide)⟩, by simp⟩) hl hcost) hm) ht2) (by omega) fun d hd => ⟨hret d hd, by omega⟩)
end
end K5
namespace K5
open PySem PySem.Spec PyProof.Rows L2 Qq
def unS : D → Str
  | .str z => z
  | _ => ""
theorem perm_strs {out rest : List D} {ns0 : List Str} (h : (out ++ rest).Perm (ns0.map D.str)) : ∃ ns rs : List Str, out = ns.map D.str ∧ (ns ++ rs).Perm ns0 := by
  refine ⟨out.map unS, rest.map unS, ?_, ?_⟩
  · rw [List.map_map]
    refine (List.map_id out).symm.trans (List.map_congr_left fun d hd => ?_)
    obtain ⟨z, _, rfl⟩ := List.mem_map.mp (h.mem_iff.mp (List.mem_append_left _ hd))
    rfl
  · have := h.map unS
    rw [List.map_append, List.map_map] at this
    rwa [show (unS ∘ D.str) = id from rfl, List.map_id] at this
section
variable {P : Program} {w : World} {K : PySem.W.Frag} {mg : Str → Option Value} {base : Heap} {f ct Pt : Addr} {fd : FuncData}
/-- drawn columns -/
abbrev SCols : Wd → List Sl → (D → Prop) → Prop := fun W as φ => ∃ (a : Addr), as = [.at_ a] ∧ PotW W a ∧ ∀ cs, WCols cs → φ (.tup (cs.map eCol))
def pool5 : List Str := ["a", "b", "c", "d", "name"]
theorem pool5_nd : pool5.Nodup := by decide +kernel
theorem pool5_nm : pool5.all nameS = true := by decide +kernel
def kinds2 : List D := [.str "int", .str "text"]
theorem all2_cols {ns : List Str} {cds : List D} (h : All2 (fun (x : Str) d => ∃ k, kindOk k ∧ d = D.tup [.str x, .str k]) ns cds) : ∃ cs : Cols, cds = cs.map eCol ∧ cs.map (·.1) = ns ∧ ∀ c ∈ cs, kindOk c.2 := by
  induction h with
  | nil => exact ⟨[], rfl, rfl, fun _ h => nomatch h⟩
  | cons a t ih =>
    obtain ⟨k, hk, rfl⟩ := a
    obtain ⟨cs, rfl, rfl, h3⟩ := ih
    exact ⟨(_, k) :: cs, rfl, rfl, fun c hc => (List.mem_cons.mp hc).elim (fun e => e ▸ hk) (h3 c)⟩
theorem sc60 : FnScope ["pot", "names", "name"] ["pot"] (defScope (top 60)) := ⟨rfl, rfl, rfl, by decide +kernel, rfl, by decide +kernel, by decide +kernel⟩
theorem ok60 (hB : Bns mg) (c__law_take : Cal P w K mg base 1 "_law_take" ["pot", "upto"] 1 STake) (c__law_of : Cal P w K mg base 2 "_law_of" ["pot", "some"] 1 SOf) (c_some : Cal P w K mg base 2 "_law_some" ["pot", "pool", "many"] 64 SSome) (F : FnP K "_law_state_columns_drawn" (top 60) f fd) : FnOk P w K mg base CX0 3 f fd ["pot"]  (spF K 70 SCols) := by
  refine fn_ok F sc60 (fun W as φ h => by obtain ⟨a, h, _⟩ := h; rw [h]; rfl) (by decide) fun cdv A outer s H E W as φ n hr hS hn => ?_
  obtain ⟨ad, rfl, hpw, hφ⟩ := hS
  have hcall : ∀ ss, (∃ r, ss = .at_ ad :: r ∧ ∃ d r2, r = .dat d :: r2 ∧ Is (.lst (pool5.map .str)) d ∧ ∃ d' r3, r2 = .dat d' :: r3 ∧ Rg (1 + 0) (1 + (3 - 1)) d' ∧ Is [] r3) → SSome W ss (fun d => ∃ ns rs : List Str, d = .lst (ns.map .str) ∧ (ns ++ rs).Perm pool5 ∧ ns.length ≤ 3) := fun ss h => by
    obtain ⟨r, rfl, d, r2, rfl, rfl, d', r3, rfl, ⟨v, rfl, v1, v2⟩, rfl⟩ := h
    have ev : v = (v.toNat : Int) := by omega
    refine ⟨ad, pool5.map .str, v.toNat, by rw [← ev], hpw, by decide, by show v.toNat ≤ 5; omega, fun out rest hp hl => ?_⟩
    obtain ⟨ns, rs, rfl, h2⟩ := perm_strs hp
    exact ⟨ns, rs, rfl, h2, by rw [List.length_map] at hl; omega⟩
  refine ss_cons (sm_set (c := 65) sc60.nd (i := 1) rfl (by first | exact Or.inl rfl | exact Or.inr rfl) (by exact Ev.cost (by exact ev_call c_some (by exact hr.mono (by decide)) (by rfl) (by exact es_at (i := 0) rfl (by first | exact Or.inl rfl | exact Or.inr (Or.inl rfl) | exact Or.inr (Or.inr rfl)) rfl (by exact es_cons (φ := Is (.lst (pool5.map .str))) (by exact Ev.to (by exact ev_lstJ (by exact es_consI (by exact ev_str) (by exact es_consI (by exact ev_str) (by exact es_consI (by exact ev_str) (by exact es_consI (by exact ev_str) (by exact es_consI (by exact ev_str) (by exact es_nil)))))) (by rfl) (by rfl)) (by rfl)) (by exact es_cons (by exact ev_radd (by exact ev_rint) (by exact ev_take hB c__law_take (by exact hr.mono (by first | decide | omega)) (by rfl) hpw (i := 0) rfl (by first | exact Or.inl rfl | exact Or.inr (Or.inl rfl) | exact Or.inr (Or.inr rfl)) rfl (by exact ev_int) (by decide) (by decide))) es_nil))) hcall) (by decide)) (by omega) (fun d hd => ?_))
  obtain ⟨ns, rs, rfl, hp, hl3⟩ := hd
  have hnd : ns.Nodup := (List.nodup_append.mp (hp.nodup_iff.mpr pool5_nd)).1
  have hnm : ∀ z ∈ ns, nameS z = true := fun z hz => List.all_eq_true.mp pool5_nm z (hp.mem_iff.mp (List.mem_append_left _ hz))
  have hm : ∀ sl, (∃ es, sl = Sl.ml es ∧ All2 (fun (x : Str) d => ∃ k, kindOk k ∧ d = D.tup [.str x, .str k]) (ns.filter fun _ => true) es) → ∃ cs : Cols, datOf sl = D.lst (cs.map eCol) ∧ WCols cs := fun sl ⟨es, e, h⟩ => by
    rw [List.filter_eq_self.mpr (fun _ _ => rfl)] at h
    obtain ⟨cs, rfl, e2, h3⟩ := all2_cols h
    have hlen : cs.length = ns.length := by rw [← e2, List.length_map]
    exact ⟨cs, by rw [e]; rfl, by omega, fun c hc => hnm _ (e2 ▸ List.mem_map.mpr ⟨c, hc, rfl⟩), h3, by rw [e2]; exact hnd⟩
  have ht2 : ∀ d : D, (∃ cs : Cols, d = .lst (cs.map eCol) ∧ WCols cs) → ∃ ds, (d = .lst ds ∨ d = .tup ds) ∧ ∃ cs : Cols, D.tup ds = .tup (cs.map eCol) ∧ WCols cs := fun d ⟨cs, e, h⟩ => ⟨_, .inl e, cs, rfl, h⟩
  have hof : SOf W [.at_ ad, .dat (.lst kinds2)] (fun d => ∃ k, kindOk k ∧ d = .str k) := ⟨ad, kinds2, rfl, hpw, by decide, by decide, fun d hd => by
    rcases List.mem_cons.mp hd with rfl | hd
    · exact ⟨_, .inl rfl, rfl⟩
    · rcases List.mem_cons.mp hd with rfl | hd
      · exact ⟨_, .inr rfl, rfl⟩
      · cases hd⟩
  have htup : ∀ (x : Str) ss, (∃ d r, ss = Sl.dat d :: r ∧ Is (D.str x) d ∧ ∃ d' r', r = .dat d' :: r' ∧ (∃ k, kindOk k ∧ d' = D.str k) ∧ Is [] r') → ∃ ds, ss = ds.map Sl.dat ∧ ds.length ≤ sizeLine ∧ ∃ k, kindOk k ∧ D.tup ds = D.tup [.str x, .str k] := fun x ss h => by
    obtain ⟨_, r, rfl, rfl, _, r', rfl, ⟨k, hk, rfl⟩, rfl⟩ := h
    exact ⟨[.str x, .str k], rfl, (by show 2 ≤ sizeLine; decide), k, hk, rfl⟩
  have hl : ns.length ≤ 4000 := by omega
  have hcost : 0 + ns.length * 1 ≤ 3 := by omega
  have hret : ∀ d : D, (∃ cs : Cols, d = .tup (cs.map eCol) ∧ WCols cs) → φ d := fun d ⟨cs, e, h⟩ => by rw [e]; exact hφ cs h
  refine ss_one (sm_ret (φ := fun d => ∃ cs : Cols, d = .tup (cs.map eCol) ∧ WCols cs) (by exact ev_tupleL (by rfl) (by exact hB _ (by decide +kernel)) (by exact ev_of_m (by exact em_lc (own := [("name", 2)]) (xs := ns) (enc := D.str) (φ := fun (x : Str) d => ∃ k, kindOk k ∧ d = D.tup [.str x, .str k]) (p := fun _ => true) (c0 := 0) (c1 := 1) (c := 3) (by rfl) sc60.nd (blkOk_by (N := ["pot", "names", "name"]) (sc := defScope (top 60)) (by decide +kernel)) (by exact EvI.z (by exact ei_lstI (by exact ev_var (i := 1) rfl (by first | exact Or.inl rfl | exact Or.inr (Or.inl rfl) | exact Or.inr (Or.inr rfl)) rfl)) (by rfl)) (fun x => [(2, .str x)]) (fun x hx => by exact ⟨fun s1 H1 C1 cl1 fp1 => ⟨(by exact Tg.to (by exact tg_name (i := 2) sc60.nd rfl (by first | exact Or.inl rfl | exact Or.inr rfl)) (by rfl)), ets_nil, fun _ => by exact Ev.cost (by exact ev_tup (by exact es_cons (φ := Is (D.str x)) (by exact ev_var (i := 2) rfl (by first | exact Or.inl rfl | exact Or.inr (Or.inl rfl) | exact Or.inr (Or.inr rfl)) rfl) (by exact es_cons (by exact ev_pcall c__law_of (by exact hr.mono (by decide)) (by rfl) (i := 0) rfl (by first | exact Or.inl rfl | exact Or.inr (Or.inl rfl) | exact Or.inr (Or.inr rfl)) rfl (by exact es_consI (by exact Ev.to (by exact ev_lstJ (by exact es_consI (by exact ev_str) (by exact es_consI (by exact ev_str) (by exact es_nil))) (by rfl) (by rfl)) (by rfl)) es_nil) hof) es_nil)) (htup x)) (by decide)⟩, by simp⟩) hl hcost) hm) ht2) (by omega) fun d hd => ⟨hret d hd, by omega⟩)
end
end K5
namespace K5
open PySem PySem.Spec PyProof.Rows L2 Qq
section
variable {P : Program} {w : World} {K : PySem.W.Frag} {mg : Str → Option Value} {base : Heap} {f ct Pt : Addr} {fd : FuncData}
/-- the places of the cells: one or two -/
abbrev SCells : Wd → List Sl → (D → Prop) → Prop := fun W as φ => ∃ ns : List D, as = [.dat (.lst ns), .dat (.int 2)] ∧ ∀ m : Nat, 1 ≤ m → m ≤ 2 → φ (.lst (rangeD 0 m))
theorem sc46 : FnScope ["script", "most"] ["script", "most"] (defScope (top 46)) := ⟨rfl, rfl, rfl, by decide +kernel, rfl, by decide +kernel, by decide +kernel⟩
theorem ok46 (hB : Bns mg) (F : FnP K "_law_cells" (top 46) f fd) : FnOk P w K mg base CX0 1 f fd ["script", "most"]  (spF K 0 SCells) := by
  refine fn_ok F sc46 (fun W as φ h => by obtain ⟨ns, rfl, _⟩ := h; rfl) (by decide) fun cdv A outer s H E W as φ n hr hS hn => ?_
  obtain ⟨ns, rfl, hφ⟩ := hS
  have hv : ∀ L : Int, 0 ≤ L → 1 ≤ (if (if L < 2 then L else 2) > 1 then (if L < 2 then L else 2) else 1) ∧ (if (if L < 2 then L else 2) > 1 then (if L < 2 then L else 2) else 1) ≤ 2 := fun L h => by
    by_cases h1 : L < 2
    · rw [if_pos h1]
      by_cases h2 : L > 1
      · rw [if_pos h2]; omega
      · rw [if_neg h2]; omega
    · rw [if_neg h1]; decide
  have hL := hv (ns.length : Int) (Int.natCast_nonneg _)
  generalize hq : (if (if (ns.length : Int) < 2 then (ns.length : Int) else 2) > 1 then (if (ns.length : Int) < 2 then (ns.length : Int) else 2) else 1) = q at hL
  have h0 : 0 ≤ q := by omega
  have h1 : q ≤ 16777216 := by omega
  refine ss_one (sm_ret (by exact ev_listRg (by rfl) (by rfl) (by exact hB _ (by decide +kernel)) (by rfl) (by exact hB _ (by decide +kernel)) (by exact Ev.to (by exact ev_max2 (by rfl) (by rfl) (by exact hB _ (by decide +kernel)) (by exact es_consI (by exact ev_int) (by exact es_consI (by exact ev_min2 (by rfl) (by rfl) (by exact hB _ (by decide +kernel)) (by exact es_consI (by exact ev_var (i := 1) rfl (by first | exact Or.inl rfl | exact Or.inr (Or.inl rfl) | exact Or.inr (Or.inr rfl)) rfl) (by exact es_consI (by exact ev_len (by rfl) (by exact hB _ (by decide +kernel)) (by exact ev_var (i := 0) rfl (by first | exact Or.inl rfl | exact Or.inr (Or.inl rfl) | exact Or.inr (Or.inr rfl)) rfl) (by first | rfl | assumption | trivial | omega) (by first | rfl | assumption | trivial | omega)) (by exact es_nil)))) (by exact es_nil)))) (by exact congrArg D.int hq)) h0 h1) (by omega) fun d hd => ?_)
  obtain rfl := hd
  exact ⟨hφ q.toNat (by omega) (by omega), by omega⟩
end
end K5
namespace K5
open PySem PySem.Spec PyProof.Rows L2 Qq
section
variable {P : Program} {w : World} {K : PySem.W.Frag} {mg : Str → Option Value} {base : Heap} {f ct Pt : Addr} {fd : FuncData}
/-- the keys of a told state -/
def keysOf (st : Stt) : List Int := asc (st.flatMap fun p => p.2.map fun r => r.1)
abbrev SKeysOf := SP (fun _ (x : Stt) => x.length ≤ 6 ∧ (∀ p ∈ x, p.2.length ≤ 4000) ∧ ∃ pool : List Int, pool.length < 64 ∧ ∀ p ∈ x, ∀ r ∈ p.2, r.1 ∈ pool) (fun x => [eStt x]) fun x => .tup ((keysOf x).map .int)
theorem sc34 : FnScope ["state", "_", "rows", "row"] ["state"] (defScope (top 34)) := ⟨rfl, rfl, rfl, by decide +kernel, rfl, by decide +kernel, by decide +kernel⟩
theorem ok34 (hB : Bns mg) (F : FnP K "keys_of" (top 34) f fd) : FnOk P w K mg base CX0 1 f fd ["state"]  (spF K 0 SKeysOf) := by
  refine fn_ok F sc34 (fun W as φ h => by obtain ⟨x, rfl, _⟩ := h; rfl) (by decide) fun cdv A outer s H E W as φ n hr hS hn => ?_
  obtain ⟨st, rfl, ⟨hl, hl2, pool, hp1, hp2⟩, hφ⟩ := hS
  refine ss_retE (d := .tup ((keysOf st).map .int)) (by exact ev_tupleI (by rfl) (by exact hB _ (by decide +kernel)) (by exact ev_up (c := 0) (by exact nom_of (by rfl)) (by exact ev_sortedSet2 (ows := [("_", 1), ("rows", 2), ("row", 3)]) (ws1 := [3]) (xs := st) (enc := ePart) (ys := fun p => p.2) (enc1 := eRow) (f := fun _ r => r.1) (pool := pool) (by rfl) sc34.nd (blkOk_by (N := ["state", "_", "rows", "row"]) (sc := defScope (top 34)) (by decide +kernel)) (by decide) (by rfl) (by exact hB _ (by decide +kernel)) (fun p => [(1, .str p.1), (2, eRows p.2)]) (fun _ r => [(3, eRow r)]) (by exact EvI.z (by exact ei_tupI (by exact ev_var (i := 0) rfl (by first | exact Or.inl rfl | exact Or.inr (Or.inl rfl) | exact Or.inr (Or.inr rfl)) rfl)) (by rfl)) (fun x hx => by exact ⟨fun s1 H1 C1 cl1 fp1 => ⟨(by exact Tg.to (by exact tg_tup (by rfl) (by exact tl_cons (by exact tg_name (i := 1) sc34.nd rfl (by first | exact Or.inl rfl | exact Or.inr rfl)) (by exact tl_cons (by exact tg_name (i := 2) sc34.nd rfl (by first | exact Or.inl rfl | exact Or.inr rfl)) (by exact tl_nil)))) (by rfl)), (by exact EvI.z (by exact ei_tupI (by exact ev_var (i := 2) rfl (by first | exact Or.inl rfl | exact Or.inr (Or.inl rfl) | exact Or.inr (Or.inr rfl)) rfl)) (by rfl))⟩, by simp⟩) (fun x hx y hy => by exact ⟨fun s1 H1 C1 cl1 fp1 => ⟨(by exact Tg.to (by exact tg_name (i := 3) sc34.nd rfl (by first | exact Or.inl rfl | exact Or.inr rfl)) (by rfl)), (by exact Ev.to (by exact Ev.z (by exact (by first | exact ev_ixTI (by exact ev_var (i := 3) rfl (by first | exact Or.inl rfl | exact Or.inr (Or.inl rfl) | exact Or.inr (Or.inr rfl)) rfl) (by exact ev_int) (by first | rfl | assumption | trivial | omega) | exact ev_ixLI (by exact ev_var (i := 3) rfl (by first | exact Or.inl rfl | exact Or.inr (Or.inl rfl) | exact Or.inr (Or.inr rfl)) rfl) (by exact ev_int) (by first | rfl | assumption | trivial | omega))) (by rfl)) (by rfl))⟩, by simp⟩) (fun p hp r hr => hp2 p hp r hr) hp1))) (by omega) rfl ⟨hφ, by omega⟩
end
end K5
namespace K5
open PySem PySem.Spec PyProof.Rows L2 Qq
section
variable {P : Program} {w : World} {K : PySem.W.Frag} {mg : Str → Option Value} {base : Heap} {f ct Pt : Addr} {fd : FuncData}
theorem sc50 : FnScope ["columns", "value", "one", "name", "kind"] ["columns", "value"] (defScope (top 50)) := ⟨rfl, rfl, rfl, by decide +kernel, rfl, by decide +kernel, by decide +kernel⟩
theorem ok50 (hB : Bns mg) (c__law_state_is_of : Cal P w K mg base 2 "_law_state_is_of" ["value", "kind"] 0  (SQ2 valP fun _ _ => .bl true)) (F : FnP K "_law_state_are_values" (top 50) f fd) : FnOk P w K mg base CX0 3 f fd ["columns", "value"]  (spF K 0 SAreVals) := by
  refine fn_ok F sc50 (fun W as φ h => by obtain ⟨x, rfl, _⟩ := h; rfl) (by decide) fun cdv A outer s H E W as φ n hr hS hn => ?_
  obtain ⟨⟨cs, vs⟩, rfl, ⟨wf, hv⟩, hφ⟩ := hS
  have hl6 := wf.len
  have hlen : vs.length = cs.length := hv.1
  have hlz : (vs.zip cs).length ≤ 4000 := by rw [List.length_zip, hlen]; exact Nat.le_trans (Nat.min_le_left _ _) (Nat.le_trans hl6 (by decide))
  refine ss_ifF (z := _) (by exact et_pw (by exact (by first | exact et_orT' (by exact et_not (by exact et_v (by exact ev_isTup (by rfl) (by exact hB _ (by decide +kernel)) (by rfl) (by exact hB _ (by decide +kernel)) (by exact ev_var (i := 1) rfl (by first | exact Or.inl rfl | exact Or.inr (Or.inl rfl) | exact Or.inr (Or.inr rfl)) rfl)))) (by first | rfl | assumption) | exact et_or (by exact et_not (by exact et_v (by exact ev_isTup (by rfl) (by exact hB _ (by decide +kernel)) (by rfl) (by exact hB _ (by decide +kernel)) (by exact ev_var (i := 1) rfl (by first | exact Or.inl rfl | exact Or.inr (Or.inl rfl) | exact Or.inr (Or.inr rfl)) rfl)))) (fun hb => by exact eW_or1 (by exact et_ne (by exact ev_len (by rfl) (by exact hB _ (by decide +kernel)) (by exact ev_var (i := 1) rfl (by first | exact Or.inl rfl | exact Or.inr (Or.inl rfl) | exact Or.inr (Or.inr rfl)) rfl) (by first | rfl | assumption | trivial | omega) (by first | rfl | assumption | trivial | omega)) (by exact ev_len (by rfl) (by exact hB _ (by decide +kernel)) (by exact ev_var (i := 0) rfl (by first | exact Or.inl rfl | exact Or.inr (Or.inl rfl) | exact Or.inr (Or.inr rfl)) rfl) (by first | rfl | assumption | trivial | omega) (by first | rfl | assumption | trivial | omega)) (by first | rfl | assumption | trivial | omega)))))) (by show (!true || !eqS (.int (vs.length : Nat)) (.int ((cs.map eCol).length : Nat))) = false; rw [eq_len (by rw [List.length_map]; exact hlen)]; rfl) (by omega) ?_
  have hz : zipD vs (cs.map eCol) = (vs.zip cs).map fun p => .tup [p.1, eCol p.2] := by have := zip_gen id eCol vs cs; rwa [List.map_id] at this
  refine ss_retE (by exact ev_allT (by rfl) (by rfl) (by exact hB _ (by decide +kernel)) (by exact ev_lcB (F := fun _ => true) (own := [("one", 2), ("name", 3), ("kind", 4)]) (xs := vs.zip cs) (enc := fun p => .tup [p.1, eCol p.2]) (fun x => [(2, x.1), (3, .str x.2.1), (4, .str x.2.2)]) (by rfl) sc50.nd (blkOk_by (N := ["columns", "value", "one", "name", "kind"]) (sc := defScope (top 50)) (by decide +kernel)) (by exact EvI.to (by exact EvI.z (by exact ei_zipM (by rfl) (by exact hB _ (by decide +kernel)) (by exact es_consI (by exact ev_var (i := 1) rfl (by first | exact Or.inl rfl | exact Or.inr (Or.inl rfl) | exact Or.inr (Or.inr rfl)) rfl) (by exact es_consI (by exact ev_var (i := 0) rfl (by first | exact Or.inl rfl | exact Or.inr (Or.inl rfl) | exact Or.inr (Or.inr rfl)) rfl) (by exact es_nil)))) (by rfl)) hz) (fun x hx => by obtain ⟨i, h5, h6⟩ := zip_mem hx; have h1 : valP x.1 (.str x.2.2) := ⟨x.2.2, rfl, wf.kd _ (List.mem_of_getElem? h6), hv.2 i _ _ h6 h5⟩; exact ⟨fun s1 H1 C1 cl1 fp1 => ⟨(by exact Tg.to (by exact tg_tup (by rfl) (by exact tl_cons (by exact tg_name (i := 2) sc50.nd rfl (by first | exact Or.inl rfl | exact Or.inr rfl)) (by exact tl_cons (by exact tg_tup (by rfl) (by exact tl_cons (by exact tg_name (i := 3) sc50.nd rfl (by first | exact Or.inl rfl | exact Or.inr rfl)) (by exact tl_cons (by exact tg_name (i := 4) sc50.nd rfl (by first | exact Or.inl rfl | exact Or.inr rfl)) (by exact tl_nil)))) (by exact tl_nil)))) (by rfl)), (by exact Ev.to (by exact Ev.z (by exact ev_c2 (by exact c__law_state_is_of) (by exact hr.mono (by first | decide | omega)) (by rfl) (by exact es_consI (by exact ev_var (i := 2) rfl (by first | exact Or.inl rfl | exact Or.inr (Or.inl rfl) | exact Or.inr (Or.inr rfl)) rfl) (by exact es_consI (by exact ev_var (i := 4) rfl (by first | exact Or.inl rfl | exact Or.inr (Or.inl rfl) | exact Or.inr (Or.inr rfl)) rfl) (by exact es_nil))) (by first | rfl | assumption | trivial | omega) (by rfl)) (by rfl)) (by rfl))⟩, by simp⟩) (by first | rfl | assumption | trivial | omega))) (by omega) ?_ ⟨hφ, by omega⟩
  rfl

end
end K5
namespace K5
open PySem PySem.Spec PyProof.Rows L2 Qq
theorem hu100 {k : Nat} {A : Around} (h : Room k A) : A.units + 100 < cLine := by have := h.un; omega
theorem get_ownC (o : Own) : getK [(Sum.inr "columns", .dct (oC o)), (Sum.inr "rows", .dct (oR o))] (Sum.inr "columns") = some (.dct (oC o)) := by simp [getK]
theorem get_oC {o : Own} {x : Str} (h : x ∈ oN o) : getK (oC o) (Sum.inr x) = some (.lst ((colsOf o x).map eCol)) := by
  induction o with
  | nil => cases h
  | cons t o ih =>
    by_cases q : t.1 = x
    · simp [getK, oC, colsOf, q]
    · have e : ¬ (Sum.inr t.1 : Key) = Sum.inr x := fun z => q (Sum.inr.inj z)
      have h' : x ∈ oN o := (List.mem_cons.mp h).resolve_left fun z => q z.symm
      simp only [getK, oC, colsOf, List.map_cons, List.find?_cons, decide_eq_false e, decide_eq_false q] at ih ⊢
      exact ih h'
/-- the schema of an own state -/
def schOf (o : Own) : Sch := (sortT (oN o)).map fun x => (x, colsOf o x)
def recs (o : Own) : List Rec := o.map fun t => (t.1, t.2.1)
theorem recs_fst (o : Own) : (recs o).map (·.1) = oN o := by unfold recs oN; rw [List.map_map]; rfl
theorem look_recs (o : Own) (x : Str) : lookR (recs o) x = colsOf o x := by
  unfold lookR colsOf recs
  rw [List.find?_map, Option.map_map]; rfl
theorem sch_recs (o : Own) : ((sortT ((recs o).map (·.1))).map fun x => (x, lookR (recs o) x)).map eT = (schOf o).map eTab := by
  rw [recs_fst]
  unfold schOf
  rw [List.map_map, List.map_map]
  refine List.map_congr_left fun x _ => ?_
  show eT (x, lookR (recs o) x) = eTab (x, colsOf o x)
  rw [look_recs]; rfl
theorem items_oC (o : Own) : prsD (oC o) = o.map fun t => D.tup [.str t.1, .lst (t.2.1.map eCol)] := by unfold prsD oC; rw [List.map_map]; rfl
section
variable {P : Program} {w : World} {K : PySem.W.Frag} {mg : Str → Option Value} {base : Heap} {f ct Pt : Addr} {fd : FuncData}
abbrev SSch := SP (fun _ (x : Own) => WOwn x) (fun x => [eOwn x]) fun x => eSch (schOf x)
theorem sc52 : FnScope ["own", "table", "some"] ["own"] (defScope (top 52)) := ⟨rfl, rfl, rfl, by decide +kernel, rfl, by decide +kernel, by decide +kernel⟩
theorem ok52 (hB : Bns mg) (F : FnP K "_law_state_schema" (top 52) f fd) : FnOk P w K mg base CX0 1 f fd ["own"]  (spF K 0 SSch) := by
  refine fn_ok F sc52 (fun W as φ h => by obtain ⟨x, rfl, _⟩ := h; rfl) (by decide) fun cdv A outer s H E W as φ n hr hS hn => ?_
  obtain ⟨o, rfl, wo, hφ⟩ := hS
  have hgo := get_ownC o
  have hl6 := wo.len
  have hl : o.length ≤ 4000 := by omega
  have hit := items_oC o
  have hnd : ((recs o).map (·.1)).Nodup := by rw [recs_fst]; exact wo.nd
  refine ss_retE (by exact ev_tupleI (by rfl) (by exact hB _ (by decide +kernel)) (by exact ev_sortedRec (bs := recs o) (hu100 hr) (by rfl) (by exact hB _ (by decide +kernel)) hnd (by exact Ev.to (by exact ev_lcF (own := [("table", 1), ("some", 2)]) (xs := o) (enc := fun t => D.tup [.str t.1, .lst (t.2.1.map eCol)]) (fun x => [(1, .str x.1), (2, .lst (x.2.1.map eCol))]) (by rfl) sc52.nd (blkOk_by (N := ["own", "table", "some"]) (sc := defScope (top 52)) (by decide +kernel)) (by exact EvI.to (by exact EvI.z (by exact ei_items (by exact ev_dget (k := Sum.inr "columns") (by exact hu_of hr) (by exact ev_var (i := 0) rfl (by first | exact Or.inl rfl | exact Or.inr (Or.inl rfl) | exact Or.inr (Or.inr rfl)) rfl) (by exact ev_str) (by first | rfl | assumption | trivial | omega))) (by rfl)) hit) (fun x hx => by exact ⟨fun s1 H1 C1 cl1 fp1 => ⟨(by exact Tg.to (by exact tg_tup (by rfl) (by exact tl_cons (by exact tg_name (i := 1) sc52.nd rfl (by first | exact Or.inl rfl | exact Or.inr rfl)) (by exact tl_cons (by exact tg_name (i := 2) sc52.nd rfl (by first | exact Or.inl rfl | exact Or.inr rfl)) (by exact tl_nil)))) (by rfl)), (by exact Ev.to (by exact Ev.z (by exact ev_tupJ (by exact es_consI (by exact ev_var (i := 1) rfl (by first | exact Or.inl rfl | exact Or.inr (Or.inl rfl) | exact Or.inr (Or.inr rfl)) rfl) (by exact es_consI (by exact ev_tupleI (by rfl) (by exact hB _ (by decide +kernel)) (by exact ev_var (i := 2) rfl (by first | exact Or.inl rfl | exact Or.inr (Or.inl rfl) | exact Or.inr (Or.inr rfl)) rfl)) (by exact es_nil))) (by rfl) (by rfl)) (by rfl)) (by rfl))⟩, by simp⟩) (by first | rfl | assumption | trivial | omega)) (by unfold recs; rw [List.map_map]; rfl)))) (by omega) (by rw [sch_recs]; rfl) ⟨hφ, by omega⟩
end
end K5
namespace K5
open PySem PySem.Spec PyProof.Rows L2 Qq
/-- the keys of an own state, table by table -/
def keysL (o : Own) : List Int := o.flatMap fun t => t.2.2.map fun r => r.1
theorem vals_oR (o : Own) : (oR o).map (·.2) = o.map fun t => dRows t.2.2 := by unfold oR; rw [List.map_map]; rfl
theorem kD_kRows (rs : Rws) : (kRows rs).map (fun q => kD q.1) = (rs.map fun r => r.1).map D.int := by unfold kRows; rw [List.map_map, List.map_map]; rfl
theorem take_len_flat {α β : Type} (f : α → List β) : ∀ (l : List α) (k : Nat), ((l.take k).flatMap f).length ≤ (l.flatMap f).length
  | [], k => by simp
  | a :: l, 0 => by simp
  | a :: l, k + 1 => by
    have := take_len_flat f l k
    rw [List.take_succ_cons, List.flatMap_cons, List.flatMap_cons, List.length_append, List.length_append]; omega
section
variable {P : Program} {w : World} {K : PySem.W.Frag} {mg : Str → Option Value} {base : Heap} {f ct Pt : Addr} {fd : FuncData}
abbrev SKeysO := SP (fun _ (x : Own) => WOwn x ∧ (keysL x).length < 64) (fun x => [eOwn x]) fun x => .lst ((asc (keysL x)).map .int)
theorem sc57 : FnScope ["own", "found", "rows"] ["own"] (defScope (top 57)) := ⟨rfl, rfl, rfl, by decide +kernel, rfl, by decide +kernel, by decide +kernel⟩
theorem ok57 (hB : Bns mg) (F : FnP K "_law_state_keys" (top 57) f fd) : FnOk P w K mg base CX0 1 f fd ["own"]  (spF K 0 SKeysO) := by
  refine fn_ok F sc57 (fun W as φ h => by obtain ⟨x, rfl, _⟩ := h; rfl) (by decide) fun cdv A outer s H E W as φ n hr hS hn => ?_
  obtain ⟨o, rfl, ⟨wo, h64⟩, hφ⟩ := hS
  have hgo := get_own o
  have hl6 := wo.len
  refine ss_cons (sm_setM (i := 1) sc57.nd rfl (by first | exact Or.inl rfl | exact Or.inr rfl) em_nil (by omega) fun sl e => ?_)
  subst e
  refine ss_cons (sm_for (xs := o) (enc := fun t => dRows t.2.2) (by exact PassesOwn.never) (by rfl) (by exact EvI.z (by exact EvI.to (by exact ei_values (by exact ev_dget (k := Sum.inr "rows") (by exact hu_of hr) (by exact ev_var (i := 0) rfl (by first | exact Or.inl rfl | exact Or.inr (Or.inl rfl) | exact Or.inr (Or.inr rfl)) rfl) (by exact ev_str) (by first | rfl | assumption | trivial | omega))) (vals_oR o)) (by rfl)) (by omega)
    (fun k Γ' n' => ∃ a, Γ' = [.dat (eOwn o), .ml (((o.take k).flatMap fun t => t.2.2.map fun r => r.1).map D.int), a] ∧ n' ≤ n) ⟨_, rfl, by omega⟩ ?_ ?_)
  · rintro k t Γ' n' hk ⟨a, rfl, hle⟩
    have hm : t ∈ o := List.mem_of_getElem? hk
    have hrl := wo.rl t hm
    have hfl := take_len_flat (fun t : Str × Cols × Rws => t.2.2.map fun r => r.1) o k
    unfold keysL at h64
    refine ⟨_, (by exact tg_name (i := 2) sc57.nd rfl (by first | exact Or.inl rfl | exact Or.inr rfl)), ?_⟩
    refine ss_one (sm_extend (i := 1) (zs := (t.2.2.map fun r => r.1).map D.int) (by rfl) (by first | exact Or.inl rfl | exact Or.inr (Or.inl rfl) | exact Or.inr (Or.inr rfl)) (by rfl) (by rw [← kD_kRows]; exact em_listD (by rfl) (by rfl) (by exact hB _ (by decide +kernel)) (by exact (by exact ev_var (i := 2) rfl (by first | exact Or.inl rfl | exact Or.inr (Or.inl rfl) | exact Or.inr (Or.inr rfl)) rfl))) (by omega) (by rw [List.length_map, List.length_map, List.length_map]; omega) ?_)
    exact ⟨_, by rw [take_flat _ hk, List.map_append]; rfl, by omega⟩
  · rintro Γ' n' ⟨a, rfl, hle⟩
    rw [List.take_length]
    refine ss_frzL (i := 1) rfl ?_
    refine ss_retE (by exact ev_sortedSetL (by rfl) (by rfl) (by exact hB _ (by decide +kernel)) (by rfl) (by exact hB _ (by decide +kernel)) h64 (by exact (by exact ev_var (i := 1) rfl (by first | exact Or.inl rfl | exact Or.inr (Or.inl rfl) | exact Or.inr (Or.inr rfl)) rfl))) (by omega) rfl ⟨hφ, by omega⟩
end
end K5
/-! N1: statements beside a nest of own objects. -/
namespace K5
open PySem PySem.Spec PyProof.Rows L2 Qq
/-! ### a family of what is held outside of the region -/
abbrev Fam (ι : Type) := ι → Hp → Hp → Hp → Prop
structure Stb {ι : Type} (W : Wd) (F : Fam ι) : Prop where
  gr : ∀ {i : ι} {H0 R H R' H' : Hp}, Gr W R H R' H' → F i H0 R H → F i H0 R' H'
  re : ∀ {i : ι} {R0 H0 R H R' H' : Hp}, Gr W R0 H0 R H → F i H R' H' → F i H0 R' H'
structure PsN (ι : Type) where
  nx : List Sl → Nat → ι → Prop
  rt : D → Nat → Prop
  rm : Hp → Hp → Hp → V → Nat → Prop := fun _ _ _ _ _ => False
structure EnsN {ι : Type} (W : Wd) (K : PySem.W.Frag) (R0 H0 Rl : Hp) (F : Fam ι) (E : Ends) (P : PsN ι) : Prop where
  nx : ∀ Γ n i R σ H, So W K R0 H0 Rl Γ R n σ H → F i H0 R H → P.nx Γ n i → E.nx σ H
  rt : ∀ d n R v H, Gr W R0 H0 R H → Same Rl R → W.J n H → (∀ b, W.B b → R b = none) → Rp K R v d → P.rt d n → E.rt v H
  rm : ∀ n R v H, Gr W R0 H0 R H → Same Rl R → W.J n H → (∀ b, W.B b → R b = none) → P.rm H0 R H v n → E.rt v H
def SmN {ι : Type} (W : Wd) (X : Cx) (F : Fam ι) (st : Stmt) (Γ : List Sl) (n : Nat) (i : ι) (P : PsN ι) : Prop := ∀ R0 H0 Rl R σ H E, So W X.K R0 H0 Rl Γ R n σ H → F i H0 R H → EnsN W X.K R0 H0 Rl F E P → wS X st E σ H
def SmsN {ι : Type} (W : Wd) (X : Cx) (F : Fam ι) (sts : List Stmt) (Γ : List Sl) (n : Nat) (i : ι) (P : PsN ι) : Prop := ∀ R0 H0 Rl R σ H E, So W X.K R0 H0 Rl Γ R n σ H → F i H0 R H → EnsN W X.K R0 H0 Rl F E P → wSs X sts E σ H
def EvTN {ι : Type} (W : Wd) (X : Cx) (F : Fam ι) (e : Expr) (Γ : List Sl) (c : Nat) (i : ι) (φ : Bool → Prop) : Prop := ∀ R0 H0 Rl σ R n H, So W X.K R0 H0 Rl Γ R n σ H → F i H0 R H → n + c ≤ LIM → ∀ Q : Bool → Hp → Prop,
  (∀ b R' H', Gr W R H R' H' → W.J (n + c) H' → φ b → Q b H') → wT X e σ H Q
def EvN {ι : Type} (W : Wd) (X : Cx) (e : Expr) (Γ : List Sl) (c : Nat) (F : Addr → Fam ι) (φ : ι → Prop) : Prop := ∀ R0 H0 Rl σ R n H, So W X.K R0 H0 Rl Γ R n σ H → n + c ≤ LIM → ∀ Q : VK,
  (∀ p i R' H', Gr W R H R' H' → W.J (n + c) H' → F p i H R' H' → φ i → Q (.ref p) H') → wE X e σ H Q
theorem _root_.Qq.So.shift {W : Wd} {K : PySem.W.Frag} {R0 H0 Rl R H R' H' : Hp} {Γ Γ' : List Sl} {n n' : Nat} {σ σ' : L2.St} (s : So W K R0 H0 Rl Γ R n σ H) (s' : So W K R H R Γ' R' n' σ' H') : So W K R0 H0 Rl Γ' R' n' σ' H' :=
  ⟨s.gr.trans s'.gr, s.lo.trans s'.lo, s'.rb, s'.j, s'.env.len, fun i t o a b => by
    have z := s'.env.ok i t o a b
    have back : ∀ p : Addr, H p = none → H0 p = none := fun p h => by
      cases q : H0 p with
      | none => rfl
      | some u => obtain ⟨u', e⟩ := s.gr.hb p u q; rw [h] at e; cases e
    cases t with
    | un => trivial
    | dat d => exact z
    | at_ a => exact z
    | ml ds => obtain ⟨p, xs, e, h1, h2, h3, h4, h5⟩ := z; exact ⟨p, xs, e, h1, back p h2, h3, h4, h5⟩
    | md ds => obtain ⟨p, xs, e, h1, h2, h3, h4, h5⟩ := z; exact ⟨p, xs, e, h1, back p h2, h3, h4, h5⟩, s'.env.dis⟩
section
variable {ι : Type} {W : Wd} {X : Cx} {F : Fam ι} {Γ : List Sl} {n c c1 c2 : Nat} {i : ι} {P : PsN ι} {st : Stmt} {sts rest x y : List Stmt} {pos : Pos} {e C : Expr}
theorem sn_nil (h : P.nx Γ n i) : SmsN W X F [] Γ n i P := fun R0 H0 Rl R σ H E s f en => wSs_of pss_nil (en.nx Γ n i R σ H s f h)
theorem sn_cons (h : SmN W X F st Γ n i ⟨fun Γ' n' i' => SmsN W X F sts Γ' n' i' P, P.rt, P.rm⟩) : SmsN W X F (st :: sts) Γ n i P := fun R0 H0 Rl R σ H E s f en => by
  refine wSs_of (pss_cons (wS_ok st) (wSs_ok sts)) ?_
  exact h R0 H0 Rl R σ H _ s f ⟨fun Γ' n' i' R' σ' H' s' f' k => k R0 H0 Rl R' σ' H' E s' f' en, en.rt, en.rm⟩
theorem sn_one (h : SmN W X F st Γ n i P) : SmsN W X F [st] Γ n i P := fun R0 H0 Rl R σ H E s f en => wSs_of (pss_one (wS_ok st)) (h R0 H0 Rl R σ H E s f en)
/-- a statement that knows nothing of the nest -/
theorem sn_of (sb : Stb W F) (nm : NoM Γ) (h : Sm W X st Γ n ⟨fun Γ' n' => P.nx Γ' n' i, P.rt, fun _ _ => False, fun _ _ => False, fun _ _ _ _ _ => False⟩) : SmN W X F st Γ n i P := fun R0 H0 Rl R σ H E s f en =>
  h R H R R σ H E (s.rebase W nm s.rb s.j) ⟨fun Γ' n' R' σ' H' s' k => en.nx Γ' n' i R' σ' H' (s.shift s') (sb.gr s'.gr f) k, fun d n' R' v H' g lo j rb r k => en.rt d n' R' v H' (s.gr.trans g) (s.lo.trans lo) j rb r k, fun _ _ _ _ _ _ z => z.elim, fun _ _ _ _ _ _ z => z.elim, fun _ _ _ _ _ _ _ _ z => z.elim⟩
theorem sns_of (sb : Stb W F) (nm : NoM Γ) (h : Sms W X sts Γ n ⟨fun Γ' n' => P.nx Γ' n' i, P.rt, fun _ _ => False, fun _ _ => False, fun _ _ _ _ _ => False⟩) : SmsN W X F sts Γ n i P := fun R0 H0 Rl R σ H E s f en =>
  h R H R R σ H E (s.rebase W nm s.rb s.j) ⟨fun Γ' n' R' σ' H' s' k => en.nx Γ' n' i R' σ' H' (s.shift s') (sb.gr s'.gr f) k, fun d n' R' v H' g lo j rb r k => en.rt d n' R' v H' (s.gr.trans g) (s.lo.trans lo) j rb r k, fun _ _ _ _ _ _ z => z.elim, fun _ _ _ _ _ _ z => z.elim, fun _ _ _ _ _ _ _ _ z => z.elim⟩
theorem etn_of {φ : Bool → Prop} (h : EvT W X C Γ c φ) : EvTN W X F C Γ c i φ := fun R0 H0 Rl σ R n H s _ hn Q k => h R0 H0 Rl σ R n H s hn Q k
theorem sn_if {ψ : Bool → Prop} (sb : Stb W F) (hc : EvTN W X F C Γ c i ψ) (hl : n + c ≤ LIM) (h1 : ψ true → SmsN W X F x Γ (n + c) i P) (h2 : ψ false → SmsN W X F y Γ (n + c) i P) : SmN W X F (.If C x y pos) Γ n i P := fun R0 H0 Rl R σ H E s f en => by
  refine wS_of (ps_if (wT_ok C) (wSs_ok x) (wSs_ok y)) ?_
  refine hc R0 H0 Rl σ R n H s f hl _ fun b R' H' g j q => ?_
  cases b with
  | true => exact iteT (h1 q R0 H0 Rl R' σ H' E (s.grow g j) (sb.gr g f) en)
  | false => exact iteF (h2 q R0 H0 Rl R' σ H' E (s.grow g j) (sb.gr g f) en)
theorem sn_for {α : Type} {xs : List α} {enc : α → D} {tg iter : Expr} {body : List Stmt} (sb : Stb W F) (hp : PassesOwn (model X.prog X.w) X.A X.env X.xe) (hc : X.calm = true) (hi : EvI W X tg iter Γ c (Is (xs.map enc))) (hl : n + c ≤ LIM) (I : Nat → List Sl → Nat → ι → Prop) (h0 : I 0 Γ (n + c) i)
    (hs : ∀ k d Γ' n' i', xs[k]? = some d → I k Γ' n' i' → ∃ as, Tg X tg (enc d) as ∧ SmsN W X F body (setG Γ' as) n' i' ⟨I (k + 1), P.rt, P.rm⟩) (hd : ∀ Γ' n' i', I xs.length Γ' n' i' → P.nx Γ' n' i')
    (hf : ∀ x, foldedSetIterable iter X.env x = pure x := by intro _; rfl) : SmN W X F (.For tg iter body [] pos) Γ n i P := fun R0 H0 Rl R σ H E s f en => by
  refine wS_of (ps_for hp hc (wI_ok tg iter) (wG_ok tg) (wSs_ok body) hf) ?_
  refine hi R0 H0 Rl σ R n H s hl _ fun J R1 H1 ds g1 j1 f1 ⟨G, Y, wk, hG, hY⟩ => ?_
  obtain rfl : ds = xs.map enc := f1
  rw [List.length_map] at wk
  have s1 := s.grow g1 j1
  refine for_it wk (fun k σ' H' => ∃ Γ' n' i' R', So W X.K R0 H0 R1 Γ' R' n' σ' H' ∧ F i' H0 R' H' ∧ I k Γ' n' i') ⟨Γ, _, i, R1, s1.relo (Same.refl _), sb.gr g1 f, h0⟩ ?_ ?_ ?_
  · rintro k σ' H' _ ⟨Γ', n', i', R', s', _⟩
    exact hG R' H' s'.lo s'.rh
  · rintro k x σ' H' H'' hk ⟨Γ', n', i', R', s', f', q⟩ y
    obtain ⟨R2, dd, g2, kp, hdd, rx⟩ := hY k R' H' x H'' (by rw [List.length_map]; exact hk) s'.lo s'.rh y
    obtain ⟨d, hd', ed⟩ : ∃ d, xs[k]? = some d ∧ enc d = dd := by
      rw [List.getElem?_map] at hdd
      cases q : xs[k]? with
      | none => rw [q] at hdd; cases hdd
      | some d => rw [q] at hdd; exact ⟨d, rfl, Option.some.inj hdd⟩
    subst ed
    obtain ⟨as, ht, hb⟩ := hs k d Γ' n' i' hd' q
    refine ht x σ' R2 H'' _ g2.rh rx fun bs hbs => ?_
    have s2 := (s'.grow g2 (W.loc s'.j fun b o _ e => kp b o e)).setAll hbs
    exact hb R0 H0 R1 R2 _ H'' _ s2 (sb.gr g2 f') ⟨fun Γ2 n2 i2 R3 σ3 H3 s3 f3 z => ⟨Γ2, n2, i2, R3, s3, f3, z⟩, fun d2 n2 R3 v H3 g lo j rb r z => en.rt d2 n2 R3 v H3 g (s1.lo.trans lo) j rb r z, fun n2 R3 v H3 g lo j rb z => en.rm n2 R3 v H3 g (s1.lo.trans lo) j rb z⟩
  · rintro σ' H' ⟨Γ', n', i', R', s', f', q⟩
    exact en.nx Γ' n' i' R' σ' H' (s'.relo (s1.lo.trans s'.lo)) f' (hd Γ' n' i' q)
/-- a slot that holds no own object -/
theorem _root_.Qq.So.setS {K : PySem.W.Frag} {R0 H0 Rl R H : Hp} {σ : L2.St} (s : So W K R0 H0 Rl Γ R n σ H) {j : Nat} {v : V} {sl : Sl} (hm : sl.isM = false) (r : SlOk K W H0 R H (some v) sl) : So W K R0 H0 Rl (Γ.set j sl) R n (σ.set j (some v)) H := by
  refine ⟨s.gr, s.lo, s.rb, s.j, by simp [s.env.len], fun k t o a b => ?_, fun k l t u p a b c e f g => ?_⟩
  · by_cases q : j = k
    · subst q
      by_cases hl : j < Γ.length
      · rw [List.getElem?_set_self hl] at a
        rw [List.getElem?_set_self (by rw [s.env.len]; exact hl)] at b
        cases a; cases b
        exact r
      · rw [List.getElem?_eq_none (by simp; omega)] at a; cases a
    · rw [List.getElem?_set_ne q] at a b
      exact s.env.ok k t o a b
  · by_cases q : j = k
    · subst q
      by_cases hl : j < Γ.length
      · rw [List.getElem?_set_self hl] at a; cases a; rw [hm] at c; cases c
      · rw [List.getElem?_eq_none (by simp; omega)] at a; cases a
    · by_cases q' : j = l
      · subst q'
        by_cases hl : j < Γ.length
        · rw [List.getElem?_set_self hl] at b; cases b; rw [hm] at e; cases e
        · rw [List.getElem?_eq_none (by simp; omega)] at b; cases b
      · rw [List.getElem?_set_ne q] at a f
        rw [List.getElem?_set_ne q'] at b g
        exact s.env.dis k l t u p a b c e f g
/-- y = e makes a nest -/
theorem ss_nest {FF : Addr → Fam ι} {φ : ι → Prop} {P : Pst} {j : Nat} {y : Str} {pos' : Pos} (sb : ∀ p, Stb W (FF p)) (hN : X.N.Nodup) (hi : X.N[j]? = some y) (hx : Loc X.env.scope y) (h : EvN W X e Γ c FF φ) (hl : n + c ≤ LIM)
    (k : ∀ p i, φ i → SmsN W X (FF p) rest (Γ.set j (.at_ p)) (n + c) i ⟨fun _ _ _ => False, P.rt, P.rm⟩) (hs : swapsWith e (some (.Name y pos')) pos.line X.env = pure false := by rfl)
    (hf : X.fn y = true ∨ X.env.scope.names.lookup y = some .local := by first | exact .inl rfl | exact .inr rfl | assumption) : Sms W X (.Assign [.Name y pos'] e pos :: rest) Γ n P := fun R0 H0 Rl R σ H E s en => by
  refine wSs_of (pss_cons (wS_ok _) (wSs_ok rest)) ?_
  refine wS_of (ps_set hN hi hx (wE_ok e) hs hf) ?_
  refine h R0 H0 Rl σ R n H s hl _ fun p i R' H' g jj f q => ?_
  have s' := (s.grow g jj).setS (j := j) (v := .ref p) (sl := .at_ p) rfl rfl
  exact k p i q R0 H0 Rl R' _ H' E s' ((sb p).re s.gr f) ⟨fun _ _ _ _ _ _ _ _ z => z.elim, en.rt, en.rm⟩
/-- an object beside the region and the slots is written -/
theorem _root_.Qq.So.poke {K : PySem.W.Frag} {R0 H0 Rl R H : Hp} {σ : L2.St} (nm : NoM Γ) (s : So W K R0 H0 Rl Γ R n σ H) {a : Addr} {o o' : HO} (hR : R a = none) (h0 : H0 a = none) (hB : ¬ W.B a) (ho : H a = some o) (hx : ∀ φ, o ≠ .ext φ) : So W K R0 H0 Rl Γ R n σ (upd H a o') := by
  refine ⟨s.gr.mut h0 hR, s.lo, s.rb, W.loc s.j fun b u hb e => by rw [upd_ne (show b ≠ a from fun z => hb.elim (fun h => hB (z ▸ h)) fun ⟨φ, h⟩ => hx φ (by rw [z, ho] at e; cases e; exact h))]; exact e, s.env.len, fun k t u a' b => ?_, s.env.dis⟩
  have z := s.env.ok k t u a' b
  cases t with
  | un => trivial
  | dat d => exact z
  | at_ a => exact z
  | ml ds => exact absurd (nm.at a') (by simp [Sl.isM])
  | md ds => exact absurd (nm.at a') (by simp [Sl.isM])
end
end K5
/-! N2: an own state whose rows' dicts may be changed. -/
namespace K5
open PySem PySem.Spec PyProof.Rows L2 Qq
/-! ### rows put and dropped -/
def putRow (rs : Rws) (k : Int) (vs : List D) : Rws := if (rs.any fun r => decide (r.1 = k)) = true then rs.map (fun r => if r.1 = k then (r.1, vs) else r) else rs ++ [(k, vs)]
def dropRow (rs : Rws) (k : Int) : Rws := rs.filter fun r => decide (r.1 ≠ k)
theorem kRows_put (rs : Rws) (k : Int) (vs : List D) : kRows (putRow rs k vs) = putD (kRows rs) (.inl k) (.tup vs) := by
  have e : (kRows rs).any (fun p => decide (p.1 = Sum.inl k)) = rs.any fun r => decide (r.1 = k) := by
    unfold kRows
    rw [List.any_map]
    refine congrArg (rs.any ·) (funext fun r => ?_)
    simp
  unfold putRow putD
  rw [e]
  split
  · unfold kRows
    rw [List.map_map, List.map_map]
    refine List.map_congr_left fun r _ => ?_
    by_cases q : r.1 = k
    · simp [q]
    · simp [q]
  · unfold kRows
    rw [List.map_append]; rfl
theorem kRows_drop (rs : Rws) (k : Int) : kRows (dropRow rs k) = dropD (kRows rs) (.inl k) := by
  unfold dropRow dropD kRows
  rw [List.filter_map]
  refine congrArg (List.map _) (List.filter_congr fun r _ => ?_)
  simp
def setRows : Own → Str → Rws → Own
  | [], _, _ => []
  | t :: o, x, rs => if t.1 = x then (t.1, t.2.1, rs) :: o else t :: setRows o x rs
theorem setRows_oC : ∀ (o : Own) (x : Str) (rs : Rws), oC (setRows o x rs) = oC o
  | [], _, _ => rfl
  | t :: o, x, rs => by
    unfold setRows
    split
    · rfl
    · show _ :: oC (setRows o x rs) = _ :: oC o
      rw [setRows_oC o x rs]
theorem setRows_oN : ∀ (o : Own) (x : Str) (rs : Rws), oN (setRows o x rs) = oN o
  | [], _, _ => rfl
  | t :: o, x, rs => by
    unfold setRows
    split
    · rfl
    · show _ :: oN (setRows o x rs) = _ :: oN o
      rw [setRows_oN o x rs]
/-! ### the nest -/
section
variable (K : PySem.W.Frag) (W : Wd) (H0 R : Hp)
structure Ow (a : Addr) : Prop where
  r : R a = none
  z : H0 a = none
  b : ¬ W.B a
inductive InO (H : Hp) : List (Key × V) → Own → List Addr → Prop
  | nil : InO H [] [] []
  | cons {x : Str} {cs : Cols} {rs : Rws} {a : Addr} {kvs : List (Key × V)} {vs : List (Key × V)} {o : Own} {as : List Addr} : Ow W H0 R a → H a = some (.dK kvs) → RpK K R kvs (kRows rs) → a ∉ as → InO H vs o as → InO H ((.inr x, .ref a) :: vs) ((x, cs, rs) :: o) (a :: as)
structure Nst (p : Addr) (o : Own) (H : Hp) : Prop where
  ex : ∃ vc r xs as, Ow W H0 R p ∧ H p = some (.dK [(.inr "columns", vc), (.inr "rows", .ref r)]) ∧ Rp K R vc (.dct (oC o)) ∧ Ow W H0 R r ∧ H r = some (.dK xs) ∧ InO K W H0 R H xs o as ∧ p ≠ r ∧ p ∉ as ∧ r ∉ as
end
abbrev FN (K : PySem.W.Frag) (W : Wd) (p : Addr) : Fam Own := fun o H0 R H => Nst K W H0 R p o H
def Ptr (p : Addr) (x : Str) (a : Addr) (H : Hp) : Prop := ∃ vc r xs, H p = some (.dK [(.inr "columns", vc), (.inr "rows", .ref r)]) ∧ H r = some (.dK xs) ∧ valV xs (.inr x) = some (.ref a)
section
variable {K : PySem.W.Frag} {W : Wd} {R0 H0 R H R' H' : Hp} {p a : Addr} {o : Own} {x : Str}
theorem Ow.gr (g : Gr W R H R' H') {u : HO} (e : H a = some u) (h : Ow W H0 R a) : Ow W H0 R' a := ⟨g.nw a u e h.r, h.z, h.b⟩
theorem none_back (g : Gr W R0 H0 R H) (h : H a = none) : H0 a = none := by
  cases q : H0 a with
  | none => rfl
  | some u =>
    obtain ⟨u', e⟩ := g.hb a u q
    rw [h] at e; cases e
theorem Ow.re (g : Gr W R0 H0 R H) (h : Ow W H R' a) : Ow W H0 R' a := ⟨h.r, none_back g h.z, h.b⟩
theorem InO.gr (g : Gr W R H R' H') {xs : List (Key × V)} {as : List Addr} (h : InO K W H0 R H xs o as) : InO K W H0 R' H' xs o as := by
  induction h with
  | nil => exact .nil
  | cons h1 h2 h3 h4 _ ih => exact .cons (h1.gr g h2) (g.hh _ _ h1.b h2) (h3.mono g.rr) h4 ih
theorem InO.re (g : Gr W R0 H0 R H) {xs : List (Key × V)} {as : List Addr} (h : InO K W H R' H' xs o as) : InO K W H0 R' H' xs o as := by
  induction h with
  | nil => exact .nil
  | cons h1 h2 h3 h4 _ ih => exact .cons (h1.re g) h2 h3 h4 ih
theorem InO.off {xs : List (Key × V)} {as : List Addr} (h : InO K W H0 R H xs o as) {u : HO} (hn : a ∉ as) : InO K W H0 R (upd H a u) xs o as := by
  induction h with
  | nil => exact .nil
  | @cons x cs rs b kvs vs o as h1 h2 h3 h4 _ ih =>
    have n1 : b ≠ a := fun z => hn (by rw [z]; exact List.mem_cons_self)
    exact .cons h1 (by rw [upd_ne n1]; exact h2) h3 h4 (ih fun z => hn (List.mem_cons_of_mem _ z))
theorem stb_nst : Stb W (FN K W p) where
  gr := fun g ⟨vc, r, xs, as, h1, h2, h3, h4, h5, h6, h7⟩ => ⟨vc, r, xs, as, h1.gr g h2, g.hh _ _ h1.b h2, h3.mono g.rr, h4.gr g h5, g.hh _ _ h4.b h5, h6.gr g, h7⟩
  re := fun g ⟨vc, r, xs, as, h1, h2, h3, h4, h5, h6, h7⟩ => ⟨vc, r, xs, as, h1.re g, h2, h3, h4.re g, h5, h6.re g, h7⟩
theorem rowsOf_hd {cs : Cols} {rs : Rws} : rowsOf ((x, cs, rs) :: o) x = rs := by simp [rowsOf]
theorem rowsOf_tl {y : Str} {cs : Cols} {rs : Rws} (h : y ≠ x) : rowsOf ((y, cs, rs) :: o) x = rowsOf o x := by simp [rowsOf, h]
theorem InO.look {xs : List (Key × V)} {as : List Addr} (h : InO K W H0 R H xs o as) (hx : x ∈ oN o) : ∃ a kvs, a ∈ as ∧ valV xs (.inr x) = some (.ref a) ∧ Ow W H0 R a ∧ H a = some (.dK kvs) ∧ RpK K R kvs (kRows (rowsOf o x)) ∧
    ∀ kvs' rs', RpK K R kvs' (kRows rs') → InO K W H0 R (upd H a (.dK kvs')) xs (setRows o x rs') as := by
  induction h with
  | nil => cases hx
  | @cons y cs rs b kvs vs o as h1 h2 h3 h4 t ih =>
    by_cases e : y = x
    · subst e
      refine ⟨b, kvs, List.mem_cons_self, valV_pos (p := (Sum.inr y, V.ref b)) rfl, h1, h2, by rw [rowsOf_hd]; exact h3, fun kvs' rs' r' => ?_⟩
      unfold setRows
      rw [if_pos rfl]
      exact .cons h1 upd_same r' h4 (t.off h4)
    · have hx' : x ∈ oN o := (List.mem_cons.mp hx).resolve_left fun z => e z.symm
      obtain ⟨a, kv, m, q1, q2, q3, q4, q5⟩ := ih hx'
      refine ⟨a, kv, List.mem_cons_of_mem _ m, ?_, q2, q3, by rw [rowsOf_tl e]; exact q4, fun kvs' rs' r' => ?_⟩
      · rw [valV_neg (p := (Sum.inr y, V.ref b)) fun z => e (Sum.inr.inj z)]; exact q1
      · unfold setRows
        rw [if_neg e]
        have nb : b ≠ a := fun z => h4 (z ▸ m)
        exact .cons h1 (by rw [upd_ne nb]; exact h2) h3 h4 (q5 kvs' rs' r')
theorem Nst.ptr (h : Nst K W H0 R p o H) (hx : x ∈ oN o) : ∃ a, Ptr p x a H := by
  obtain ⟨vc, r, xs, as, h1, h2, h3, h4, h5, h6, _⟩ := h.ex
  obtain ⟨a, _, _, e, _⟩ := h6.look hx
  exact ⟨a, vc, r, xs, h2, h5, e⟩
theorem Nst.ptr_gr (h : Nst K W H0 R p o H) (q : Ptr p x a H) (g : Gr W R H R' H') : Ptr p x a H' := by
  obtain ⟨vc, r, xs, as, h1, h2, h3, h4, h5, h6, _⟩ := h.ex
  obtain ⟨vc', r', xs', e1, e2, e3⟩ := q
  rw [h2] at e1; cases e1
  rw [h5] at e2; cases e2
  exact ⟨vc, r, xs, g.hh _ _ h1.b h2, g.hh _ _ h4.b h5, e3⟩
theorem Nst.at (h : Nst K W H0 R p o H) (q : Ptr p x a H) (hx : x ∈ oN o) : ∃ kvs, Ow W H0 R a ∧ H a = some (.dK kvs) ∧ RpK K R kvs (kRows (rowsOf o x)) ∧ ∀ kvs' rs', RpK K R kvs' (kRows rs') → Nst K W H0 R p (setRows o x rs') (upd H a (.dK kvs')) := by
  obtain ⟨vc, r, xs, as, h1, h2, h3, h4, h5, h6, h7, h8, h9⟩ := h.ex
  obtain ⟨vc', r', xs', e1, e2, e3⟩ := q
  rw [h2] at e1; cases e1
  rw [h5] at e2; cases e2
  obtain ⟨b, kvs, m, q1, q2, q3, q4, q5⟩ := h6.look hx
  rw [e3] at q1; cases q1
  refine ⟨kvs, q2, q3, q4, fun kvs' rs' r' => ?_⟩
  have np : p ≠ a := fun z => h8 (z ▸ m)
  have nr : r ≠ a := fun z => h9 (z ▸ m)
  exact ⟨vc, r, xs, as, h1, by rw [upd_ne np]; exact h2, by rw [setRows_oC]; exact h3, h4, by rw [upd_ne nr]; exact h5, q5 kvs' rs' r', h7, h8, h9⟩
end
theorem val_rows {vc vr : V} : valV [((Sum.inr (Str.ofString "columns") : Key), vc), ((Sum.inr (Str.ofString "rows") : Key), vr)] (Sum.inr (Str.ofString "rows") : Key) = some vr := by
  have h : ¬ (Sum.inr (Str.ofString "columns") : Key) = Sum.inr (Str.ofString "rows") := by decide +kernel
  rw [valV_neg (p := ((Sum.inr (Str.ofString "columns") : Key), vc)) h, valV_pos (p := ((Sum.inr (Str.ofString "rows") : Key), vr)) rfl]
section
variable {W : Wd} {X : Cx} {Γ : List Sl} {n c c1 c2 : Nat} {P : PsN Own} {pos np cp ip ip2 ip3 apos cpos : Pos} {tab key e : Expr} {p : Addr} {o : Own} {x : Str} {i j : Nat} {y : Str}
/-- later["rows"][tab] -/
theorem path_rows (hu : X.A.units + 1 < cLine) (hN : X.N[i]? = some y) (hv : Vis X.env.scope y) (hΓ : Γ[i]? = some (.at_ p)) (ht : Ev W X tab Γ 0 (Is (.str x))) (hx : x ∈ oN o) (hd : (y == ("__debug__" : Str)) = false) (hcd : (y == ("__classdict__" : Str)) = false)
    (h1 : NoSl (.Constant (.str "rows") j cp)) (h2 : NoSl tab) {R0 H0 Rl R H : Hp} {σ : L2.St} (s : So W X.K R0 H0 Rl Γ R n σ H) (f : Nst X.K W H0 R p o H) (hn : n ≤ LIM) {Q : VK} (k : ∀ a R' H', Gr W R H R' H' → W.J n H' → Ptr p x a H' → Q (.ref a) H') :
    wE X (.Subscript (.Subscript (.Name y np) (.Constant (.str "rows") j cp) ip) tab ip2) σ H Q := by
  refine wE_of (pe_dget hu (wE_ok _) (wE_ok tab) h2) ?_
  refine wE_of (pe_dget hu (pe_var hN hv hd hcd) pe_str h1) ?_
  have hl : i < σ.length := by rw [s.env.len]; exact (List.getElem?_eq_some_iff.mp hΓ).1
  have hσ : σ[i]? = some (some (.ref p)) := by
    have := s.env.ok i _ σ[i] hΓ (List.getElem?_eq_getElem hl)
    rw [List.getElem?_eq_getElem hl]; exact congrArg some this
  obtain ⟨vc, r, xs, as, e1, e2, _⟩ := f.ex
  refine ⟨_, hσ, p, .ref r, rfl, .inl ⟨_, Sum.inr "rows", .inl e2, rfl, val_rows.symm⟩, ?_⟩
  refine ht R0 H0 Rl σ R n H s hn _ fun v R2 H2 d g jj q rv => ?_
  rw [show d = .str x from q] at rv
  cases rv
  have f2 : Nst X.K W H0 R2 p o H2 := stb_nst.gr g f
  obtain ⟨a, vc', r', xs', q1, q2, q3⟩ := f2.ptr hx
  have e2' := g.hh _ _ e1.b e2
  rw [e2'] at q1; cases q1
  exact ⟨r, .ref a, rfl, .inl ⟨xs', Sum.inr x, .inl q2, rfl, q3.symm⟩, k a R2 H2 g jj ⟨vc, r, xs', e2', q2, q3⟩⟩
/-- key not in later["rows"][tab] -/
theorem etn_notin {kk : Int} (hu : X.A.units + 1 < cLine) (hN : X.N[i]? = some y) (hv : Vis X.env.scope y) (hΓ : Γ[i]? = some (.at_ p)) (hk : Ev W X key Γ 0 (Is (.int kk))) (ht : Ev W X tab Γ 0 (Is (.str x))) (hx : x ∈ oN o) (hd : (y == ("__debug__" : Str)) = false := by decide) (hcd : (y == ("__classdict__" : Str)) = false := by decide)
    (h1 : NoSl (.Constant (.str "rows") j cp) := by exact fun _ _ => rfl) (h2 : NoSl tab := by exact fun _ _ => rfl) (hm : behindInMarks .NotIn (.Subscript (.Subscript (.Name y np) (.Constant (.str "rows") j cp) ip) tab ip2) = false := by rfl) :
    EvTN W X (FN X.K W p) (.Compare key [.NotIn] [.Subscript (.Subscript (.Name y np) (.Constant (.str "rows") j cp) ip) tab ip2] pos) Γ 0 o (Is (!(getK (kRows (rowsOf o x)) (.inl kk)).isSome)) := fun R0 H0 Rl σ R n H s f hn Q k => by
  refine wT_of (pt_cmp (pc_dnotin hu (wE_ok key) (wE_ok _)) hm) ?_
  refine hk R0 H0 Rl σ R n H s hn _ fun v R1 H1 d g1 j1 q r1 => ?_
  rw [show d = .int kk from q] at r1
  cases r1
  have f1 : Nst X.K W H0 R1 p o H1 := stb_nst.gr g1 f
  refine path_rows hu hN hv hΓ ht hx hd hcd h1 h2 (s.grow g1 j1) f1 hn fun a R2 H2 g2 j2 pt => ?_
  have f2 : Nst X.K W H0 R2 p o H2 := stb_nst.gr g2 f1
  obtain ⟨kvs, ow, ha, rk, _⟩ := f2.at pt hx
  refine ⟨a, valV kvs (.inl kk), rfl, .inl ⟨kvs, .inl kk, .inl ha, rfl, rfl⟩, ?_⟩
  have e : (valV kvs (.inl kk)).isSome = (getK (kRows (rowsOf o x)) (.inl kk)).isSome := by
    cases qv : valV kvs (.inl kk) with
    | none => rw [(rk.val _).2 qv]; rfl
    | some v => obtain ⟨y, e1, _⟩ := (rk.val _).1 v qv; rw [e1]; rfl
  refine ⟨_, rfl, ?_⟩
  rw [e]
  exact k _ R2 H2 (g1.trans g2) j2 rfl
/-- later["rows"][tab][key] = e -/
theorem sn_dset {kk : Int} {vs : List D} (hu : X.A.units + 1 < cLine) (nm : NoM Γ) (hN : X.N[i]? = some y) (hv : Vis X.env.scope y) (hΓ : Γ[i]? = some (.at_ p)) (he : Ev W X e Γ 0 (Is (.tup vs))) (ht : Ev W X tab Γ 0 (Is (.str x))) (hk : Ev W X key Γ 0 (Is (.int kk))) (hx : x ∈ oN o) (hlen : (rowsOf o x).length < 4000) (hn : n ≤ LIM) (kt : P.nx Γ n (setRows o x (putRow (rowsOf o x) kk vs)))
    (hs : swapsWith e (some (.Subscript (.Subscript (.Subscript (.Name y np) (.Constant (.str "rows") j cp) ip) tab ip2) key ip3)) pos.line X.env = pure false := by rfl) (hd : (y == ("__debug__" : Str)) = false := by decide) (hcd : (y == ("__classdict__" : Str)) = false := by decide)
    (h1 : NoSl (.Constant (.str "rows") j cp) := by exact fun _ _ => rfl) (h2 : NoSl tab := by exact fun _ _ => rfl) :
    SmN W X (FN X.K W p) (.Assign [.Subscript (.Subscript (.Subscript (.Name y np) (.Constant (.str "rows") j cp) ip) tab ip2) key ip3] e pos) Γ n o P := fun R0 H0 Rl R σ H E s f en => by
  refine wS_of (ps_dput hu (wE_ok _) (wE_ok key) (wE_ok e) hs) ?_
  refine he R0 H0 Rl σ R n H s hn _ fun v R1 H1 d g1 j1 q1 r1 => ?_
  rw [show d = .tup vs from q1] at r1
  have f1 : Nst X.K W H0 R1 p o H1 := stb_nst.gr g1 f
  have s1 := s.grow g1 j1
  refine path_rows hu hN hv hΓ ht hx hd hcd h1 h2 s1 f1 hn fun a R2 H2 g2 j2 pt => ?_
  have f2 : Nst X.K W H0 R2 p o H2 := stb_nst.gr g2 f1
  have s2 := s1.grow g2 j2
  refine hk R0 H0 Rl σ R2 n H2 s2 hn _ fun v3 R3 H3 d3 g3 j3 q3 r3 => ?_
  rw [show d3 = .int kk from q3] at r3
  cases r3
  have f3 : Nst X.K W H0 R3 p o H3 := stb_nst.gr g3 f2
  have s3 := s2.grow g3 j3
  obtain ⟨kvs, ow, ha, rk, put⟩ := f3.at (f2.ptr_gr pt g3) hx
  have hl : kvs.length < sizeLine := Nat.lt_of_lt_of_le (by rw [rk.len]; unfold kRows; rw [List.length_map]; exact hlen : kvs.length < 4000) (by decide)
  refine ⟨a, _, rfl, DPut.k (k := .inl kk) ha hl, ?_⟩
  exact en.nx _ _ _ R3 _ _ (s3.poke nm ow.r ow.z ow.b ha fun φ z => by cases z) (put _ _ (by rw [kRows_put]; exact rk.put _ (r1.mono (g2.rr.trans g3.rr)))) kt
/-- later["rows"][tab].pop(key) -/
theorem sn_pop1 {kk : Int} (hu : X.A.units + 1 < cLine) (nm : NoM Γ) (hN : X.N[i]? = some y) (hv : Vis X.env.scope y) (hΓ : Γ[i]? = some (.at_ p)) (ht : Ev W X tab Γ 0 (Is (.str x))) (hk : Ev W X key Γ 0 (Is (.int kk))) (hx : x ∈ oN o) (hin : (getK (kRows (rowsOf o x)) (.inl kk)).isSome = true) (hn : n ≤ LIM) (kt : P.nx Γ n (setRows o x (dropRow (rowsOf o x) kk)))
    (hd : (y == ("__debug__" : Str)) = false := by decide) (hcd : (y == ("__classdict__" : Str)) = false := by decide)
    (h1 : NoSl (.Constant (.str "rows") j cp) := by exact fun _ _ => rfl) (h2 : NoSl tab := by exact fun _ _ => rfl)
    (m : M1 X (.Subscript (.Subscript (.Name y np) (.Constant (.str "rows") j cp) ip) tab ip2) "pop" apos key cpos := by exact ⟨rfl, rfl, rfl, rfl⟩)
    (hs : swapsWith (.Call (.Attribute (.Subscript (.Subscript (.Name y np) (.Constant (.str "rows") j cp) ip) tab ip2) "pop" apos) [key] [] cpos) none pos.line X.env = pure false := by rfl) :
    SmN W X (FN X.K W p) (.Expr (.Call (.Attribute (.Subscript (.Subscript (.Name y np) (.Constant (.str "rows") j cp) ip) tab ip2) "pop" apos) [key] [] cpos) pos) Γ n o P := fun R0 H0 Rl R σ H E s f en => by
  refine wS_of (ps_expr (pe_dpop1 (wE_ok _) (wE_ok key) m) hs) ?_
  refine path_rows hu hN hv hΓ ht hx hd hcd h1 h2 s f hn fun a R2 H2 g2 j2 pt => ?_
  have f2 : Nst X.K W H0 R2 p o H2 := stb_nst.gr g2 f
  have s2 := s.grow g2 j2
  obtain ⟨kv0, ow0, ha0, _⟩ := f2.at pt hx
  refine ⟨a, rfl, .inl ⟨kv0, .inl ha0⟩, ?_⟩
  refine hk R0 H0 Rl σ R2 n H2 s2 hn _ fun v3 R3 H3 d3 g3 j3 q3 r3 => ?_
  rw [show d3 = .int kk from q3] at r3
  cases r3
  have f3 : Nst X.K W H0 R3 p o H3 := stb_nst.gr g3 f2
  have s3 := s2.grow g3 j3
  obtain ⟨kvs, ow, ha, rk, put⟩ := f3.at (f2.ptr_gr pt g3) hx
  obtain ⟨v, hv2⟩ : ∃ v, valV kvs (.inl kk) = some v := by
    cases q : valV kvs (.inl kk) with
    | none => rw [(rk.val _).2 q] at hin; cases hin
    | some v => exact ⟨v, rfl⟩
  refine ⟨kvs, .inl kk, v, ha, rfl, hv2, ?_⟩
  exact en.nx _ _ _ R3 _ _ (s3.poke nm ow.r ow.z ow.b ha fun φ z => by cases z) (put _ _ (by rw [kRows_drop]; exact rk.drop _)) kt
theorem drop_none {kvs : List (Key × V)} {k : Key} (h : valV kvs k = none) : dropK kvs k = kvs := by
  induction kvs with
  | nil => rfl
  | cons q kvs ih =>
    by_cases e : q.1 = k
    · rw [valV_pos e] at h; cases h
    · rw [valV_neg e] at h
      show (q :: kvs).filter _ = _
      rw [List.filter_cons, if_pos (by simp [e])]
      exact congrArg (q :: ·) (ih h)
theorem dropRow_none {rs : Rws} {k : Int} (h : getK (kRows rs) (.inl k) = none) : dropRow rs k = rs := by
  unfold dropRow
  refine List.filter_eq_self.mpr fun r hr => decide_eq_true fun e => ?_
  have := List.find?_eq_none.mp (Option.map_eq_none_iff.mp h) (.inl r.1, .tup r.2) (List.mem_map.mpr ⟨r, hr, rfl⟩)
  simp [e] at this
theorem setRows_same : ∀ {o : Own} {x : Str}, x ∈ oN o → setRows o x (rowsOf o x) = o
  | (y, cs, rs) :: o, x, h => by
    unfold setRows
    by_cases e : y = x
    · subst e
      rw [if_pos rfl, rowsOf_hd]
    · rw [if_neg e, rowsOf_tl e, setRows_same ((List.mem_cons.mp h).resolve_left fun z => e z.symm)]
/-- later["rows"][tab].pop(key, None) -/
theorem sn_pop2 {kk : Int} {jn : Nat} {pn : Pos} (hu : X.A.units + 1 < cLine) (nm : NoM Γ) (hN : X.N[i]? = some y) (hv : Vis X.env.scope y) (hΓ : Γ[i]? = some (.at_ p)) (ht : Ev W X tab Γ 0 (Is (.str x))) (hk : Ev W X key Γ 0 (Is (.int kk))) (hx : x ∈ oN o) (hn : n ≤ LIM) (kt : P.nx Γ n (setRows o x (dropRow (rowsOf o x) kk)))
    (hd : (y == ("__debug__" : Str)) = false := by decide) (hcd : (y == ("__classdict__" : Str)) = false := by decide)
    (h1 : NoSl (.Constant (.str "rows") j cp) := by exact fun _ _ => rfl) (h2 : NoSl tab := by exact fun _ _ => rfl)
    (m : M2 X (.Subscript (.Subscript (.Name y np) (.Constant (.str "rows") j cp) ip) tab ip2) "pop" apos key (.Constant .none jn pn) cpos := by exact ⟨rfl, rfl, rfl, rfl⟩)
    (hs : swapsWith (.Call (.Attribute (.Subscript (.Subscript (.Name y np) (.Constant (.str "rows") j cp) ip) tab ip2) "pop" apos) [key, .Constant .none jn pn] [] cpos) none pos.line X.env = pure false := by rfl) :
    SmN W X (FN X.K W p) (.Expr (.Call (.Attribute (.Subscript (.Subscript (.Name y np) (.Constant (.str "rows") j cp) ip) tab ip2) "pop" apos) [key, .Constant .none jn pn] [] cpos) pos) Γ n o P := fun R0 H0 Rl R σ H E s f en => by
  refine wS_of (ps_expr (pe_dpop2 (wE_ok _) (wE_ok key) pe_non m) hs) ?_
  refine path_rows hu hN hv hΓ ht hx hd hcd h1 h2 s f hn fun a R2 H2 g2 j2 pt => ?_
  have f2 : Nst X.K W H0 R2 p o H2 := stb_nst.gr g2 f
  have s2 := s.grow g2 j2
  obtain ⟨kv0, ow0, ha0, _⟩ := f2.at pt hx
  refine ⟨a, rfl, .inl ⟨kv0, .inl ha0⟩, ?_⟩
  refine hk R0 H0 Rl σ R2 n H2 s2 hn _ fun v3 R3 H3 d3 g3 j3 q3 r3 => ?_
  rw [show d3 = .int kk from q3] at r3
  cases r3
  have f3 : Nst X.K W H0 R3 p o H3 := stb_nst.gr g3 f2
  have s3 := s2.grow g3 j3
  obtain ⟨kvs, ow, ha, rk, put⟩ := f3.at (f2.ptr_gr pt g3) hx
  refine ⟨kvs, .inl kk, ha, rfl, fun v hv2 => ?_, fun hv2 => ?_⟩
  · exact en.nx _ _ _ R3 _ _ (s3.poke nm ow.r ow.z ow.b ha fun φ z => by cases z) (put _ _ (by rw [kRows_drop]; exact rk.drop _)) kt
  · have e := dropRow_none ((rk.val _).2 hv2)
    rw [e, setRows_same hx] at kt
    exact en.nx _ _ _ R3 _ _ s3 f3 kt
end
end K5
/-! N3: a nest becomes data. -/
namespace K5
open PySem PySem.Spec PyProof.Rows L2 Qq
section
variable {K : PySem.W.Frag} {W : Wd} {R0 H0 Rl R H R' H' : Hp} {p a : Addr} {o : Own} {x : Str} {Γ : List Sl} {n : Nat} {σ : L2.St}
theorem _root_.Qq.So.lockO (nm : NoM Γ) (s : So W K R0 H0 Rl Γ R n σ H) {u : HO} (w : Ow W H0 R a) (ha : H a = some u) (hx : ∀ φ, u ≠ .ext φ) (od : Obj) : So W K R0 H0 Rl Γ (upd R a (.frz od u)) n σ (upd H a (.frz od u)) := by
  have sm : Same R (upd R a (.frz od u)) := Same.freeze w.r
  refine ⟨s.gr.mfz w.z w.r, s.lo.trans sm, fun b hb => by rw [upd_ne (show b ≠ a from fun z => w.b (z ▸ hb))]; exact s.rb b hb, W.loc s.j fun b o hb e => by
    rw [upd_ne (show b ≠ a from fun z => hb.elim (fun h => w.b (z ▸ h)) fun ⟨φ, h⟩ => hx φ (by rw [z, ha] at e; cases e; exact h))]; exact e, s.env.len, fun k t v a' b => ?_, s.env.dis⟩
  have z := s.env.ok k t v a' b
  cases t with
  | un => trivial
  | dat d => obtain ⟨v, e, h⟩ := z; exact ⟨v, e, h.mono sm⟩
  | at_ a => exact z
  | ml ds => exact absurd (nm.at a') (by simp [Sl.isM])
  | md ds => exact absurd (nm.at a') (by simp [Sl.isM])
theorem Ow.upd {b : Addr} {u : HO} (w : Ow W H0 R a) (h : a ≠ b) : Ow W H0 (upd R b u) a := ⟨by rw [upd_ne h]; exact w.r, w.z, w.b⟩
theorem InO.lockOff {xs : List (Key × V)} {as : List Addr} (h : InO K W H0 R H xs o as) {u : HO} (hR : R a = none) (hn : a ∉ as) : InO K W H0 (upd R a u) (upd H a u) xs o as := by
  induction h with
  | nil => exact .nil
  | @cons x cs rs b kvs vs o as h1 h2 h3 h4 _ ih =>
    have n1 : b ≠ a := fun z => hn (by rw [z]; exact List.mem_cons_self)
    exact .cons (h1.upd n1) (by rw [upd_ne n1]; exact h2) (h3.mono (Same.freeze hR)) h4 (ih fun z => hn (List.mem_cons_of_mem _ z))
end
section
variable {X : Cx} {W : Wd} {Γ : List Sl} {n : Nat} {sts : List Stmt}
theorem lockAll {E : Ends} {σ : L2.St} {R0 H0 Rl : Hp} (nm : NoM Γ) : ∀ (as : List Addr) {R H : Hp} {xs : List (Key × V)} {o : Own}, InO X.K W H0 R H xs o as → So W X.K R0 H0 Rl Γ R n σ H →
    (∀ R' H', Same R R' → So W X.K R0 H0 Rl Γ R' n σ H' → RpK X.K R' xs (oR o) → (∀ b u, b ∉ as → H b = some u → H' b = some u) → (∀ b, b ∉ as → R b = none → R' b = none) → wSs X sts E σ H') → wSs X sts E σ H
  | [], R, H, _, _, h, s, k => by
    cases h
    exact k R H (Same.refl _) s .nil (fun _ _ _ e => e) fun _ _ e => e
  | a :: as, R, H, _, _, h, s, k => by
    cases h with
    | @cons x cs rs _ kvs vs o _ h1 h2 h3 h4 t =>
      refine wSs_lock ⟨a, _, h2, trivial, fun od => ?_⟩
      have s1 := s.lockO nm h1 h2 (fun φ z => by cases z) od
      refine lockAll nm as (t.lockOff h1.r h4) s1 fun R' H' sm s' rk kh kr => ?_
      have e1 : R' a = some (.frz od (.dK kvs)) := sm _ _ upd_same
      refine k R' H' ((Same.freeze h1.r).trans sm) s' (.cons (.dct ⟨od, e1⟩ (h3.mono ((Same.freeze h1.r).trans sm))) rk) (fun b u hb e => ?_) fun b hb e => ?_
      · have n1 : b ≠ a := fun z => hb (by rw [z]; exact List.mem_cons_self)
        exact kh b u (fun z => hb (List.mem_cons_of_mem _ z)) (by rw [upd_ne n1]; exact e)
      · have n1 : b ≠ a := fun z => hb (by rw [z]; exact List.mem_cons_self)
        exact kr b (fun z => hb (List.mem_cons_of_mem _ z)) (by rw [upd_ne n1]; exact e)
/-- the nest in slot i is data from now on -/
theorem sn_frz {p : Addr} {o : Own} {i : Nat} {P : PsN Own} (nm : NoM Γ) (hΓ : Γ[i]? = some (.at_ p)) (h : Sms W X sts (Γ.set i (.dat (eOwn o))) n ⟨fun _ _ => False, P.rt, fun _ _ => False, fun _ _ => False, fun _ _ _ _ _ => False⟩) : SmsN W X (FN X.K W p) sts Γ n o P := fun R0 H0 Rl R σ H E s f en => by
  obtain ⟨vc, r, xs, as, h1, h2, h3, h4, h5, h6, h7, h8, h9⟩ := f.ex
  refine lockAll nm as h6 s fun R1 H1 sm1 s1 rk kh kr => ?_
  have q2 := kh p _ h8 h2
  have q5 := kh r _ h9 h5
  have w1 : Ow W H0 R1 p := ⟨kr p h8 h1.r, h1.z, h1.b⟩
  have w4 : Ow W H0 R1 r := ⟨kr r h9 h4.r, h4.z, h4.b⟩
  refine wSs_lock ⟨r, _, q5, trivial, fun od => ?_⟩
  have s2 := s1.lockO nm w4 q5 (fun φ z => by cases z) od
  have sm2 : Same R1 (upd R1 r (.frz od (.dK xs))) := Same.freeze w4.r
  refine wSs_lock ⟨p, .dK [(.inr "columns", vc), (.inr "rows", .ref r)], by rw [upd_ne h7]; exact q2, trivial, fun od2 => ?_⟩
  have w1' := w1.upd (u := .frz od (.dK xs)) h7
  have s3 := s2.lockO nm w1' (by rw [upd_ne h7]; exact q2) (fun φ z => by cases z) od2
  have sm3 := Same.freeze (o := .frz od2 (.dK [(.inr "columns", vc), (.inr "rows", .ref r)])) w1'.r
  have rr : Rp X.K (upd (upd R1 r (.frz od (.dK xs))) p (.frz od2 (.dK [(.inr "columns", vc), (.inr "rows", .ref r)]))) (.ref p) (eOwn o) :=
    .dct ⟨od2, upd_same⟩ (.cons (h3.mono ((sm1.trans sm2).trans sm3)) (.cons (.dct ⟨od, sm3 _ _ upd_same⟩ (rk.mono (sm2.trans sm3))) .nil))
  have hl : i < σ.length := by rw [s.env.len]; exact (List.getElem?_eq_some_iff.mp hΓ).1
  have e1 : σ[i] = some (.ref p) := s.env.ok i _ σ[i] hΓ (List.getElem?_eq_getElem hl)
  have z := s3.set (i := i) rr
  rw [show σ.set i (some (.ref p)) = σ by rw [← e1]; exact List.set_getElem_self hl] at z
  exact h R0 H0 Rl _ σ _ E z ⟨fun _ _ _ _ _ _ z => z.elim, en.rt, fun _ _ _ _ _ _ z => z.elim, fun _ _ _ _ _ _ z => z.elim, fun _ _ _ _ _ _ _ _ z => z.elim⟩
end
end K5
/-! N4: what makes a nest. -/
namespace K5
open PySem PySem.Spec PyProof.Rows L2 Qq
/-! ### promises of defs that give new objects -/
def spG (K : PySem.W.Frag) (c : Nat) (S : Wd → List Sl → (Hp → Hp → Hp → V → Prop) → Prop) : Sp := fun vs H Q _ => ∃ (W : Wd) (R : Hp) (n : Nat) (as : List Sl) (φ : Hp → Hp → Hp → V → Prop), Same R H ∧ (∀ b, W.B b → R b = none) ∧ W.J n H ∧ n + c ≤ LIM ∧ ArgL K R vs as ∧ S W as φ ∧
  ∀ v R' H', Gr W R H R' H' → W.J (n + c) H' → φ H R' H' v → Q v H'
structure CalG (P : Program) (w : World) (K : PySem.W.Frag) (mg : Str → Option Value) (base : Heap) (k : Nat) (x : Str) (ps : List Str) (sp : Sp) : Prop where
  ex : ∃ f fd, mg x = some (.ref f) ∧ PySem.W.keepIn K (.ref f) = true ∧ Binds K fd ps [] ∧ FnOk P w K mg base CX0 k f fd ps sp
theorem fn_okG {P : Program} {w : World} {K : PySem.W.Frag} {mg : Str → Option Value} {base : Heap} {x : Str} {st : Stmt} {f : Addr} {fd : FuncData} {N ps : List Str} {k c : Nat} {S : Wd → List Sl → (Hp → Hp → Hp → V → Prop) → Prop} (F : FnP K x st f fd) (sc : FnScope N ps (defScope st)) (hS : ∀ W as φ, S W as φ → as.length = ps.length) (hNl : ps.length ≤ N.length)
    (body : ∀ (cdv : Value) (A : Around) (outer : List Env) (s : Shared) (H : Hp) (E : XK) (W : Wd) (as : List Sl) (φ : Hp → Hp → Hp → V → Prop) (n : Nat), Room k (A.deeper (envOfC x (defScope st) s.heap.objs.size f cdv)) → S W as φ → n + c ≤ LIM →
      Sms W (cxOf CX0 P w K mg base N x (defScope st) f cdv A outer s H E).nox (defBody st) (as ++ unsl (N.length - as.length)) n ⟨fun _ _ => False, fun _ _ => False, fun _ _ => False, fun _ _ => False, fun H0 R' H' v n' => φ H0 R' H' v ∧ n' ≤ n + c⟩) :
    FnOk P w K mg base CX0 (k + 1) f fd ps (spG K c S) := by
  refine F.ok sc (fun vs H Q E h => ?_) (fun cdv A outer s H vs Q E hr h => ?_)
  · obtain ⟨W, R, n, as, φ, _, _, _, _, ra, hS', _⟩ := h
    rw [ra.len]; exact hS W as φ hS'
  · obtain ⟨W, R, n, as, φ, rh, rb, j, hn, ra, hS', k⟩ := h
    refine ⟨_, PSs.nox (wSs_ok _), ?_⟩
    refine body cdv A outer s H E W as φ n hr hS' hn R H R R (L2.start N vs) H _ ⟨Gr.refl rh, Same.refl _, rb, j, argL_env ra (by rw [ra.len, hS W as φ hS']; exact hNl)⟩ ⟨fun _ _ _ _ _ _ z => z.elim, fun _ _ _ _ _ _ _ _ _ _ z => z.elim, fun _ _ _ _ _ _ z => z.elim, fun _ _ _ _ _ _ z => z.elim, ?_⟩
    rintro n' R' v H' g lo j' rb' ⟨f, hle⟩
    exact k v R' H' g (W.mono j' hle) f
/-! ### lists and dicts -/
theorem putK_new {kvs : List (Key × V)} {k : Key} {v : V} (h : k ∉ kvs.map (·.1)) : putK kvs k v = kvs ++ [(k, v)] := by
  unfold putK
  rw [if_neg]
  intro z
  obtain ⟨q, hq, e⟩ := List.any_eq_true.mp z
  exact h (List.mem_map.mpr ⟨q, hq, of_decide_eq_true e⟩)
theorem mergeK_nd : ∀ (more acc : List (Key × V)), ((acc ++ more).map (·.1)).Nodup → mergeK acc more = acc ++ more
  | [], acc, _ => (List.append_nil acc).symm
  | q :: more, acc, h => by
    show mergeK (putK acc q.1 q.2) more = _
    have hq : q.1 ∉ acc.map (·.1) := fun z => by
      rw [List.map_append, List.map_cons] at h
      exact (List.nodup_append.mp h).2.2 _ z _ List.mem_cons_self rfl
    rw [putK_new hq, mergeK_nd more (acc ++ [q]) (by rw [List.append_assoc]; exact h), List.append_assoc]; rfl
theorem putD_nu {kvs : List (Key × D)} {k : Key} {v : D} (h : k ∉ kvs.map (·.1)) : putD kvs k v = kvs ++ [(k, v)] := by
  unfold putD
  rw [if_neg]
  intro z
  obtain ⟨q, hq, e⟩ := List.any_eq_true.mp z
  exact h (List.mem_map.mpr ⟨q, hq, of_decide_eq_true e⟩)
theorem mergeD_nd : ∀ (more acc : List (Key × D)), ((acc ++ more).map (·.1)).Nodup → mergeD acc more = acc ++ more
  | [], acc, _ => (List.append_nil acc).symm
  | q :: more, acc, h => by
    show mergeD (putD acc q.1 q.2) more = _
    have hq : q.1 ∉ acc.map (·.1) := fun z => by
      rw [List.map_append, List.map_cons] at h
      exact (List.nodup_append.mp h).2.2 _ z _ List.mem_cons_self rfl
    rw [putD_nu hq, mergeD_nd more (acc ++ [q]) (by rw [List.append_assoc]; exact h), List.append_assoc]; rfl
theorem gr_keep {W : Wd} {R H H' : Hp} (h : Same R H) (k : ∀ b o, H b = some o → H' b = some o) : Gr W R H R H' := ⟨fun b o _ e => k b o e, fun b o e => ⟨o, k b o e⟩, Same.refl R, fun b o e => k b o (h b o e), fun _ _ _ z => z⟩
section
variable {X : Cx}
def rItemsR : V → Hp → VK → Prop := fun x H Q => ∃ (d : Addr) (kvs : List (Key × V)), x = .ref d ∧ Rd H d (.dK kvs) ∧
  ∀ (H' : Hp) (l : Addr) (ts : List Addr), (∀ b o, H b = some o → H' b = some o) → H l = none → H' l = some (.lst (ts.map V.ref)) → Paired (fun (t : Addr) (q : Key × V) => H' t = some (.tup [kV q.1, q.2])) ts kvs → Q (.ref l) H'
/-- list(e.items()), the dict locked or not -/
theorem pe_listItemsR {e : Expr} {te : TE} {p apos cpos pos : Pos} (cal : X.calm = true) (oe : PE X e te) (og : Gl X "list") (om : X.mg "list" = none) (hbase : attributeBase e "items" X.env (eval e X.env) = eval e X.env := by rfl) (hline : (apos.endLine == cpos.line) = true := by rfl)
    (es : starEach [.Call (.Attribute e "items" apos) [] [] cpos] X.env = (false, eval (.Call (.Attribute e "items" apos) [] [] cpos) X.env) :: starEach [] X.env := by rfl) :
    PE X (.Call (.Name "list" p) [.Call (.Attribute e "items" apos) [] [] cpos] [] pos) (fun σ H Q => te σ H fun x H1 => rItemsR x H1 Q) := by
  refine ⟨fun pins s σ H Q I oq => ?_⟩
  refine wpAny_Call_Name_kw (ld_blt I og om PyProof.Rows.boot_list (PyProof.Rows.callWith_type1 ?_ es rfl))
  rw [es]
  show wpAny _ _ (spliced ((false, eval (.Call (.Attribute e "items" apos) [] [] cpos) X.env) :: backTo pos (starEach [] X.env))) _ _ s
  refine Calls.spliced_cons (wpAny_Call_method (T := "dict") (id := "dict.items") hbase rfl hline F.plainAttrs_dict F.slot_dict_items F.type_dict_items (thn (oe.run pins s σ H _ I oq) fun u s1 ⟨x, H1, I1, rx, d, kvs, ex, hd, q⟩ => ?_))
  subst ex
  obtain rfl : u = Value.ref d := rx
  obtain ⟨oz, o0, ws, okv, odo⟩ := dk_rd I1.hok hd
  obtain ⟨ep, oat⟩ := odo.dictAt
  have olk : kvs.length = ws.length := Paired.length okv
  have I2 : Inv X pins σ H1 { s1 with heap := s1.heap.push { cls := .type "dict_items", data := .fields #[.ref d] } } := I1.kept (t' := s1.toks) fun b ob q => Heap.get?_push_of_some _ q
  refine ⟨odo.typeIs, odo.mapOf.noDict, ?_⟩
  show wpAny _ _ (callWith cpos (.builtin "dict.items") [.ref d] [] []) _ X.xe s1
  refine method_meetsIn F.slot_dict_items F.entry_dict_items rfl (PySem.evalArgs_none ⟨rfl, odo.typeIs, F.args_dict_items_1 _, _, meets_dict_items (mixKind X.prog X.w) d o0, ⟨ws, odo⟩, ?_⟩)
  refine Calls.spliced_nil (PySem.W.kdx_call (knd := mixKind X.prog X.w) (kvs := ws) (ep := ep) (I1.ok.hd cal) ⟨_, Heap.get?_push_size _ rfl, rfl, rfl⟩ (oat.push _) (by omega) fun h' tk acc c as k1 k2 k3 k4 k5 => ?_)
  obtain ⟨H', z1, z2, _, _, z5, z6, J⟩ := LiI.items_laid (tk := tk) I2 oz okv k1 k2 k3 k4 k5
  exact ⟨.ref _, H', J, rfl, q H' _ as z1 z2 z5 z6⟩
variable {W : Wd} {Γ : List Sl} {n c c1 c2 : Nat} {φ : D → Prop} {e a b : Expr} {pos p p2 pos2 apos cpos npos : Pos} {d : D}
theorem back0 {R R1 H H1 : Hp} {l : Addr} (g : Gr W R H R1 H1) (hl : H1 l = none) : H l = none := none_back g hl
theorem pairs_t {K : PySem.W.Frag} {H : Hp} : ∀ {ts : List Addr} {kvs : List (Key × V)}, Paired (fun (t : Addr) (q : Key × V) => H t = some (.tup [kV q.1, q.2])) ts kvs → Paired (fun t q => SqT K H t [kV q.1, q.2]) ts kvs
  | _, _, .nil => .nil
  | _, _, .cons h t => .cons (SqT.of h) (pairs_t t)
/-- dict(list(e.items())), a new dict -/
theorem em_dictLI {kds : List (Key × D)} (hc : X.calm = true) (hg : Gl X "dict") (hm : Bn X "dict") (hg2 : Gl X "list") (hm2 : Bn X "list") (ha : Ev W X a Γ c (Is (.dct kds))) (hnd : (kds.map (·.1)).Nodup) (hbase : attributeBase a "items" X.env (eval a X.env) = eval a X.env := by rfl) (hline : (apos.endLine == cpos.line) = true := by rfl)
    (es : starEach [.Call (.Attribute a "items" apos) [] [] cpos] X.env = (false, eval (.Call (.Attribute a "items" apos) [] [] cpos) X.env) :: starEach [] X.env := by rfl)
    (he : starEach [.Call (.Name "list" p2) [.Call (.Attribute a "items" apos) [] [] cpos] [] pos2] X.env = (false, eval (.Call (.Name "list" p2) [.Call (.Attribute a "items" apos) [] [] cpos] [] pos2) X.env) :: starEach [] X.env := by rfl) (hpl : (backTo pos (starEach [] X.env)).any (·.1) = false := by rfl) :
    EvM W X (.Call (.Name "dict" p) [.Call (.Name "list" p2) [.Call (.Attribute a "items" apos) [] [] cpos] [] pos2] [] pos) Γ c (fun sl => sl = .md kds) := fun R0 H0 Rl σ R n H s hn Q k => by
  refine wE_of (pe_callTy (call_dictP hc) hg hm PyProof.Rows.boot_dict (pa_cons (pe_listItemsR hc (wE_ok a) hg2 hm2 hbase hline es) pa_nil he) (by decide) (by decide) he hpl) ?_
  refine ha R0 H0 Rl σ R n H s hn _ fun v R1 H1 d g j f r => ?_
  rw [show d = .dct kds from f] at r
  cases r with
  | @dct a kvs _ q0 r =>
    obtain ⟨o, q⟩ := q0
    refine ⟨a, kvs, rfl, .inr ⟨o, g.rh _ _ q⟩, fun H2 l ts kp hl hl2 pr => ?_⟩
    refine ⟨l, ts, kvs, rfl, SqL.of hl2, pairs_t pr, fun m hm => ?_⟩
    have g2 : Gr W R1 H1 R1 H2 := gr_keep g.rh kp
    have gA := g.trans g2
    have en : (kvs.map (·.1)).Nodup := by rw [r.keys]; exact hnd
    rw [mergeK_nd kvs [] en, List.nil_append]
    exact k m R1 _ (.md kds) (gA.trans (Gr.newM gA.rh hm)) (W.loc j fun b o _ e => by rw [upd_ne (ne_of_none (kp _ _ e) hm)]; exact kp _ _ e) (back0 gA hm) ⟨_, gA.rh.free hm, upd_same, r⟩ rfl
/-- list(xs) of a list, as data -/
theorem ev_listL {ds : List D} (hg : Gl X "list") (hm : Bn X "list") (ha : Ev W X a Γ c (Is (.lst ds))) (he : starEach [a] X.env = (false, eval a X.env) :: starEach [] X.env := by rfl) (hpl : (backTo pos (starEach [] X.env)).any (·.1) = false := by rfl) :
    Ev W X (.Call (.Name "list" p) [a] [] pos) Γ c (Is (.lst ds)) := fun R0 H0 Rl σ R n H s hn Q k => by
  refine wE_of (pe_callTy call_list_of hg hm PyProof.Rows.boot_list (pa_cons (wE_ok a) pa_nil he) (by decide) (by decide) he hpl) ?_
  refine ha R0 H0 Rl σ R n H s hn _ fun v R1 H1 d g j f r => ?_
  rw [show d = .lst ds from f] at r
  cases r with
  | @lst a xs _ sq r =>
    refine ⟨a, xs, rfl, .inl (sqL_mono g.rh sq), fun l hl => ?_⟩
    have g2 : Gr W0 R1 H1 (upd R1 l (.lst xs)) (upd H1 l (.lst xs)) := Gr.new g.rh hl
    exact k _ _ _ _ (g.trans g2.of0) (g2.j j) rfl (.lst (SqL.of upd_same) (r.mono g2.rr))
/-- dict(xs) of a list of pairs, as data -/
theorem em_dictL {kds : List (Key × D)} (hc : X.calm = true) (hg : Gl X "dict") (hm : Bn X "dict") (ha : Ev W X a Γ c (Is (.lst (prsD kds)))) (hnd : (kds.map (·.1)).Nodup) (he : starEach [a] X.env = (false, eval a X.env) :: starEach [] X.env := by rfl) (hpl : (backTo pos (starEach [] X.env)).any (·.1) = false := by rfl) :
    EvM W X (.Call (.Name "dict" p) [a] [] pos) Γ c (fun sl => sl = .md kds) := fun R0 H0 Rl σ R n H s hn Q k => by
  refine wE_of (pe_callTy (call_dictP hc) hg hm PyProof.Rows.boot_dict (pa_cons (wE_ok a) pa_nil he) (by decide) (by decide) he hpl) ?_
  refine ha R0 H0 Rl σ R n H s hn _ fun v R1 H1 d g j f r => ?_
  rw [show d = .lst (prsD kds) from f] at r
  cases r with
  | @lst a xs ds sq r =>
    obtain ⟨ps, kvs, rfl, e2, e3⟩ := prs_rp r
    refine ⟨a, ps, kvs, rfl, sqL_mono g.rh sq, paired_mono g.rh e2, fun l hl => ?_⟩
    have en : (kvs.map (·.1)).Nodup := by rw [e3.keys]; exact hnd
    rw [mergeK_nd kvs [] en, List.nil_append]
    exact k l R1 _ (.md kds) (g.trans (Gr.newM g.rh hl)) (W.loc j fun b o _ e => by rw [upd_ne (ne_of_none e hl)]; exact e) (back0 g hl) ⟨_, g.rh.free hl, upd_same, e3⟩ rfl
theorem ev_dictL {kds : List (Key × D)} (hc : X.calm = true) (hg : Gl X "dict") (hm : Bn X "dict") (ha : Ev W X a Γ c (Is (.lst (prsD kds)))) (hnd : (kds.map (·.1)).Nodup) (he : starEach [a] X.env = (false, eval a X.env) :: starEach [] X.env := by rfl) (hpl : (backTo pos (starEach [] X.env)).any (·.1) = false := by rfl) :
    Ev W X (.Call (.Name "dict" p) [a] [] pos) Γ c (Is (.dct kds)) := ev_of_m (em_dictL hc hg hm ha hnd he hpl) fun sl e => by subst e; rfl
/-- a comprehension whose elements may hold objects beside the region -/
theorem lc_g {elt tg iter : Expr} {scope : Scope} {own : List (Str × Nat)} {α : Type} {xs : List α} {enc : α → D} (hc : X.calm = true) (hN : X.N.Nodup) (ok : BlkOk X.N X.env.scope scope own) (hi : EvI W X tg iter Γ 0 (Is (xs.map enc))) (asf : α → List (Nat × D))
    (ht : ∀ d ∈ xs, AtB X scope (fun Y => Tg Y tg (enc d) (asf d)) ∧ ∀ a ∈ asf d, a.1 ∈ own.map (·.2)) (Iv : Nat → List V → Hp → Hp → Prop) {R0 H0 Rl R H : Hp} {σ : L2.St} {n : Nat} (s : So W X.K R0 H0 Rl Γ R n σ H) (hn : n ≤ LIM)
    (sg : ∀ i acc R' H' R'' H'', Iv i acc R' H' → Gr W R' H' R'' H'' → Iv i acc R'' H'') (pk : ∀ i acc R' H' q l l', Iv i acc R' H' → H' q = some (.lst l) → Iv i acc R' (upd H' q (.lst l'))) (h0 : ∀ R' H', Iv 0 [] R' H')
    (step : ∀ i d, xs[i]? = some d → AtB X scope (fun Y => ∀ acc R' H' σ', So W X.K R0 H0 Rl (setG (wipeG Γ (own.map (·.2))) (asf d)) R' n σ' H' → Gr W R H R' H' → Iv i acc R' H' → ∀ Q' : VK, (∀ v R'' H'', Gr W R' H' R'' H'' → W.J n H'' → Iv (i + 1) (acc ++ [v]) R'' H'' → Q' v H'') → wE Y elt σ' H' Q'))
    (hl1 : xs.length ≤ 4000) {Q : VK} (fin : ∀ q acc R' H', Gr W R H R' H' → W.J n H' → R' q = none → H q = none → H' q = some (.lst acc) → Iv xs.length acc R' H' → Q (.ref q) H') (hs : ∀ x, foldedSetIterable iter X.env x = pure x := by intro _; rfl) :
    wE X (.ListComp elt [⟨tg, iter, [], 0⟩] scope pos) σ H Q := by
  refine wE_of (pe_lc hc hN (wI_ok tg iter) ok (gB_ok (tg := tg)) (iB_ok (ifs := [])) (eB_ok (elt := elt)) hs) ?_
  refine hi R0 H0 Rl σ R n H s hn _ fun J R1 H1 ds g1 j1 f1 ⟨G, Y, wk, hG, hY⟩ => ?_
  obtain rfl : ds = xs.map enc := f1
  rw [List.length_map] at wk
  intro Dd hD
  have s1 := s.grow g1 j1
  have nB : ¬ W.B Dd := So.nB j1 hD
  refine lc_it (g := gB X scope tg) (tt := iB X scope []) (te := eB X scope elt) (vs := own.map (·.2)) (σ := σ) (H1 := H1) (D := Dd) (Qd := fun H' => Q (.ref Dd) H') wk (fun i H' => i ≤ xs.length ∧ ∃ R' acc, Gr W R1 H1 R' H' ∧ W.J n H' ∧ R' Dd = none ∧ H' Dd = some (.lst acc) ∧ acc.length = i ∧ Iv i acc R' H') ?_ ?_ ?_ ?_
  · exact ⟨Nat.zero_le _, R1, [], Gr.newM g1.rh hD, W.loc j1 fun b o hb e => by rw [upd_ne (ne_of_none e hD)]; exact e, g1.rh.free hD, upd_same, rfl, h0 _ _⟩
  · rintro i H' _ ⟨_, R', acc, g, _⟩
    exact hG R' H' g.rr g.rh
  · rintro i x H' H'' hi ⟨_, R', acc, g, j, dR, dH, al, iv⟩ y
    obtain ⟨R2, dd, g2, kp, hdd, rx⟩ := hY i R' H' x H'' (by rw [List.length_map]; exact hi) g.rr g.rh y
    obtain ⟨d, hd, ed⟩ : ∃ d, xs[i]? = some d ∧ enc d = dd := by
      rw [List.getElem?_map] at hdd
      cases q : xs[i]? with
      | none => rw [q] at hdd; cases hdd
      | some d => rw [q] at hdd; exact ⟨d, rfl, Option.some.inj hdd⟩
    subst ed
    obtain ⟨ht1, ht2⟩ := ht d (List.mem_of_getElem? hd)
    intro s2 H2 C cl fp
    refine ht1 s2 H2 C cl fp x (wipe σ (own.map (·.2))) R2 H'' _ g2.rh rx fun bs hbs => ?_
    refine ⟨(wipe_setAll (hbs.fst ht2)).trans (wipe_wipe fun _ z => z), ?_⟩
    have j2 : W.J n H'' := W.loc j fun b o _ e => kp b o e
    have sB := (((s1.grow g j).grow g2 j2).wipe (own.map (·.2))).setAll hbs
    intro s3 H3 C3 cl3 fp3
    refine ets_nil (W := W) (X := Qq.Cx.bk X scope s3 H3 C3 cl3 fp3) R0 H0 Rl _ R2 _ H'' sB (by omega) _ fun R3 H4 g3 j3 => ?_
    refine iteT ?_
    intro s5 H5 C5 cl5 fp5
    have dR2 : R2 Dd = none := g2.nw Dd _ dH dR
    have dH2 : H'' Dd = some (.lst acc) := kp _ _ dH
    have dR3 : R3 Dd = none := g3.nw Dd _ dH2 dR2
    have dH3 : H4 Dd = some (.lst acc) := g3.hh Dd _ nB dH2
    have gA : Gr W R1 H1 R3 H4 := (g.trans g2).trans g3
    refine step i d hd s5 H5 C5 cl5 fp5 acc R3 H4 _ (sB.grow g3 j3) (g1.trans gA) (sg _ _ _ _ _ _ iv (g2.trans g3)) _ fun v R4 H6 g4 j4 iv4 => ?_
    have dR4 : R4 Dd = none := g4.nw Dd _ dH3 dR3
    have dH4 : H6 Dd = some (.lst acc) := g4.hh Dd _ nB dH3
    refine ⟨acc, dH4, Nat.lt_of_lt_of_le (by omega : acc.length < 4001) (by decide), hi, R4, acc ++ [v], (gA.trans g4).mut hD dR4, ?_, dR4, upd_same, by rw [List.length_append, al]; rfl, pk _ _ _ _ _ _ _ iv4 dH4⟩
    exact W.loc j4 fun b o hb e => by rw [upd_ne (show b ≠ Dd from fun z => hb.elim (fun h => nB (z ▸ h)) fun ⟨φ, h⟩ => (by rw [z, dH4, h] at e; cases e))]; exact e
  · rintro H' ⟨_, R', acc, g, j, dR, dH, al, iv⟩
    exact fin Dd acc R' H' (g1.trans g) j dR (none_back g1 hD) dH iv
end
end K5
/-! N5: the rows of a nest; the nest that is returned. -/
namespace K5
open PySem PySem.Spec PyProof.Rows L2 Qq
def FR (K : PySem.W.Frag) (W : Wd) (r : Addr) : Fam Own := fun o H0 R H => ∃ xs as, Ow W H0 R r ∧ H r = some (.dK xs) ∧ InO K W H0 R H xs o as ∧ r ∉ as
theorem stb_fr {K : PySem.W.Frag} {W : Wd} {r : Addr} : Stb W (FR K W r) where
  gr := fun g ⟨xs, as, h1, h2, h3, h4⟩ => ⟨xs, as, h1.gr g h2, g.hh _ _ h1.b h2, h3.gr g, h4⟩
  re := fun g ⟨xs, as, h1, h2, h3, h4⟩ => ⟨xs, as, h1.re g, h2, h3.re g, h4⟩
theorem all2_imp {α β : Type} {F G : α → β → Prop} (m : ∀ a b, F a b → G a b) {as : List α} {bs : List β} (h : All2 F as bs) : All2 G as bs := by
  induction h with
  | nil => exact .nil
  | cons a _ ih => exact .cons (m _ _ a) ih
theorem all2_mem {α β : Type} {F : α → β → Prop} {as : List α} {bs : List β} (h : All2 F as bs) {a : α} (ha : a ∈ as) : ∃ b, F a b := by
  induction h with
  | nil => cases ha
  | cons q _ ih =>
    rcases List.mem_cons.mp ha with rfl | ha
    · exact ⟨_, q⟩
    · exact ih ha
abbrev Tri := Addr × Addr × List (Key × V)
structure FlF (K : PySem.W.Frag) (W : Wd) (Hb R H : Hp) (z : Tri) (t : Str × Cols × Rws) : Prop where
  tb : ¬ W.B z.1
  tp : H z.1 = some (.tup [.str t.1, .ref z.2.1])
  ow : Ow W Hb R z.2.1
  dk : H z.2.1 = some (.dK z.2.2)
  rk : RpK K R z.2.2 (kRows t.2.2)
section
variable {K : PySem.W.Frag} {W : Wd} {Hb R H R' H' : Hp}
theorem FlF.gr {z : Tri} {t : Str × Cols × Rws} (g : Gr W R H R' H') (h : FlF K W Hb R H z t) : FlF K W Hb R' H' z t := ⟨h.tb, g.hh _ _ h.tb h.tp, h.ow.gr g h.dk, g.hh _ _ h.ow.b h.dk, h.rk.mono g.rr⟩
theorem FlF.off {z : Tri} {t : Str × Cols × Rws} {q : Addr} {u : HO} (h : FlF K W Hb R H z t) (n1 : z.1 ≠ q) (n2 : z.2.1 ≠ q) : FlF K W Hb R (upd H q u) z t := ⟨h.tb, by rw [upd_ne n1]; exact h.tp, h.ow, by rw [upd_ne n2]; exact h.dk, h.rk⟩
theorem fl_split : ∀ {L : List Tri} {o : Own}, All2 (FlF K W Hb R H) L o → (L.map (·.2.1)).Nodup →
    ∃ kvs : List (Key × V), Paired (fun p kv => SqT K H p [kV kv.1, kv.2]) (L.map (·.1)) kvs ∧ InO K W Hb R H kvs o (L.map (·.2.1)) ∧ kvs.map (·.1) = o.map fun t => Sum.inr t.1
  | _, _, .nil, _ => ⟨[], .nil, .nil, rfl⟩
  | _, _, .cons (a := z) (b := t) h tl, nd => by
    obtain ⟨n1, n2⟩ := List.nodup_cons.mp nd
    obtain ⟨kvs, e1, e2, e3⟩ := fl_split tl n2
    refine ⟨(.inr t.1, .ref z.2.1) :: kvs, .cons (SqT.of h.tp) e1, ?_, by rw [List.map_cons, List.map_cons, e3]⟩
    have := InO.cons (x := t.1) (cs := t.2.1) (rs := t.2.2) h.ow h.dk h.rk n1 e2
    exact this
theorem InO.fresh {xs : List (Key × V)} {o : Own} {as : List Addr} (h : InO K W Hb R H xs o as) {q : Addr} (hq : H q = none) : q ∉ as := by
  induction h with
  | nil => exact List.not_mem_nil
  | @cons x cs rs b kvs vs o as h1 h2 h3 h4 _ ih =>
    intro z
    rcases List.mem_cons.mp z with e | z
    · rw [e, h2] at hq; cases hq
    · exact ih z
end
section
variable {W : Wd} {X : Cx} {Γ : List Sl} {n c : Nat} {pos p tpos cpos : Pos} {e1 e2 tg iter : Expr} {scope : Scope} {own : List (Str × Nat)} {o : Own} {kk : Nat}
/-- dict([(t, a new dict) for ..]) -/
theorem evn_rows (asf : (Str × Cols × Rws) → List (Nat × D)) (hc : X.calm = true) (hN : X.N.Nodup) (ok : BlkOk X.N X.env.scope scope own) (hg : Gl X "dict") (hm : Bn X "dict") (hi : EvI W X tg iter Γ 0 (Is (o.map fun t => D.tup [.str t.1, dRows t.2.2])))
    (ht : ∀ t ∈ o, AtB X scope (fun Y => Tg Y tg (D.tup [.str t.1, dRows t.2.2]) (asf t) ∧ Ev W Y e1 (setG (wipeG Γ (own.map (·.2))) (asf t)) 0 (Is (.str t.1)) ∧ EvM W Y e2 (setG (wipeG Γ (own.map (·.2))) (asf t)) 0 (fun sl => sl = .md (kRows t.2.2)) ∧
      starEach [e1, e2] Y.env = (false, eval e1 Y.env) :: starEach [e2] Y.env ∧ starEach [e2] Y.env = (false, eval e2 Y.env) :: starEach [] Y.env) ∧ ∀ a ∈ asf t, a.1 ∈ own.map (·.2))
    (hl : o.length ≤ 4000) (nd : (oN o).Nodup) (hs : ∀ x, foldedSetIterable iter X.env x = pure x := by intro _; rfl)
    (he : starEach [.ListComp (.Tuple [e1, e2] kk tpos) [⟨tg, iter, [], 0⟩] scope cpos] X.env = (false, eval (.ListComp (.Tuple [e1, e2] kk tpos) [⟨tg, iter, [], 0⟩] scope cpos) X.env) :: starEach [] X.env := by rfl) (hpl : (backTo pos (starEach [] X.env)).any (·.1) = false := by rfl) :
    EvN W X (.Call (.Name "dict" p) [.ListComp (.Tuple [e1, e2] kk tpos) [⟨tg, iter, [], 0⟩] scope cpos] [] pos) Γ 0 (FR X.K W) (fun o' => o' = o) := fun R0 H0 Rl σ R n H s hn Q k => by
  refine wE_of (pe_callTy (call_dictP hc) hg hm PyProof.Rows.boot_dict (pa_cons (wE_ok _) pa_nil he) (by decide) (by decide) he hpl) ?_
  refine lc_g (n := n) hc hN ok hi asf (fun t h => ⟨fun s H C cl fp => ((ht t h).1 s H C cl fp).1, (ht t h).2⟩) (fun i acc R' H' => ∃ L : List Tri, acc = L.map (fun z => V.ref z.1) ∧ (L.map (·.2.1)).Nodup ∧ All2 (FlF X.K W H R' H') L (o.take i)) s hn ?_ ?_ ?_ ?_ hl ?_ hs
  · rintro i acc R' H' R'' H'' ⟨L, e, nd, al⟩ g
    exact ⟨L, e, nd, all2_imp (fun z t h => h.gr g) al⟩
  · rintro i acc R' H' q l l' ⟨L, e, nd, al⟩ hq
    exact ⟨L, e, nd, all2_imp (fun z t h => h.off (fun w => by have := h.tp; rw [w, hq] at this; cases this) fun w => by have := h.dk; rw [w, hq] at this; cases this) al⟩
  · exact fun R' H' => ⟨[], rfl, List.nodup_nil, by rw [List.take_zero]; exact .nil⟩
  · intro i t hti s1 H1 C1 cl1 fp1 acc R' H' σ' sB g ⟨L, e, nd, al⟩ Q' k'
    obtain ⟨_, ev1, ev2, z1, z2⟩ := (ht t (List.mem_of_getElem? hti)).1 s1 H1 C1 cl1 fp1
    refine wE_of (pe_tup (pa_cons (wE_ok e1) (pa_cons (wE_ok e2) pa_nil z2) z1)) ?_
    refine ev1 R0 H0 Rl σ' R' n H' sB hn _ fun v1 R2 H2 d g2 j2 f r => ?_
    rw [show d = .str t.1 from f] at r
    cases r
    refine ev2 R0 H0 Rl σ' R2 n H2 (sB.grow g2 j2) hn _ fun a R3 H3 sl g3 j3 ha mc f => ?_
    subst f
    obtain ⟨kvs, aR, aH, rk⟩ := mc
    refine ⟨by show 2 ≤ sizeLine; decide, fun q hq => ?_⟩
    have g4 : Gr W R3 H3 R3 (upd H3 q (.tup [.str t.1, .ref a])) := Gr.newM g3.rh hq
    have j4 : W.J n (upd H3 q (.tup [.str t.1, .ref a])) := W.loc j3 fun b o _ e => by rw [upd_ne (ne_of_none e hq)]; exact e
    have gz := (g2.trans g3).trans g4
    refine k' (.ref q) R3 _ gz j4 ⟨L ++ [(q, a, kvs)], by rw [e, List.map_append]; rfl, ?_, ?_⟩
    · rw [List.map_append]
      refine List.nodup_append.mpr ⟨nd, by simp, fun x hx y hy w => ?_⟩
      obtain rfl : y = a := by simpa using hy
      obtain ⟨z, hz, rfl⟩ := List.mem_map.mp hx
      obtain ⟨u, hu⟩ := all2_mem al hz
      have := none_back g2 ha
      rw [← w, hu.dk] at this; cases this
    · rw [take_succ hti]
      have na : a ≠ q := ne_of_none aH hq
      exact (all2_imp (fun z u h => h.gr gz) al).snoc ⟨So.nB j3 hq, upd_same, ⟨aR, none_back (g.trans g2) ha, So.nB j2 ha⟩, by show (upd H3 q _) a = _; rw [upd_ne na]; exact aH, rk⟩
  · rintro q acc R' H' g j qR qH hq ⟨L, rfl, nd2, al⟩
    rw [List.take_length] at al
    obtain ⟨kvs, e1, e2, e3⟩ := fl_split al nd2
    refine ⟨q, L.map (·.1), kvs, rfl, SqL.of (by rw [List.map_map]; exact hq), e1, fun r hr => ?_⟩
    have en : (kvs.map (·.1)).Nodup := by
      rw [e3]
      have z := List.Pairwise.map (R := fun a b : Str => a ≠ b) (S := fun a b : Key => a ≠ b) Sum.inr (fun a b h w => h (Sum.inr.inj w)) nd
      unfold oN at z
      rw [List.map_map] at z
      exact z
    rw [mergeK_nd kvs [] en, List.nil_append]
    refine k r o R' _ (g.trans (Gr.newM g.rh hr)) (W.loc j fun b o _ e => by rw [upd_ne (ne_of_none e hr)]; exact e) ⟨kvs, L.map (·.2.1), ⟨g.rh.free hr, none_back g hr, So.nB j hr⟩, upd_same, ?_, ?_⟩ rfl
    · exact e2.off (e2.fresh hr)
    · exact e2.fresh hr
/-- return {"columns": a, "rows": b} -/
theorem sn_retD {P : PsN Own} {r : Addr} {i j : Nat} {y1 y2 : Str} {k1 k2 : Nat} {p1 p2 p3 p4 dpos rpos : Pos} (nm : NoM Γ) (hN1 : X.N[i]? = some y1) (hv1 : Vis X.env.scope y1) (hΓ1 : Γ[i]? = some (.dat (.dct (oC o)))) (hN2 : X.N[j]? = some y2) (hv2 : Vis X.env.scope y2) (hΓ2 : Γ[j]? = some (.at_ r)) (hn : n ≤ LIM)
    (kt : ∀ H0 R H p, Nst X.K W H0 R p o H → P.rm H0 R H (.ref p) n) (hd1 : (y1 == ("__debug__" : Str)) = false := by decide) (hcd1 : (y1 == ("__classdict__" : Str)) = false := by decide) (hd2 : (y2 == ("__debug__" : Str)) = false := by decide) (hcd2 : (y2 == ("__classdict__" : Str)) = false := by decide) :
    SmN W X (FR X.K W r) (.Return (some (.Dict [some (.Constant (.str "columns") k1 p1), some (.Constant (.str "rows") k2 p2)] [.Name y1 p3, .Name y2 p4] dpos)) rpos) Γ n o P := fun R0 H0 Rl R σ H E s f en => by
  refine wS_of (ps_ret (pe_disp (pps_cons pe_str (pe_var hN1 hv1 hd1 hcd1) (pps_cons pe_str (pe_var hN2 hv2 hd2 hcd2) pps_nil)) rfl rfl (by simp) (by show 2 ≤ 15; decide))) ?_
  obtain ⟨xs, as, h1, h2, h3, h4⟩ := f
  obtain ⟨vc, hσ1, rc⟩ := s.slot hΓ1
  have hl : j < σ.length := by rw [s.env.len]; exact (List.getElem?_eq_some_iff.mp hΓ2).1
  have hσ2 : σ[j]? = some (some (.ref r)) := by
    have := s.env.ok j _ σ[j] hΓ2 (List.getElem?_eq_getElem hl)
    rw [List.getElem?_eq_getElem hl]; exact congrArg some this
  intro p hp
  refine ⟨vc, hσ1, ?_⟩
  refine ⟨_, hσ2, ?_⟩
  refine ⟨upd_same, [(.inr "columns", vc), (.inr "rows", .ref r)], rfl, by show 2 ≤ 15; decide, ?_⟩
  have hne : ¬ (Sum.inr (Str.ofString "columns") : Key) = Sum.inr (Str.ofString "rows") := by decide +kernel
  have em : mergeK [] [((Sum.inr (Str.ofString "columns") : Key), vc), (Sum.inr (Str.ofString "rows"), .ref r)] = [(Sum.inr (Str.ofString "columns"), vc), (Sum.inr (Str.ofString "rows"), .ref r)] :=
    mergeK_nd _ [] (by simp [hne])
  have eu : upd (upd H p (.dK [])) p (.dK (mergeK [] [((Sum.inr (Str.ofString "columns") : Key), vc), (Sum.inr (Str.ofString "rows"), .ref r)])) = upd H p (.dK [(Sum.inr (Str.ofString "columns"), vc), (Sum.inr (Str.ofString "rows"), .ref r)]) := by
    rw [em]
    funext b
    by_cases e : b = p
    · subst e; rw [upd_same, upd_same]
    · rw [upd_ne e, upd_ne e, upd_ne e]
  rw [eu]
  have g2 : Gr W R H R (upd H p (.dK [(Sum.inr (Str.ofString "columns"), vc), (Sum.inr (Str.ofString "rows"), .ref r)])) := Gr.newM s.rh hp
  have nr : r ≠ p := ne_of_none h2 hp
  refine en.rm n R _ _ (s.gr.trans g2) s.lo (W.loc s.j fun b o _ e => by rw [upd_ne (ne_of_none e hp)]; exact e) s.rb (kt _ _ _ _ ⟨vc, r, xs, as, ⟨s.rh.free hp, none_back s.gr hp, So.nB s.j hp⟩, upd_same, rc, h1, by rw [upd_ne nr]; exact h2, h3.off (h3.fresh hp), fun z => nr z.symm, h3.fresh hp, h4⟩)
end
end K5
namespace K5
open PySem PySem.Spec PyProof.Rows L2 Qq
theorem oC_nd {o : Own} (h : (oN o).Nodup) : ((oC o).map (·.1)).Nodup := by
  rw [oC_keys]
  exact List.Pairwise.map (R := fun a b : Str => a ≠ b) (S := fun a b : Key => a ≠ b) Sum.inr (fun a b h w => h (Sum.inr.inj w)) h
theorem kRows_nd {rs : Rws} (h : (rs.map (·.1)).Nodup) : ((kRows rs).map (·.1)).Nodup := by
  rw [kRows_keys]
  exact List.Pairwise.map (R := fun a b : Int => a ≠ b) (S := fun a b : Key => a ≠ b) Sum.inl (fun a b h w => h (Sum.inl.inj w)) h
theorem items_oR (o : Own) : prsD (oR o) = o.map fun t => D.tup [.str t.1, dRows t.2.2] := by unfold prsD oR; rw [List.map_map]; rfl
section
variable {P : Program} {w : World} {K : PySem.W.Frag} {mg : Str → Option Value} {base : Heap} {f ct Pt : Addr} {fd : FuncData}
abbrev SCopy (K : PySem.W.Frag) : Wd → List Sl → (Hp → Hp → Hp → V → Prop) → Prop := fun W as φ => ∃ o, as = [.dat (eOwn o)] ∧ WOwn o ∧ ∀ H0 R H p, Nst K W H0 R p o H → φ H0 R H (.ref p)
theorem sc51 : FnScope ["own", "columns", "table", "some", "rows"] ["own"] (defScope (top 51)) := ⟨rfl, rfl, rfl, by decide +kernel, rfl, by decide +kernel, by decide +kernel⟩
theorem ok51 (hB : Bns mg) (F : FnP K "_law_state_copy" (top 51) f fd) : FnOk P w K mg base CX0 1 f fd ["own"]  (spG K 0 (SCopy K)) := by
  refine fn_okG F sc51 (fun W as φ h => by obtain ⟨x, rfl, _⟩ := h; rfl) (by decide) fun cdv A outer s H E W as φ n hr hS hn => ?_
  obtain ⟨o, rfl, wo, hφ⟩ := hS
  have hgo := get_own o
  have hgc := get_ownC o
  have hl6 := wo.len
  have hl : o.length ≤ 4000 := by omega
  have hit := items_oC o
  refine ss_set sc51.nd (i := 1) (d := .dct (oC o)) rfl (by first | exact Or.inl rfl | exact Or.inr rfl) (by exact ev_dictL (kds := oC o) (by rfl) (by rfl) (by exact hB _ (by decide +kernel)) (by exact Ev.to (by exact ev_lcF (own := [("table", 2), ("some", 3)]) (xs := o) (enc := fun t => D.tup [.str t.1, .lst (t.2.1.map eCol)]) (fun x => [(2, .str x.1), (3, .lst (x.2.1.map eCol))]) (by rfl) sc51.nd (blkOk_by (N := ["own", "columns", "table", "some", "rows"]) (sc := defScope (top 51)) (by decide +kernel)) (by exact EvI.to (by exact EvI.z (by exact ei_items (by exact ev_dget (k := Sum.inr "columns") (by exact hu_of hr) (by exact ev_var (i := 0) rfl (by first | exact Or.inl rfl | exact Or.inr (Or.inl rfl) | exact Or.inr (Or.inr rfl)) rfl) (by exact ev_str) (by first | rfl | assumption | trivial | omega))) (by rfl)) hit) (fun x hx => by exact ⟨fun s1 H1 C1 cl1 fp1 => ⟨(by exact Tg.to (by exact tg_tup (by rfl) (by exact tl_cons (by exact tg_name (i := 2) sc51.nd rfl (by first | exact Or.inl rfl | exact Or.inr rfl)) (by exact tl_cons (by exact tg_name (i := 3) sc51.nd rfl (by first | exact Or.inl rfl | exact Or.inr rfl)) (by exact tl_nil)))) (by rfl)), (by exact Ev.to (by exact Ev.z (by exact ev_tupJ (by exact es_consI (by exact ev_var (i := 2) rfl (by first | exact Or.inl rfl | exact Or.inr (Or.inl rfl) | exact Or.inr (Or.inr rfl)) rfl) (by exact es_consI (by exact ev_listL (by rfl) (by exact hB _ (by decide +kernel)) (by exact ev_var (i := 3) rfl (by first | exact Or.inl rfl | exact Or.inr (Or.inl rfl) | exact Or.inr (Or.inr rfl)) rfl)) (by exact es_nil))) (by rfl) (by rfl)) (by rfl)) (by rfl))⟩, by simp⟩) (by first | rfl | assumption | trivial | omega)) (by exact congrArg D.lst hit.symm)) (oC_nd wo.nd)) (by omega) ?_
  refine ss_nest (fun r => stb_fr) sc51.nd (j := 4) rfl (by first | exact Or.inl rfl | exact Or.inr rfl) (c := 0) (by exact evn_rows (own := [("table", 2), ("some", 3)]) (fun t => [(2, .str t.1), (3, dRows t.2.2)]) (by rfl) sc51.nd (blkOk_by (N := ["own", "columns", "table", "some", "rows"]) (sc := defScope (top 51)) (by decide +kernel)) (by rfl) (by exact hB _ (by decide +kernel)) (by exact EvI.z (by exact EvI.to (by exact ei_items (by exact ev_dget (k := Sum.inr "rows") (by exact hu_of hr) (by exact ev_var (i := 0) rfl (by first | exact Or.inl rfl | exact Or.inr (Or.inl rfl) | exact Or.inr (Or.inr rfl)) rfl) (by exact ev_str) (by first | rfl | assumption | trivial | omega))) (items_oR o)) (by rfl)) (fun t ht => by have hkn := wo.kn t ht; exact ⟨fun s1 H1 C1 cl1 fp1 => ⟨(by exact Tg.to (by exact tg_tup (by rfl) (by exact tl_cons (by exact tg_name (i := 2) sc51.nd rfl (by first | exact Or.inl rfl | exact Or.inr rfl)) (by exact tl_cons (by exact tg_name (i := 3) sc51.nd rfl (by first | exact Or.inl rfl | exact Or.inr rfl)) (by exact tl_nil)))) (by rfl)), (by exact Ev.to (by exact Ev.z (by exact ev_var (i := 2) rfl (by first | exact Or.inl rfl | exact Or.inr (Or.inl rfl) | exact Or.inr (Or.inr rfl)) rfl) (by rfl)) (by rfl)), (by exact em_dictLI (by rfl) (by rfl) (by exact hB _ (by decide +kernel)) (by rfl) (by exact hB _ (by decide +kernel)) (by exact Ev.z (by exact ev_var (i := 3) rfl (by first | exact Or.inl rfl | exact Or.inr (Or.inl rfl) | exact Or.inr (Or.inr rfl)) rfl) (by rfl)) (kRows_nd hkn)), (by rfl), (by rfl)⟩, by simp⟩) hl wo.nd) (by omega) (fun r o' ho => ?_)
  obtain rfl : o' = o := ho
  refine sn_one (sn_retD (i := 1) (j := 4) (by exact nom_of (by rfl)) (by rfl) (by first | exact Or.inl rfl | exact Or.inr (Or.inl rfl) | exact Or.inr (Or.inr rfl)) (by rfl) (by rfl) (by first | exact Or.inl rfl | exact Or.inr (Or.inl rfl) | exact Or.inr (Or.inr rfl)) (by rfl) (by omega) fun H0 R H p h => ⟨hφ H0 R H p h, by omega⟩)
end
end K5
namespace K5
open PySem PySem.Spec PyProof.Rows L2 Qq
section
variable {W : Wd} {X : Cx} {Γ : List Sl} {k : Nat} {e : Expr} {o : Own} {p pos : Pos}
theorem evn_copy (F : CalG X.prog X.w X.K X.mg X.base k "_law_state_copy" ["own"] (spG X.K 0 (SCopy X.K))) (hr : Room k X.A) (hg : Gl X "_law_state_copy") (ha : Ev W X e Γ 0 (Is (eOwn o))) (wo : WOwn o)
    (he : starEach [e] X.env = (false, eval e X.env) :: starEach [] X.env := by rfl) (hpl : (backTo pos (starEach [] X.env)).any (·.1) = false := by rfl) : EvN W X (.Call (.Name "_law_state_copy" p) [e] [] pos) Γ 0 (FN X.K W) (fun o' => o' = o) := fun R0 H0 Rl σ R n H s hn Q q => by
  obtain ⟨f, fd, hm, hk, hb, F⟩ := F.ex
  refine wE_of (pe_call F hr hg hm hk hb .nil pass0 (wA_ok _) (by decide) he hpl) ?_
  refine es_consI ha es_nil he R0 H0 Rl σ R n H s hn _ fun vs R1 H1 ss g1 j1 f1 r1 => ?_
  obtain rfl : ss = [.dat (eOwn o)] := f1
  rw [List.append_nil]
  have s1 := s.grow g1 j1
  exact ⟨W, R1, n, _, fun H0 R H v => ∃ p, v = .ref p ∧ Nst X.K W H0 R p o H, g1.rh, s1.rb, j1, hn, r1, ⟨o, rfl, wo, fun H0 R H p h => ⟨p, rfl, h⟩⟩, fun v R' H' g j ⟨p, e, h⟩ => by
    subst e
    exact q p o R' H' (g1.trans g) j (stb_nst.re g1 h) rfl⟩
end
/-- a change -/
abbrev Chg := Str × Int × Option (List D)
def eChg : Chg → D
  | (x, k, some vs) => .tup [.str "put", .str x, .int k, .tup vs]
  | (x, k, none) => .tup [.str "drop", .str x, .int k]
def chg (o : Own) (c : Chg) : Own := setRows o c.1 (match c.2.2 with | some vs => putRow (rowsOf o c.1) c.2.1 vs | none => dropRow (rowsOf o c.1) c.2.1)
structure WChg (o : Own) (c : Chg) : Prop where
  nm : c.1 ∈ oN o
  key : 1 ≤ c.2.1 ∧ c.2.1 ≤ 999999
  put : ∀ vs, c.2.2 = some vs → WVals (colsOf o c.1) vs
  drp : c.2.2 = none → (getK (kRows (rowsOf o c.1)) (.inl c.2.1)).isSome = true
theorem colsOf_mem {o : Own} {x : Str} (h : x ∈ oN o) : ∃ t ∈ o, colsOf o x = t.2.1 := by
  induction o with
  | nil => cases h
  | cons t o ih =>
    by_cases q : t.1 = x
    · exact ⟨t, List.mem_cons_self .., by simp [colsOf, q]⟩
    · have h' : x ∈ oN o := (List.mem_cons.mp h).resolve_left fun z => q z.symm
      obtain ⟨u, hu, e⟩ := ih h'
      refine ⟨u, List.mem_cons_of_mem _ hu, ?_⟩
      rw [← e]
      simp only [colsOf, List.find?_cons, decide_eq_false q]
section
variable {P : Program} {w : World} {K : PySem.W.Frag} {mg : Str → Option Value} {base : Heap} {f ct Pt : Addr} {fd : FuncData}
abbrev SChg := SP (fun _ (x : Own × Chg) => WOwn x.1 ∧ WChg x.1 x.2) (fun x => [eOwn x.1, eChg x.2]) fun x => .tup [eOwn (chg x.1 x.2), .non]
theorem sc55 : FnScope ["own", "change", "word", "table", "key", "later"] ["own", "change"] (defScope (top 55)) := ⟨rfl, rfl, rfl, by decide +kernel, rfl, by decide +kernel, by decide +kernel⟩
theorem ok55 (hB : Bns mg) (c_copy : CalG P w K mg base 1 "_law_state_copy" ["own"] (spG K 0 (SCopy K))) (c__law_state_are_values : Cal P w K mg base 3 "_law_state_are_values" ["columns", "value"] 0 SAreVals) (F : FnP K "_law_state_changed" (top 55) f fd) : FnOk P w K mg base CX0 4 f fd ["own", "change"]  (spF K 0 SChg) := by
  refine fn_ok F sc55 (fun W as φ h => by obtain ⟨x, rfl, _⟩ := h; rfl) (by decide) fun cdv A outer s H E W as φ n hr hS hn => ?_
  obtain ⟨⟨o, x, k, ov⟩, rfl, ⟨wo, wc⟩, hφ⟩ := hS
  have hgo := get_own o
  have hgc := get_ownC o
  have hx : x ∈ oN o := wc.nm
  have hgx := get_oC hx
  have hcol : (!(getK (oC o) (Sum.inr x)).isSome) = false := by rw [hgx]; rfl
  obtain ⟨t, htm, hte⟩ := rowsOf_mem hx
  have hrl : (rowsOf o x).length < 4000 := by rw [hte]; have := wo.rl t htm; omega
  have heq1 : eqS (.str "drop") (.str "drop") = true := by decide +kernel
  have heq2 : eqS (.str "put") (.str "drop") = false := by decide +kernel
  cases ov with
  | none =>
    have hin := wc.drp rfl
    refine ss_cons (sm_asg (φ := Is (.tup [.str "drop", .str x, .int k])) (by exact Ev.to (by exact (by first | exact ev_slT (by exact ev_var (i := 1) rfl (by first | exact Or.inl rfl | exact Or.inr (Or.inl rfl) | exact Or.inr (Or.inr rfl)) rfl) eo_none (by exact eo_some (by exact Ev.z (by exact ev_int) (by rfl))) | exact ev_slL (by exact ev_var (i := 1) rfl (by first | exact Or.inl rfl | exact Or.inr (Or.inl rfl) | exact Or.inr (Or.inr rfl)) rfl) eo_none (by exact eo_some (by exact Ev.z (by exact ev_int) (by rfl))))) (by rfl)) (by omega) fun d hd => ?_)
    obtain rfl := hd
    refine ⟨[(2, .str "drop"), (3, .str x), (4, .int k)], (by exact Tg.to (by exact tg_tup (by rfl) (by exact tl_cons (by exact tg_name (i := 2) sc55.nd rfl (by first | exact Or.inl rfl | exact Or.inr rfl)) (by exact tl_cons (by exact tg_name (i := 3) sc55.nd rfl (by first | exact Or.inl rfl | exact Or.inr rfl)) (by exact tl_cons (by exact tg_name (i := 4) sc55.nd rfl (by first | exact Or.inl rfl | exact Or.inr rfl)) (by exact tl_nil))))) (by rfl)), ?_⟩
    refine ss_ifF (z := _) (by exact et_dnotin (k := Sum.inr x) (hu_of hr) (by exact ev_var (i := 3) rfl (by first | exact Or.inl rfl | exact Or.inr (Or.inl rfl) | exact Or.inr (Or.inr rfl)) rfl) (by exact ev_dget (k := Sum.inr "columns") (by exact hu_of hr) (by exact ev_var (i := 0) rfl (by first | exact Or.inl rfl | exact Or.inr (Or.inl rfl) | exact Or.inr (Or.inr rfl)) rfl) (by exact ev_str) (by first | rfl | assumption | trivial | omega))) hcol (by omega) ?_
    refine ss_nest (fun p => stb_nst) sc55.nd (j := 5) rfl (by first | exact Or.inl rfl | exact Or.inr rfl) (c := 0) (by exact evn_copy c_copy (by exact hr.mono (by decide)) (by rfl) (by exact ev_var (i := 0) rfl (by first | exact Or.inl rfl | exact Or.inr (Or.inl rfl) | exact Or.inr (Or.inr rfl)) rfl) wo) (by omega) (fun p o' ho => ?_)
    obtain rfl : o = o' := ho.symm
    refine sn_cons (sn_if stb_nst (etn_of (by exact et_eq (by exact ev_var (i := 2) rfl (by first | exact Or.inl rfl | exact Or.inr (Or.inl rfl) | exact Or.inr (Or.inr rfl)) rfl) (by exact ev_str) (by first | rfl | assumption | trivial | omega))) (by omega) (fun hz => ?_) (fun hz => by have hz : false = eqS (.str "drop") (.str "drop") := hz; rw [heq1] at hz; cases hz))
    refine sn_cons (sn_if stb_nst (by exact etn_notin (kk := k) (x := x) (hu_of hr) (i := 5) (by rfl) (by first | exact Or.inl rfl | exact Or.inr (Or.inl rfl) | exact Or.inr (Or.inr rfl)) (by rfl) (by exact ev_var (i := 4) rfl (by first | exact Or.inl rfl | exact Or.inr (Or.inl rfl) | exact Or.inr (Or.inr rfl)) rfl) (by exact ev_var (i := 3) rfl (by first | exact Or.inl rfl | exact Or.inr (Or.inl rfl) | exact Or.inr (Or.inr rfl)) rfl) hx) (by omega) (fun hz => ?_) (fun _ => ?_))
    · exfalso
      have hz : true = !(getK (kRows (rowsOf o x)) (.inl k)).isSome := hz
      rw [hin] at hz; cases hz
    refine sn_nil ?_
    refine sn_cons (sn_pop1 (kk := k) (x := x) (i := 5) (hu_of hr) (by exact nom_of (by rfl)) (by rfl) (by first | exact Or.inl rfl | exact Or.inr (Or.inl rfl) | exact Or.inr (Or.inr rfl)) (by rfl) (by exact ev_var (i := 3) rfl (by first | exact Or.inl rfl | exact Or.inr (Or.inl rfl) | exact Or.inr (Or.inr rfl)) rfl) (by exact ev_var (i := 4) rfl (by first | exact Or.inl rfl | exact Or.inr (Or.inl rfl) | exact Or.inr (Or.inr rfl)) rfl) hx hin (by omega) ?_)
    refine sn_frz (i := 5) (by exact nom_of (by rfl)) (by rfl) ?_
    refine ss_retE (d := .tup [eOwn (setRows o x (dropRow (rowsOf o x) k)), .non]) (by exact Ev.to (by exact ev_tupJ (by exact es_consI (by exact ev_var (i := 5) rfl (by first | exact Or.inl rfl | exact Or.inr (Or.inl rfl) | exact Or.inr (Or.inr rfl)) rfl) (by exact es_consI (by exact ev_non) (by exact es_nil))) (by rfl) (by rfl)) (by rfl)) (by omega) rfl ⟨hφ, by omega⟩
  | some vs =>
    have hv := wc.put vs rfl
    obtain ⟨u, hum, hue⟩ := colsOf_mem hx
    have hcs : WCols (colsOf o x) := by rw [hue]; exact wo.cs u hum
    refine ss_cons (sm_asg (φ := Is (.tup [.str "put", .str x, .int k])) (by exact Ev.to (by exact (by first | exact ev_slT (by exact ev_var (i := 1) rfl (by first | exact Or.inl rfl | exact Or.inr (Or.inl rfl) | exact Or.inr (Or.inr rfl)) rfl) eo_none (by exact eo_some (by exact Ev.z (by exact ev_int) (by rfl))) | exact ev_slL (by exact ev_var (i := 1) rfl (by first | exact Or.inl rfl | exact Or.inr (Or.inl rfl) | exact Or.inr (Or.inr rfl)) rfl) eo_none (by exact eo_some (by exact Ev.z (by exact ev_int) (by rfl))))) (by rfl)) (by omega) fun d hd => ?_)
    obtain rfl := hd
    refine ⟨[(2, .str "put"), (3, .str x), (4, .int k)], (by exact Tg.to (by exact tg_tup (by rfl) (by exact tl_cons (by exact tg_name (i := 2) sc55.nd rfl (by first | exact Or.inl rfl | exact Or.inr rfl)) (by exact tl_cons (by exact tg_name (i := 3) sc55.nd rfl (by first | exact Or.inl rfl | exact Or.inr rfl)) (by exact tl_cons (by exact tg_name (i := 4) sc55.nd rfl (by first | exact Or.inl rfl | exact Or.inr rfl)) (by exact tl_nil))))) (by rfl)), ?_⟩
    refine ss_ifF (z := _) (by exact et_dnotin (k := Sum.inr x) (hu_of hr) (by exact ev_var (i := 3) rfl (by first | exact Or.inl rfl | exact Or.inr (Or.inl rfl) | exact Or.inr (Or.inr rfl)) rfl) (by exact ev_dget (k := Sum.inr "columns") (by exact hu_of hr) (by exact ev_var (i := 0) rfl (by first | exact Or.inl rfl | exact Or.inr (Or.inl rfl) | exact Or.inr (Or.inr rfl)) rfl) (by exact ev_str) (by first | rfl | assumption | trivial | omega))) hcol (by omega) ?_
    refine ss_nest (fun p => stb_nst) sc55.nd (j := 5) rfl (by first | exact Or.inl rfl | exact Or.inr rfl) (c := 0) (by exact evn_copy c_copy (by exact hr.mono (by decide)) (by rfl) (by exact ev_var (i := 0) rfl (by first | exact Or.inl rfl | exact Or.inr (Or.inl rfl) | exact Or.inr (Or.inr rfl)) rfl) wo) (by omega) (fun p o' ho => ?_)
    obtain rfl : o = o' := ho.symm
    refine sn_cons (sn_if stb_nst (etn_of (by exact et_eq (by exact ev_var (i := 2) rfl (by first | exact Or.inl rfl | exact Or.inr (Or.inl rfl) | exact Or.inr (Or.inr rfl)) rfl) (by exact ev_str) (by first | rfl | assumption | trivial | omega))) (by omega) (fun hz => by have hz : true = eqS (.str "put") (.str "drop") := hz; rw [heq2] at hz; cases hz) (fun hz => ?_))
    refine sn_nil ?_
    refine sn_cons (sn_if stb_nst (etn_of (by exact et_not (by exact et_v (by exact ev_cp ((colsOf o x, vs) : Cols × List D) (by exact c__law_state_are_values) (by exact hr.mono (by first | decide | omega)) (by rfl) (by exact es_consI (by exact ev_dget (k := (Sum.inr x)) (by exact hu_of hr) (by exact ev_dget (k := Sum.inr "columns") (by exact hu_of hr) (by exact ev_var (i := 0) rfl (by first | exact Or.inl rfl | exact Or.inr (Or.inl rfl) | exact Or.inr (Or.inr rfl)) rfl) (by exact ev_str) (by first | rfl | assumption | trivial | omega)) (by exact ev_var (i := 3) rfl (by first | exact Or.inl rfl | exact Or.inr (Or.inl rfl) | exact Or.inr (Or.inr rfl)) rfl) (by exact hgx)) (by exact es_consI (by exact (by first | exact ev_ixTI (by exact ev_var (i := 1) rfl (by first | exact Or.inl rfl | exact Or.inr (Or.inl rfl) | exact Or.inr (Or.inr rfl)) rfl) (by exact ev_int) (by first | rfl | assumption | trivial | omega) | exact ev_ixLI (by exact ev_var (i := 1) rfl (by first | exact Or.inl rfl | exact Or.inr (Or.inl rfl) | exact Or.inr (Or.inr rfl)) rfl) (by exact ev_int) (by first | rfl | assumption | trivial | omega))) (by exact es_nil))) (by rfl) (by exact ⟨hcs, hv⟩) (by rfl))))) (by omega) (fun hz => by have hz : true = !true := hz; cases hz) (fun hz => ?_))
    refine sn_nil ?_
    refine sn_cons (sn_dset (kk := k) (x := x) (vs := vs) (i := 5) (hu_of hr) (by exact nom_of (by rfl)) (by rfl) (by first | exact Or.inl rfl | exact Or.inr (Or.inl rfl) | exact Or.inr (Or.inr rfl)) (by rfl) (by exact Ev.to (by exact Ev.z (by exact (by first | exact ev_ixTI (by exact ev_var (i := 1) rfl (by first | exact Or.inl rfl | exact Or.inr (Or.inl rfl) | exact Or.inr (Or.inr rfl)) rfl) (by exact ev_int) (by first | rfl | assumption | trivial | omega) | exact ev_ixLI (by exact ev_var (i := 1) rfl (by first | exact Or.inl rfl | exact Or.inr (Or.inl rfl) | exact Or.inr (Or.inr rfl)) rfl) (by exact ev_int) (by first | rfl | assumption | trivial | omega))) (by rfl)) (by rfl)) (by exact ev_var (i := 3) rfl (by first | exact Or.inl rfl | exact Or.inr (Or.inl rfl) | exact Or.inr (Or.inr rfl)) rfl) (by exact ev_var (i := 4) rfl (by first | exact Or.inl rfl | exact Or.inr (Or.inl rfl) | exact Or.inr (Or.inr rfl)) rfl) hx hrl (by omega) ?_)
    refine sn_frz (i := 5) (by exact nom_of (by rfl)) (by rfl) ?_
    refine ss_retE (d := .tup [eOwn (setRows o x (putRow (rowsOf o x) k vs)), .non]) (by exact Ev.to (by exact ev_tupJ (by exact es_consI (by exact ev_var (i := 5) rfl (by first | exact Or.inl rfl | exact Or.inr (Or.inl rfl) | exact Or.inr (Or.inr rfl)) rfl) (by exact es_consI (by exact ev_non) (by exact es_nil))) (by rfl) (by rfl)) (by rfl)) (by omega) rfl ⟨hφ, by omega⟩
end
end K5
namespace K5
open PySem PySem.Spec PyProof.Rows L2 Qq
/-! states over few keys -/
def pool6 : List Int := [1, 2, 3, 7, 12, 999999]
theorem pool6_ok : ∀ k ∈ pool6, 1 ≤ k ∧ k ≤ 999999 := by decide
structure WO (o : Own) : Prop where
  len : o.length ≤ 6
  nm : ∀ t ∈ o, nameS t.1 = true
  nd : (oN o).Nodup
  cs : ∀ t ∈ o, WCols t.2.1
  kp : ∀ t ∈ o, ∀ r ∈ t.2.2, r.1 ∈ pool6
  kn : ∀ t ∈ o, (t.2.2.map (·.1)).Nodup
  vs : ∀ t ∈ o, ∀ r ∈ t.2.2, WVals t.2.1 r.2
theorem WO.rl {o : Own} (h : WO o) {t : Str × Cols × Rws} (ht : t ∈ o) : t.2.2.length ≤ 6 := by
  have := nd_len (pool := pool6) (h.kn t ht) fun k hk => by
    obtain ⟨r, hr, rfl⟩ := List.mem_map.mp hk
    exact h.kp t ht r hr
  rwa [List.length_map] at this
theorem WO.w {o : Own} (h : WO o) : WOwn o := ⟨h.len, h.nm, h.nd, h.cs, fun t ht r hr => pool6_ok _ (h.kp t ht r hr), h.kn, h.vs, fun t ht => Nat.le_trans (h.rl ht) (by decide)⟩
theorem mem_set {o : Own} {x : Str} {rs : Rws} {t : Str × Cols × Rws} (h : t ∈ setRows o x rs) : t ∈ o ∨ ∃ u ∈ o, u.1 = x ∧ t = (u.1, u.2.1, rs) := by
  induction o with
  | nil => cases h
  | cons u o ih =>
    unfold setRows at h
    by_cases e : u.1 = x
    · rw [if_pos e] at h
      rcases List.mem_cons.mp h with h | h
      · exact .inr ⟨u, List.mem_cons_self, e, h⟩
      · exact .inl (List.mem_cons_of_mem _ h)
    · rw [if_neg e] at h
      rcases List.mem_cons.mp h with h | h
      · exact .inl (h ▸ List.mem_cons_self)
      · rcases ih h with h | ⟨v, hv, h⟩
        · exact .inl (List.mem_cons_of_mem _ h)
        · exact .inr ⟨v, List.mem_cons_of_mem _ hv, h⟩
theorem mem_nd {o : Own} (nd : (oN o).Nodup) {u : Str × Cols × Rws} (hu : u ∈ o) : rowsOf o u.1 = u.2.2 ∧ colsOf o u.1 = u.2.1 := by
  induction o with
  | nil => cases hu
  | cons t o ih =>
    obtain ⟨n1, n2⟩ := List.nodup_cons.mp nd
    rcases List.mem_cons.mp hu with rfl | hu
    · exact ⟨by simp [rowsOf], by simp [colsOf]⟩
    · have e : ¬ t.1 = u.1 := fun z => n1 (by have : u.1 ∈ oN o := List.mem_map.mpr ⟨u, hu, rfl⟩; rw [← z] at this; exact this)
      obtain ⟨h1, h2⟩ := ih n2 hu
      refine ⟨?_, ?_⟩
      · rw [← h1]; simp only [rowsOf, List.find?_cons, decide_eq_false e]
      · rw [← h2]; simp only [colsOf, List.find?_cons, decide_eq_false e]
theorem mem_put {rs : Rws} {k : Int} {vs : List D} {r : Row} (h : r ∈ putRow rs k vs) : r ∈ rs ∨ r = (k, vs) := by
  unfold putRow at h
  split at h
  · obtain ⟨q, hq, rfl⟩ := List.mem_map.mp h
    split
    · rename_i e
      exact .inr (by rw [e])
    · exact .inl hq
  · rcases List.mem_append.mp h with h | h
    · exact .inl h
    · exact .inr (by simpa using h)
theorem put_keys (rs : Rws) (k : Int) (vs : List D) (h : (rs.map (·.1)).Nodup) : ((putRow rs k vs).map (·.1)).Nodup := by
  unfold putRow
  split
  · rw [List.map_map]
    have e : rs.map ((fun r : Row => r.1) ∘ fun r => if r.1 = k then (r.1, vs) else r) = rs.map fun r => r.1 := List.map_congr_left fun r _ => by
      by_cases q : r.1 = k
      · simp [q]
      · simp [q]
    rw [e]; exact h
  · rename_i q
    rw [List.map_append]
    refine List.nodup_append.mpr ⟨h, by simp, fun a ha b hb e => ?_⟩
    obtain ⟨r, hr, rfl⟩ := List.mem_map.mp ha
    simp only [List.map_cons, List.map_nil, List.mem_singleton] at hb
    exact q (List.any_eq_true.mpr ⟨r, hr, decide_eq_true (e.trans hb)⟩)
theorem mem_drop {rs : Rws} {k : Int} {r : Row} (h : r ∈ dropRow rs k) : r ∈ rs := (List.mem_filter.mp h).1
theorem drop_keys (rs : Rws) (k : Int) (h : (rs.map (·.1)).Nodup) : ((dropRow rs k).map (·.1)).Nodup := List.Nodup.sublist (List.filter_sublist.map _) h
/-- other rows of a table -/
theorem WO.set {o : Own} (h : WO o) {x : Str} {rs : Rws} (hx : x ∈ oN o) (h1 : ∀ r ∈ rs, r.1 ∈ pool6) (h2 : (rs.map (·.1)).Nodup) (h3 : ∀ r ∈ rs, WVals (colsOf o x) r.2) : WO (setRows o x rs) := by
  have hl : (setRows o x rs).length = o.length := by
    have := congrArg List.length (setRows_oN o x rs)
    unfold oN at this
    rwa [List.length_map, List.length_map] at this
  refine ⟨by rw [hl]; exact h.len, fun t ht => ?_, by rw [setRows_oN]; exact h.nd, fun t ht => ?_, fun t ht => ?_, fun t ht => ?_, fun t ht => ?_⟩
  all_goals rcases mem_set ht with q | ⟨u, hu, rfl, rfl⟩
  · exact h.nm t q
  · exact h.nm u hu
  · exact h.cs t q
  · exact h.cs u hu
  · exact h.kp t q
  · exact h1
  · exact h.kn t q
  · exact h2
  · exact h.vs t q
  · have e := (mem_nd h.nd hu).2
    intro r hr
    have := h3 r hr
    rwa [e] at this
theorem WO.rows {o : Own} (h : WO o) {x : Str} (hx : x ∈ oN o) : (∀ r ∈ rowsOf o x, r.1 ∈ pool6) ∧ ((rowsOf o x).map (·.1)).Nodup ∧ ∀ r ∈ rowsOf o x, WVals (colsOf o x) r.2 := by
  obtain ⟨t, ht, e⟩ := List.mem_map.mp hx
  subst e
  obtain ⟨e1, e2⟩ := mem_nd h.nd ht
  rw [e1, e2]
  exact ⟨h.kp t ht, h.kn t ht, h.vs t ht⟩
theorem WO.chg {o : Own} (h : WO o) {c : Chg} (w : WChg o c) (hp : c.2.1 ∈ pool6) : WO (chg o c) := by
  obtain ⟨r1, r2, r3⟩ := h.rows w.nm
  obtain ⟨x, k, ov⟩ := c
  cases ov with
  | none => exact h.set w.nm (fun r hr => r1 r (mem_drop hr)) (drop_keys _ _ r2) fun r hr => r3 r (mem_drop hr)
  | some vs => exact h.set w.nm (fun r hr => (mem_put hr).elim (r1 r) fun e => e ▸ hp) (put_keys _ _ _ r2) fun r hr => (mem_put hr).elim (r3 r) fun e => e ▸ w.put vs rfl
/-- changes that can be done one behind another -/
def WChgs : Own → List Chg → Prop
  | _, [] => True
  | o, c :: cs => (WChg o c ∧ c.2.1 ∈ pool6) ∧ WChgs (chg o c) cs
def chgs (o : Own) (cs : List Chg) : Own := cs.foldl chg o
theorem WChgs.at : ∀ {cs : List Chg} {o : Own} {i : Nat} {c : Chg}, WChgs o cs → cs[i]? = some c → WChg (chgs o (cs.take i)) c ∧ c.2.1 ∈ pool6
  | [], _, i, _, _, h => by simp at h
  | d :: cs, o, 0, c, w, h => by simp at h; subst h; exact w.1
  | d :: cs, o, i + 1, c, w, h => by
    have := WChgs.at (i := i) (c := c) w.2 (by simpa using h)
    exact this
theorem WO.chgs : ∀ {cs : List Chg} {o : Own}, WO o → WChgs o cs → WO (K5.chgs o cs)
  | [], _, h, _ => h
  | c :: cs, o, h, w => (h.chg w.1.1 w.1.2).chgs w.2
theorem WChgs.snoc : ∀ {cs : List Chg} {o : Own} {c : Chg}, WChgs o cs → WChg (chgs o cs) c → c.2.1 ∈ pool6 → WChgs o (cs ++ [c])
  | [], _, _, _, h, p => ⟨⟨h, p⟩, trivial⟩
  | d :: cs, o, c, w, h, p => ⟨w.1, WChgs.snoc w.2 h p⟩
theorem WChgs.take : ∀ {cs : List Chg} {o : Own} (i : Nat), WChgs o cs → WChgs o (cs.take i)
  | [], _, i, _ => by rw [List.take_nil]; trivial
  | c :: cs, o, 0, _ => trivial
  | c :: cs, o, i + 1, w => ⟨w.1, WChgs.take i w.2⟩
theorem chgs_snoc (o : Own) (cs : List Chg) (c : Chg) : chgs o (cs ++ [c]) = chg (chgs o cs) c := by unfold chgs; rw [List.foldl_append]; rfl
section
variable {P : Program} {w : World} {K : PySem.W.Frag} {mg : Str → Option Value} {base : Heap} {f ct Pt : Addr} {fd : FuncData}
abbrev SDealt := SP (fun _ (x : Own × List Chg) => WO x.1 ∧ WChgs x.1 x.2 ∧ x.2.length ≤ 4000) (fun x => [eOwn x.1, .tup (x.2.map eChg)]) fun x => .tup [eOwn (chgs x.1 x.2), .non]
theorem sc56 : FnScope ["own", "changes", "change", "due"] ["own", "changes"] (defScope (top 56)) := ⟨rfl, rfl, rfl, by decide +kernel, rfl, by decide +kernel, by decide +kernel⟩
theorem ok56 (hB : Bns mg) (c__law_state_changed : Cal P w K mg base 4 "_law_state_changed" ["own", "change"] 0 SChg) (F : FnP K "_law_state_dealt" (top 56) f fd) : FnOk P w K mg base CX0 5 f fd ["own", "changes"]  (spF K 0 SDealt) := by
  refine fn_ok F sc56 (fun W as φ h => by obtain ⟨x, rfl, _⟩ := h; rfl) (by decide) fun cdv A outer s H E W as φ n hr hS hn => ?_
  obtain ⟨⟨o, cs⟩, rfl, ⟨wo, wc, hl⟩, hφ⟩ := hS
  refine ss_cons (sm_for (xs := cs) (enc := eChg) (by exact PassesOwn.never) (by rfl) (by exact EvI.z (by exact ei_tupI (by exact ev_var (i := 1) rfl (by first | exact Or.inl rfl | exact Or.inr (Or.inl rfl) | exact Or.inr (Or.inr rfl)) rfl)) (by rfl)) (by omega)
    (fun k Γ' n' => ∃ a b, Γ' = [.dat (eOwn (chgs o (cs.take k))), .dat (.tup (cs.map eChg)), a, b] ∧ n' ≤ n) ⟨_, _, rfl, by omega⟩ ?_ ?_)
  · rintro k c Γ' n' hk ⟨a, b, rfl, hle⟩
    obtain ⟨wck, hpk⟩ := wc.at hk
    have wok := wo.chgs (wc.take k)
    refine ⟨_, (by exact tg_name (i := 2) sc56.nd rfl (by first | exact Or.inl rfl | exact Or.inr rfl)), ?_⟩
    refine ss_cons (sm_asg (φ := Is (.tup [eOwn (chg (chgs o (cs.take k)) c), .non])) (by exact (by exact ev_cp ((chgs o (cs.take k), c) : Own × Chg) (by exact c__law_state_changed) (by exact hr.mono (by first | decide | omega)) (by rfl) (by exact es_consI (by exact ev_var (i := 0) rfl (by first | exact Or.inl rfl | exact Or.inr (Or.inl rfl) | exact Or.inr (Or.inr rfl)) rfl) (by exact es_consI (by exact ev_var (i := 2) rfl (by first | exact Or.inl rfl | exact Or.inr (Or.inl rfl) | exact Or.inr (Or.inr rfl)) rfl) (by exact es_nil))) (by rfl) (by exact ⟨wok.w, wck⟩) (by rfl))) (by omega) fun d hd => ?_)
    obtain rfl := hd
    refine ⟨[(0, eOwn (chg (chgs o (cs.take k)) c)), (3, .non)], (by exact Tg.to (by exact tg_tup (by rfl) (by exact tl_cons (by exact tg_name (i := 0) sc56.nd rfl (by first | exact Or.inl rfl | exact Or.inr rfl)) (by exact tl_cons (by exact tg_name (i := 3) sc56.nd rfl (by first | exact Or.inl rfl | exact Or.inr rfl)) (by exact tl_nil)))) (by rfl)), ?_⟩
    refine ss_ifF (z := _) (by exact et_notN (by exact ev_var (i := 3) rfl (by first | exact Or.inl rfl | exact Or.inr (Or.inl rfl) | exact Or.inr (Or.inr rfl)) rfl)) (by rfl) (by omega) ?_
    refine ss_nil ⟨.dat (eChg c), .dat .non, ?_, by omega⟩
    rw [take_succ hk, chgs_snoc]; rfl
  · rintro Γ' n' ⟨a, b, rfl, hle⟩
    rw [List.take_length]
    refine ss_retE (d := .tup [eOwn (chgs o cs), .non]) (by exact Ev.to (by exact ev_tupJ (by exact es_consI (by exact ev_var (i := 0) rfl (by first | exact Or.inl rfl | exact Or.inr (Or.inl rfl) | exact Or.inr (Or.inr rfl)) rfl) (by exact es_consI (by exact ev_non) (by exact es_nil))) (by rfl) (by rfl)) (by rfl)) (by omega) rfl ⟨hφ, by omega⟩
end
end K5
namespace K5
open PySem PySem.Spec PyProof.Rows L2 Qq
/-- a key's rows of one table laid -/
def lay1 (k : Int) (o : Own) (p : Str × Option (List D)) : Own := match p.2 with
  | none => setRows o p.1 (dropRow (rowsOf o p.1) k)
  | some vs => setRows (setRows o p.1 (dropRow (rowsOf o p.1) k)) p.1 (putRow (rowsOf (setRows o p.1 (dropRow (rowsOf o p.1) k)) p.1) k vs)
def laid (o : Own) (k : Int) (kr : KRs) : Own := kr.foldl (lay1 k) o
theorem colsOf_set : ∀ {o : Own} {x y : Str} {rs : Rws}, colsOf (setRows o x rs) y = colsOf o y
  | [], _, _, _ => rfl
  | t :: o, x, y, rs => by
    unfold setRows
    split
    · by_cases e : t.1 = y
      · simp [colsOf, e]
      · simp [colsOf, e]
    · by_cases e : t.1 = y
      · simp [colsOf, e]
      · have ih := colsOf_set (o := o) (x := x) (y := y) (rs := rs)
        simp only [colsOf, List.find?_cons, decide_eq_false e] at ih ⊢
        exact ih
structure LayOk (o : Own) (p : Str × Option (List D)) : Prop where
  nm : p.1 ∈ oN o
  vs : ∀ vs, p.2 = some vs → WVals (colsOf o p.1) vs
theorem WO.drop {o : Own} (h : WO o) {x : Str} (hx : x ∈ oN o) (k : Int) : WO (setRows o x (dropRow (rowsOf o x) k)) := by
  obtain ⟨r1, r2, r3⟩ := h.rows hx
  exact h.set hx (fun r hr => r1 r (mem_drop hr)) (drop_keys _ _ r2) fun r hr => r3 r (mem_drop hr)
theorem WO.put {o : Own} (h : WO o) {x : Str} (hx : x ∈ oN o) {k : Int} (hk : k ∈ pool6) {vs : List D} (hv : WVals (colsOf o x) vs) : WO (setRows o x (putRow (rowsOf o x) k vs)) := by
  obtain ⟨r1, r2, r3⟩ := h.rows hx
  exact h.set hx (fun r hr => (mem_put hr).elim (r1 r) fun e => e ▸ hk) (put_keys _ _ _ r2) fun r hr => (mem_put hr).elim (r3 r) fun e => e ▸ hv
theorem WO.lay1 {o : Own} (h : WO o) {p : Str × Option (List D)} (w : LayOk o p) {k : Int} (hk : k ∈ pool6) : WO (lay1 k o p) := by
  obtain ⟨x, ov⟩ := p
  cases ov with
  | none => exact h.drop w.nm k
  | some vs => exact (h.drop w.nm k).put (by rw [setRows_oN]; exact w.nm) hk (by rw [colsOf_set]; exact w.vs vs rfl)
theorem lay1_oN {o : Own} {k : Int} {p : Str × Option (List D)} : oN (lay1 k o p) = oN o := by
  obtain ⟨x, ov⟩ := p
  cases ov with
  | none => exact setRows_oN _ _ _
  | some vs => exact (setRows_oN _ _ _).trans (setRows_oN _ _ _)
theorem lay1_cols {o : Own} {k : Int} {p : Str × Option (List D)} {y : Str} : colsOf (lay1 k o p) y = colsOf o y := by
  obtain ⟨x, ov⟩ := p
  cases ov with
  | none => exact colsOf_set
  | some vs => exact colsOf_set.trans colsOf_set
theorem laid_ok {k : Int} (hk : k ∈ pool6) : ∀ {kr : KRs} {o : Own}, WO o → (∀ p ∈ kr, LayOk o p) → WO (laid o k kr) ∧ oN (laid o k kr) = oN o ∧ ∀ y, colsOf (laid o k kr) y = colsOf o y
  | [], o, h, _ => ⟨h, rfl, fun _ => rfl⟩
  | p :: kr, o, h, w => by
    obtain ⟨a, b, c⟩ := laid_ok hk (kr := kr) (h.lay1 (w p List.mem_cons_self) hk) fun q hq => ⟨by rw [lay1_oN]; exact (w q (List.mem_cons_of_mem _ hq)).nm, fun vs e => by rw [lay1_cols]; exact (w q (List.mem_cons_of_mem _ hq)).vs vs e⟩
    exact ⟨a, b.trans lay1_oN, fun y => (c y).trans lay1_cols⟩
theorem laid_snoc (o : Own) (k : Int) (kr : KRs) (p : Str × Option (List D)) : laid o k (kr ++ [p]) = lay1 k (laid o k kr) p := by unfold laid; rw [List.foldl_append]; rfl
section
variable {P : Program} {w : World} {K : PySem.W.Frag} {mg : Str → Option Value} {base : Heap} {f ct Pt : Addr} {fd : FuncData}
abbrev SLaid := SP (fun _ (x : Own × Int × KRs) => WO x.1 ∧ x.2.1 ∈ pool6 ∧ (∀ p ∈ x.2.2, LayOk x.1 p) ∧ x.2.2.length ≤ 4000) (fun x => [eOwn x.1, .int x.2.1, eKRs x.2.2]) fun x => eOwn (laid x.1 x.2.1 x.2.2)
theorem sc64 : FnScope ["own", "key", "rows", "later", "table", "values"] ["own", "key", "rows"] (defScope (top 64)) := ⟨rfl, rfl, rfl, by decide +kernel, rfl, by decide +kernel, by decide +kernel⟩
theorem ok64 (hB : Bns mg) (c_copy : CalG P w K mg base 1 "_law_state_copy" ["own"] (spG K 0 (SCopy K))) (F : FnP K "_law_laid" (top 64) f fd) : FnOk P w K mg base CX0 2 f fd ["own", "key", "rows"]  (spF K 0 SLaid) := by
  refine fn_ok F sc64 (fun W as φ h => by obtain ⟨x, rfl, _⟩ := h; rfl) (by decide) fun cdv A outer s H E W as φ n hr hS hn => ?_
  obtain ⟨⟨o, k, kr⟩, rfl, ⟨wo, hk, hp, hl⟩, hφ⟩ := hS
  refine ss_nest (fun p => stb_nst) sc64.nd (j := 3) rfl (by first | exact Or.inl rfl | exact Or.inr rfl) (c := 0) (by exact evn_copy c_copy (by exact hr.mono (by decide)) (by rfl) (by exact ev_var (i := 0) rfl (by first | exact Or.inl rfl | exact Or.inr (Or.inl rfl) | exact Or.inr (Or.inr rfl)) rfl) wo.w) (by omega) (fun p o' ho => ?_)
  obtain rfl : o = o' := ho.symm
  refine sn_cons (sn_for (xs := kr) (enc := eKR) stb_nst (by exact PassesOwn.never) (by rfl) (by exact EvI.z (by exact ei_tupI (by exact ev_var (i := 2) rfl (by first | exact Or.inl rfl | exact Or.inr (Or.inl rfl) | exact Or.inr (Or.inr rfl)) rfl)) (by rfl)) (by omega)
    (fun i Γ' n' o' => o' = laid o k (kr.take i) ∧ n' ≤ n ∧ ∃ a b, Γ' = [.dat (eOwn o), .dat (.int k), .dat (eKRs kr), .at_ p, .dat a, .dat b] ∨ Γ' = [.dat (eOwn o), .dat (.int k), .dat (eKRs kr), .at_ p, .un, .un]) ⟨by rw [List.take_zero]; rfl, by omega, .non, .non, .inr rfl⟩ ?_ ?_)
  · rintro i ⟨x, ov⟩ Γ' n' o' hi ⟨rfl, hle, a, b, hΓ⟩
    have hm : (x, ov) ∈ kr := List.mem_of_getElem? hi
    have hw := hp _ hm
    obtain ⟨w1, w2, w3⟩ := laid_ok hk (kr := kr.take i) wo fun q hq => hp q (List.mem_of_mem_take hq)
    have hx : x ∈ oN (laid o k (kr.take i)) := by rw [w2]; exact hw.nm
    have hΓ2 : setG Γ' [(4, .str x), (5, optD ov)] = [.dat (eOwn o), .dat (.int k), .dat (eKRs kr), .at_ p, .dat (.str x), .dat (optD ov)] := by
      rcases hΓ with rfl | rfl <;> rfl
    refine ⟨[(4, .str x), (5, optD ov)], (by exact Tg.to (by exact tg_tup (by rfl) (by exact tl_cons (by exact tg_name (i := 4) sc64.nd rfl (by first | exact Or.inl rfl | exact Or.inr rfl)) (by exact tl_cons (by exact tg_name (i := 5) sc64.nd rfl (by first | exact Or.inl rfl | exact Or.inr rfl)) (by exact tl_nil)))) (by rfl)), ?_⟩
    rw [hΓ2]
    refine sn_cons (sn_pop2 (kk := k) (x := x) (i := 3) (hu_of hr) (by exact nom_of (by rfl)) (by rfl) (by first | exact Or.inl rfl | exact Or.inr (Or.inl rfl) | exact Or.inr (Or.inr rfl)) (by rfl) (by exact ev_var (i := 4) rfl (by first | exact Or.inl rfl | exact Or.inr (Or.inl rfl) | exact Or.inr (Or.inr rfl)) rfl) (by exact ev_var (i := 1) rfl (by first | exact Or.inl rfl | exact Or.inr (Or.inl rfl) | exact Or.inr (Or.inr rfl)) rfl) hx (by omega) ?_)
    have hx' : x ∈ oN (setRows (laid o k (kr.take i)) x (dropRow (rowsOf (laid o k (kr.take i)) x) k)) := by rw [setRows_oN]; exact hx
    have w4 := w1.drop hx k
    obtain ⟨t, ht, hte⟩ := rowsOf_mem hx'
    have hlen : (rowsOf (setRows (laid o k (kr.take i)) x (dropRow (rowsOf (laid o k (kr.take i)) x) k)) x).length < 4000 := by rw [hte]; have := w4.rl ht; omega
    cases ov with
    | none =>
      refine sn_one (sn_if stb_nst (etn_of (by exact et_notN (by exact ev_var (i := 5) rfl (by first | exact Or.inl rfl | exact Or.inr (Or.inl rfl) | exact Or.inr (Or.inr rfl)) rfl))) (by omega) (fun hz => by have hz : true = false := hz; cases hz) (fun hz => ?_))
      refine sn_nil ⟨?_, by omega, .str x, .non, .inl rfl⟩
      rw [take_succ hi, laid_snoc]; rfl
    | some vs =>
      refine sn_one (sn_if stb_nst (etn_of (by exact et_notN (by exact ev_var (i := 5) rfl (by first | exact Or.inl rfl | exact Or.inr (Or.inl rfl) | exact Or.inr (Or.inr rfl)) rfl))) (by omega) (fun hz => ?_) (fun hz => by have hz : false = true := hz; cases hz))
      refine sn_one (sn_dset (kk := k) (x := x) (vs := vs) (i := 3) (hu_of hr) (by exact nom_of (by rfl)) (by rfl) (by first | exact Or.inl rfl | exact Or.inr (Or.inl rfl) | exact Or.inr (Or.inr rfl)) (by rfl) (by exact Ev.to (by exact Ev.z (by exact ev_var (i := 5) rfl (by first | exact Or.inl rfl | exact Or.inr (Or.inl rfl) | exact Or.inr (Or.inr rfl)) rfl) (by rfl)) (by rfl)) (by exact ev_var (i := 4) rfl (by first | exact Or.inl rfl | exact Or.inr (Or.inl rfl) | exact Or.inr (Or.inr rfl)) rfl) (by exact ev_var (i := 1) rfl (by first | exact Or.inl rfl | exact Or.inr (Or.inl rfl) | exact Or.inr (Or.inr rfl)) rfl) hx' hlen (by omega) ?_)
      refine ⟨?_, by omega, .str x, .tup vs, .inl rfl⟩
      rw [take_succ hi, laid_snoc]; rfl
  · rintro Γ' n' o' ⟨rfl, hle, a, b, hΓ⟩
    rw [List.take_length]
    rcases hΓ with rfl | rfl
    · refine sn_frz (i := 3) (by exact nom_of (by rfl)) (by rfl) ?_
      refine ss_retE (by exact ev_var (i := 3) rfl (by first | exact Or.inl rfl | exact Or.inr (Or.inl rfl) | exact Or.inr (Or.inr rfl)) rfl) (by omega) rfl ⟨hφ, by omega⟩
    · refine sn_frz (i := 3) (by exact nom_of (by rfl)) (by rfl) ?_
      refine ss_retE (by exact ev_var (i := 3) rfl (by first | exact Or.inl rfl | exact Or.inr (Or.inl rfl) | exact Or.inr (Or.inr rfl)) rfl) (by omega) rfl ⟨hφ, by omega⟩
end
end K5
namespace K5
open PySem PySem.Spec PyProof.Rows L2 Qq
theorem sch_len (o : Own) : (schOf o).length = o.length := by unfold schOf; rw [List.length_map, sortT_len]; unfold oN; rw [List.length_map]
theorem sch_fst (o : Own) : (schOf o).map (·.1) = sortT (oN o) := by unfold schOf; rw [List.map_map]; exact List.map_id _
theorem sch_mem {o : Own} {t : Tab} (h : t ∈ schOf o) : t.1 ∈ oN o ∧ t.2 = colsOf o t.1 := by
  obtain ⟨x, hx, rfl⟩ := List.mem_map.mp h
  exact ⟨sortT_mem.mp hx, rfl⟩
theorem WO.cols {o : Own} (h : WO o) {x : Str} (hx : x ∈ oN o) : WCols (colsOf o x) := by
  obtain ⟨t, ht, e⟩ := colsOf_mem hx
  rw [e]; exact h.cs t ht
/-- rows of one key that are drawn -/
def KrOk (o : Own) (kr : KRs) : Prop := kr.map (·.1) = sortT (oN o) ∧ ∀ p ∈ kr, LayOk o p
section
variable {P : Program} {w : World} {K : PySem.W.Frag} {mg : Str → Option Value} {base : Heap} {f ct Pt : Addr} {fd : FuncData}
abbrev SRows : Wd → List Sl → (D → Prop) → Prop := fun W as φ => ∃ (a : Addr) (o : Own), as = [.at_ a, .dat (eOwn o)] ∧ PotW W a ∧ WO o ∧ ∀ kr, KrOk o kr → φ (eKRs kr)
theorem sc63 : FnScope ["pot", "own", "found", "table", "columns", "values"] ["pot", "own"] (defScope (top 63)) := ⟨rfl, rfl, rfl, by decide +kernel, rfl, by decide +kernel, by decide +kernel⟩
theorem ok63 (hB : Bns mg) (c__law_take : Cal P w K mg base 1 "_law_take" ["pot", "upto"] 1 STake) (c__law_state_schema : Cal P w K mg base 1 "_law_state_schema" ["own"] 0 SSch) (c_vals : Cal P w K mg base 4 "_law_state_values_drawn" ["pot", "columns"] 18 SVals) (F : FnP K "_law_rows_drawn" (top 63) f fd) : FnOk P w K mg base CX0 5 f fd ["pot", "own"]  (spF K 120 SRows) := by
  refine fn_ok F sc63 (fun W as φ h => by obtain ⟨a, u, h, _⟩ := h; rw [h]; rfl) (by decide) fun cdv A outer s H E W as φ n hr hS hn => ?_
  obtain ⟨ad, o, rfl, hpw, wo, hφ⟩ := hS
  have hsl := sch_len o
  have hl6 := wo.len
  refine ss_cons (sm_setM (i := 2) sc63.nd rfl (by first | exact Or.inl rfl | exact Or.inr rfl) em_nil (by omega) fun sl e => ?_)
  subst e
  refine ss_cons (sm_for (xs := schOf o) (enc := eTab) (by exact PassesOwn.never) (by rfl) (by exact EvI.z (by exact ei_tupI (by exact ev_cp o (by exact c__law_state_schema) (by exact hr.mono (by first | decide | omega)) (by rfl) (by exact es_consI (by exact ev_var (i := 1) rfl (by first | exact Or.inl rfl | exact Or.inr (Or.inl rfl) | exact Or.inr (Or.inr rfl)) rfl) (by exact es_nil)) (by rfl) (by exact wo.w) (by rfl))) (by rfl)) (by omega)
    (fun k Γ' n' => ∃ (kr : KRs) (a b c : Sl), Γ' = [.at_ ad, .dat (eOwn o), .ml (kr.map eKR), a, b, c] ∧ kr.map (·.1) = ((schOf o).take k).map (·.1) ∧ (∀ p ∈ kr, LayOk o p) ∧ n' ≤ n + k * 19) ⟨[], _, _, _, rfl, by rw [List.take_zero]; rfl, (fun _ h => nomatch h), by omega⟩ ?_ ?_)
  · rintro k t Γ' n' hk ⟨kr, a, b, c, rfl, e1, e2, hle⟩
    obtain ⟨hx, ht⟩ := sch_mem (List.mem_of_getElem? hk)
    have wc := wo.cols hx
    have hkl : k < 6 := by have := (List.getElem?_eq_some_iff.mp hk).1; omega
    have hlr : kr.length ≤ 6 := by have := congrArg List.length e1; rw [List.length_map, List.length_map, List.length_take] at this; omega
    refine ⟨[(3, .str t.1), (4, eCols t.2)], (by exact Tg.to (by exact tg_tup (by rfl) (by exact tl_cons (by exact tg_name (i := 3) sc63.nd rfl (by first | exact Or.inl rfl | exact Or.inr rfl)) (by exact tl_cons (by exact tg_name (i := 4) sc63.nd rfl (by first | exact Or.inl rfl | exact Or.inr rfl)) (by exact tl_nil)))) (by rfl)), ?_⟩
    have hsv : SVals W [.at_ ad, .dat (eCols t.2)] (fun v => ∃ vs, WVals t.2 vs ∧ v = .tup vs) := ⟨ad, t.2, .inl rfl, hpw, by rw [ht]; exact wc, fun vs h => ⟨vs, h, rfl⟩⟩
    have hcall : ∀ ss, (∃ r, ss = .at_ ad :: r ∧ Is [.dat (eCols t.2)] r) → SVals W ss (fun v => ∃ vs, WVals t.2 vs ∧ v = .tup vs) := fun ss ⟨r, e, q⟩ => by rw [e, show r = _ from q]; exact hsv
    refine ss_cons (sm_set (c := 18) sc63.nd (i := 5) rfl (by first | exact Or.inl rfl | exact Or.inr rfl) (by exact Ev.cost (by exact ev_call (φ := fun v => ∃ vs, WVals t.2 vs ∧ v = .tup vs) c_vals (by exact hr.mono (by decide)) (by rfl) (by exact es_at (i := 0) rfl (by first | exact Or.inl rfl | exact Or.inr (Or.inl rfl) | exact Or.inr (Or.inr rfl)) rfl (by exact es_consI (by exact Ev.to (by exact ev_var (i := 4) rfl (by first | exact Or.inl rfl | exact Or.inr (Or.inl rfl) | exact Or.inr (Or.inr rfl)) rfl) (by rfl)) es_nil)) hcall) (by decide)) (by omega) fun d hd => ?_)
    obtain ⟨vs, hv, rfl⟩ := hd
    have htup : ∀ ss, (∃ d r, ss = Sl.dat d :: r ∧ Is (D.str t.1) d ∧ ∃ d' r', r = .dat d' :: r' ∧ (d' = D.non ∨ d' = D.tup vs) ∧ Is [] r') → ∃ ds, ss = ds.map Sl.dat ∧ ds.length ≤ sizeLine ∧ ∃ ov, (∀ us, ov = some us → WVals t.2 us) ∧ D.tup ds = eKR (t.1, ov) := fun ss h => by
      obtain ⟨_, r, rfl, rfl, d', r', rfl, hd', rfl⟩ := h
      rcases hd' with rfl | rfl
      · exact ⟨[.str t.1, .non], rfl, (by show 2 ≤ sizeLine; decide), none, (fun _ h => nomatch h), rfl⟩
      · exact ⟨[.str t.1, .tup vs], rfl, (by show 2 ≤ sizeLine; decide), some vs, fun us h => by cases h; exact hv, rfl⟩
    refine ss_one (sm_append (c := 1) (φ := fun d => ∃ ov, (∀ us, ov = some us → WVals t.2 us) ∧ d = eKR (t.1, ov)) (i := 2) (by rfl) (by first | exact Or.inl rfl | exact Or.inr (Or.inl rfl) | exact Or.inr (Or.inr rfl)) (by rfl) (by exact Ev.cost (by exact ev_tup (by exact es_cons (φ := Is (.str t.1)) (by exact (by exact ev_var (i := 3) rfl (by first | exact Or.inl rfl | exact Or.inr (Or.inl rfl) | exact Or.inr (Or.inr rfl)) rfl)) (by exact es_cons (φ := fun d' => d' = D.non ∨ d' = D.tup vs) (by exact ev_if (ψ := fun _ => True) (by exact et_eqI (by exact ev_take hB c__law_take (by exact hr.mono (by first | decide | omega)) (by rfl) hpw (i := 0) rfl (by first | exact Or.inl rfl | exact Or.inr (Or.inl rfl) | exact Or.inr (Or.inr rfl)) rfl (by exact ev_int) (by decide) (by decide)) (by exact ev_rint) Rg.isI Rg.isI) (fun _ => by exact ((by exact ev_non) : Ev _ _ _ _ 0 (Is D.non)).imp fun d e => .inl e) (fun _ => by exact (by exact (by exact ev_var (i := 5) rfl (by first | exact Or.inl rfl | exact Or.inr (Or.inl rfl) | exact Or.inr (Or.inr rfl)) rfl) : Ev _ _ _ _ 0 (Is (D.tup vs))).imp fun d e => .inr e)) es_nil)) htup) (by decide)) (by omega) (by rw [List.length_map]; omega) fun d hd => ?_)
    obtain ⟨ov, hov, rfl⟩ := hd
    refine ⟨kr ++ [(t.1, ov)], _, _, _, by rw [List.map_append]; rfl, by rw [List.map_append, e1, take_succ hk, List.map_append]; rfl, fun p hp => ?_, by omega⟩
    rcases List.mem_append.mp hp with hp | hp
    · exact e2 p hp
    · obtain rfl : p = (t.1, ov) := by simpa using hp
      exact ⟨hx, fun us h => by rw [← ht]; exact hov us h⟩
  · rintro Γ' n' ⟨kr, a, b, c, rfl, e1, e2, hle⟩
    rw [List.take_length, sch_fst] at e1
    refine ss_frzL (i := 2) rfl ?_
    refine ss_retE (by exact ev_tupleI (by rfl) (by exact hB _ (by decide +kernel)) (by exact ev_var (i := 2) rfl (by first | exact Or.inl rfl | exact Or.inr (Or.inl rfl) | exact Or.inr (Or.inr rfl)) rfl)) (by omega) rfl ⟨hφ kr ⟨e1, e2⟩, by omega⟩
end
end K5
/-! N6: d == {}; loops over what is drawn. -/
namespace K5
open PySem PySem.Spec PyProof.Rows L2 Qq
section
variable {X : Cx}
def rEqMt : R2 := fun x y H Q => ∃ a b kvs, x = .ref a ∧ y = .ref b ∧ Rd H a (.dK kvs) ∧ Rd H b (.dK []) ∧ Q (.bl (decide (kvs.length = 0))) H
theorem op_eqMt (hu : X.A.units < cLine) : OpR X (compareOp .Eq) rEqMt := by
  intro pins s σ H x y v u Q I rx ry h
  obtain ⟨a, b, kvs, rfl, rfl, ea, eb, q⟩ := h
  obtain rfl : v = Value.ref a := rx
  obtain rfl : u = Value.ref b := ry
  obtain ⟨_, ya, va, ra, da⟩ := dk_rd I.hok ea
  obtain ⟨_, yb, vb, rb, db⟩ := dk_rd I.hok eb
  cases rb
  have hl := ra.length
  refine PySem.W.keq_eq (knd := mixKind X.prog X.w) (r := true) ya yb da db hu (fun e => ?_) (fin_bl I q ?_)
  · obtain rfl : va = [] := List.length_eq_zero_iff.mp e
    exact .nil
  · rw [hl]
    cases va with
    | nil => rfl
    | cons a t => simp
variable {W : Wd} {Γ : List Sl} {n c c1 c2 : Nat} {φ : D → Prop} {e a b : Expr} {pos p p2 : Pos} {P : Pst} {st : Stmt}
theorem em_mt : EvM W X (.Dict [] [] pos) Γ 0 (fun sl => sl = .md []) := fun R0 H0 Rl σ R n H s hn Q k => by
  refine wE_of pe_dnewK ?_
  exact fun l hl => k l R _ (.md []) (Gr.newM s.rh hl) (W.loc s.j fun b o _ e => by rw [upd_ne (ne_of_none e hl)]; exact e) hl ⟨[], s.rh.free hl, upd_same, .nil⟩ rfl
theorem ev_mt : Ev W X (.Dict [] [] pos) Γ 0 (Is (.dct [])) := ev_of_m em_mt fun sl e => by subst e; rfl
theorem et_eqMt {kds : List (Key × D)} (hu : X.A.units + 1 < cLine) (ha : Ev W X a Γ c (Is (.dct kds))) : EvT W X (.Compare a [.Eq] [.Dict [] [] p2] pos) Γ (c + 0) (Is (decide (kds.length = 0))) :=
  et_cmpI (op_eqMt (by omega)) (nomark _) ha ev_mt fun x y R H Q hR rx ry k => by
    cases rx with | @dct pa ka _ qa ra =>
    cases ry with | @dct pb kb _ qb rb =>
    cases rb
    obtain ⟨oa, qa⟩ := qa
    obtain ⟨ob, qb⟩ := qb
    refine ⟨pa, pb, ka, rfl, rfl, .inr ⟨oa, hR _ _ qa⟩, .inr ⟨ob, hR _ _ qb⟩, ?_⟩
    have e : decide (ka.length = 0) = decide (kds.length = 0) := by rw [ra.len]
    rw [e]
    exact k _ R H (Gr.refl hR) (.bl _)
/-- for .. in: what is gone over is drawn -/
theorem sm_forE {tg iter : Expr} {body : List Stmt} {φs : List D → Prop} (hp : PassesOwn (model X.prog X.w) X.A X.env X.xe) (hc : X.calm = true) (hi : EvI W X tg iter Γ c φs) (hl : n + c ≤ LIM)
    (H : ∀ ds, φs ds → ∃ I : Nat → List Sl → Nat → Prop, I 0 Γ (n + c) ∧ (∀ i d Γ' n', ds[i]? = some d → I i Γ' n' → ∃ as, Tg X tg d as ∧ Sms W X body (setG Γ' as) n' ⟨I (i + 1), P.rt, P.nx, I (i + 1), P.rm⟩) ∧ ∀ Γ' n', I ds.length Γ' n' → P.nx Γ' n')
    (hf : ∀ x, foldedSetIterable iter X.env x = pure x := by intro _; rfl) : Sm W X (.For tg iter body [] pos) Γ n P := fun R0 H0 Rl R σ Hh E s en => by
  refine wS_of (ps_for hp hc (wI_ok tg iter) (wG_ok tg) (wSs_ok body) hf) ?_
  refine hi R0 H0 Rl σ R n Hh s hl _ fun J R1 H1 ds g1 j1 f1 ⟨G, Y, wk, hG, hY⟩ => ?_
  obtain ⟨I, h0, hs, hd⟩ := H ds f1
  have s1 := s.grow g1 j1
  refine for_it wk (fun i σ' H' => ∃ Γ' n' R', So W X.K R0 H0 R1 Γ' R' n' σ' H' ∧ I i Γ' n') ⟨Γ, _, R1, s1.relo (Same.refl _), h0⟩ ?_ ?_ ?_
  · rintro i σ' H' _ ⟨Γ', n', R', s', _⟩
    exact hG R' H' s'.lo s'.rh
  · rintro i x σ' H' H'' hi ⟨Γ', n', R', s', q⟩ y
    obtain ⟨R2, dd, g2, kp, hdd, rx⟩ := hY i R' H' x H'' hi s'.lo s'.rh y
    obtain ⟨as, ht, hb⟩ := hs i dd Γ' n' hdd q
    refine ht x σ' R2 H'' _ g2.rh rx fun bs hbs => ?_
    have s2 := (s'.grow g2 (W.loc s'.j fun b o _ e => kp b o e)).setAll hbs
    exact hb R0 H0 R1 R2 _ H'' _ s2 ⟨fun Γ2 n2 R3 σ3 H3 s3 z => ⟨Γ2, n2, R3, s3, z⟩, fun d2 n2 R3 v H3 g lo j rb r z => en.rt d2 n2 R3 v H3 g ((s1.lo).trans lo) j rb r z, fun Γ2 n2 R3 σ3 H3 s3 z => en.nx Γ2 n2 R3 σ3 H3 (s3.relo (s1.lo.trans s3.lo)) z, fun Γ2 n2 R3 σ3 H3 s3 z => ⟨Γ2, n2, R3, s3, z⟩, fun n2 R3 v H3 g lo j rb z => en.rm n2 R3 v H3 g ((s1.lo).trans lo) j rb z⟩
  · rintro σ' H' ⟨Γ', n', R', s', q⟩
    exact en.nx Γ' n' R' σ' H' (s'.relo (s1.lo.trans s'.lo)) (hd Γ' n' q)
end
end K5
namespace K5
open PySem PySem.Spec PyProof.Rows L2 Qq
theorem sm_post {W : Wd} {X : Cx} {st : Stmt} {Γ : List Sl} {n : Nat} {P : Pst} (Q' : List Sl → Nat → Prop) (h : Sm W X st Γ n ⟨Q', P.rt, P.bk, P.ct, P.rm⟩) (m : ∀ Γ' n', Q' Γ' n' → P.nx Γ' n') : Sm W X st Γ n P := fun R0 H0 Rl R σ H E s en =>
  h R0 H0 Rl R σ H E s ⟨fun Γ' n' R' σ' H' s' k => en.nx Γ' n' R' σ' H' s' (m Γ' n' k), en.rt, en.bk, en.ct, en.rm⟩
theorem evi_cost {W : Wd} {X : Cx} {tg e : Expr} {Γ : List Sl} {c c1 : Nat} {φ : List D → Prop} (h : EvI W X tg e Γ c1 φ) (hc : c1 ≤ c) : EvI W X tg e Γ c φ := fun R0 H0 Rl σ R n H s hn Q k => h R0 H0 Rl σ R n H s (by omega) Q fun J R' H' ds g j f x => k J R' H' ds g (W.mono j (by omega)) f x
theorem evs_cost {W : Wd} {X : Cx} {es : List Expr} {Γ : List Sl} {c c1 : Nat} {φ : List Sl → Prop} (h : EvS W X es Γ c1 φ) (hc : c1 ≤ c) : EvS W X es Γ c φ := fun R0 H0 Rl σ R n H s hn Q k => h R0 H0 Rl σ R n H s (by omega) Q fun J R' H' ds g j f x => k J R' H' ds g (W.mono j (by omega)) f x
def IsRange (d : List D) : Prop := ∃ m : Nat, m ≤ 6 ∧ d = rangeD 0 m
theorem is_range {d : D} (h : Rg 0 ((6 + 1) - 1) d) : ∃ j : Int, d = .int j ∧ j < 100000 ∧ -100000 < j ∧ IsRange (rangeD 0 j.toNat) := let ⟨v, e, h1, h2⟩ := h; ⟨v, e, by omega, by omega, v.toNat, by omega, rfl⟩
section
variable {P : Program} {w : World} {K : PySem.W.Frag} {mg : Str → Option Value} {base : Heap} {f ct Pt : Addr} {fd : FuncData}
abbrev SChgs : Wd → List Sl → (D → Prop) → Prop := fun W as φ => ∃ (a : Addr) (o : Own), as = [.at_ a, .dat (eOwn o), .dat (.lst (pool6.map .int)), .dat (.int 6)] ∧ PotW W a ∧ WO o ∧ ∀ cs, WChgs o cs → cs.length ≤ 6 → φ (.tup (cs.map eChg))
theorem sc61 : FnScope ["pot", "own", "keys", "most", "found", "lap", "table", "key", "change"] ["pot", "own", "keys", "most"] (defScope (top 61)) := ⟨rfl, rfl, rfl, by decide +kernel, rfl, by decide +kernel, by decide +kernel⟩
theorem ok61 (hB : Bns mg) (c__law_take : Cal P w K mg base 1 "_law_take" ["pot", "upto"] 1 STake) (c__law_of : Cal P w K mg base 2 "_law_of" ["pot", "some"] 1 SOf) (c_vals : Cal P w K mg base 4 "_law_state_values_drawn" ["pot", "columns"] 18 SVals) (c__law_state_changed : Cal P w K mg base 4 "_law_state_changed" ["own", "change"] 0 SChg) (F : FnP K "_law_state_changes_drawn" (top 61) f fd) : FnOk P w K mg base CX0 5 f fd ["pot", "own", "keys", "most"]  (spF K 250 SChgs) := by
  refine fn_ok F sc61 (fun W as φ h => by obtain ⟨a, u, h, _⟩ := h; rw [h]; rfl) (by decide) fun cdv A outer s H E W as φ n hr hS hn => ?_
  obtain ⟨ad, o, rfl, hpw, wo, hφ⟩ := hS
  refine ss_cons (sm_setM (i := 4) sc61.nd rfl (by first | exact Or.inl rfl | exact Or.inr rfl) em_nil (by omega) fun sl e => ?_)
  subst e
  refine ss_cons (sm_post (fun Γ' n' => ∃ (cs : List Chg) (a b c d : Sl), Γ' = [.at_ ad, .dat (eOwn (chgs o cs)), .dat (.lst (pool6.map .int)), .dat (.int 6), .ml (cs.map eChg), a, b, c, d] ∧ WChgs o cs ∧ cs.length ≤ 6 ∧ n' ≤ n + 250)
    (sm_forE (c := 1) (φs := IsRange) (by exact PassesOwn.never) (by rfl) (by exact evi_cost (by exact ei_range1 (φ := Rg 0 ((6 + 1) - 1)) (by rfl) (by exact hB _ (by decide +kernel)) (by exact ev_take hB c__law_take (by exact hr.mono (by first | decide | omega)) (by rfl) hpw (i := 0) rfl (by first | exact Or.inl rfl | exact Or.inr (Or.inl rfl) | exact Or.inr (Or.inr rfl)) rfl (by exact ev_addI (by exact ev_var (i := 3) rfl (by first | exact Or.inl rfl | exact Or.inr (Or.inl rfl) | exact Or.inr (Or.inr rfl)) rfl) (by exact ev_int)) (by decide) (by decide)) (fun d h => is_range h)) (by decide)) (by omega) (fun ds ⟨m, hm, hds⟩ => ⟨fun i Γ' n' => ∃ (cs : List Chg) (a b c d : Sl), Γ' = [.at_ ad, .dat (eOwn (chgs o cs)), .dat (.lst (pool6.map .int)), .dat (.int 6), .ml (cs.map eChg), a, b, c, d] ∧ WChgs o cs ∧ cs.length ≤ i ∧ n' ≤ n + 1 + i * 30, ⟨[], _, _, _, _, rfl, trivial, Nat.le_refl _, by omega⟩, ?_, ?_⟩)) ?_)
  · rintro i d Γ' n' hi ⟨cs, a, b, c, e, rfl, wc, hcl, hle⟩
    have him : i < 6 := by
      have := (List.getElem?_eq_some_iff.mp hi).1
      rw [hds] at this
      unfold rangeD at this
      rw [List.length_map, List.length_range] at this; omega
    have wok := wo.chgs wc
    have hgc := get_ownC (chgs o cs)
    have hgo := get_own (chgs o cs)
    have hol : (oN (chgs o cs)).length ≤ 6 := by unfold oN; rw [List.length_map]; exact wok.len
    refine ⟨[(5, d)], (by exact tg_name (i := 5) sc61.nd rfl (by first | exact Or.inl rfl | exact Or.inr rfl)), ?_⟩
    refine ss_cons (sm_if (ψ := Is (decide ((oC (chgs o cs)).length = 0))) (by exact et_eqMt (hu_of hr) (by exact ev_dget (k := Sum.inr "columns") (by exact hu_of hr) (by exact ev_var (i := 1) rfl (by first | exact Or.inl rfl | exact Or.inr (Or.inl rfl) | exact Or.inr (Or.inr rfl)) rfl) (by exact ev_str) (by first | rfl | assumption | trivial | omega))) (by omega) (fun hz => ?_) (fun hz => ?_))
    · refine ss_one (sm_brk ⟨cs, _, _, _, _, rfl, wc, by omega, by omega⟩)
    refine ss_nil ?_
    have hne : 0 < (oN (chgs o cs)).length := by
      have hz : false = decide ((oC (chgs o cs)).length = 0) := hz
      have hz := of_decide_eq_false hz.symm
      unfold oC at hz
      unfold oN
      rw [List.length_map] at hz ⊢; omega
    have hof1 : ∀ ss, (∃ r, ss = .at_ ad :: r ∧ Is [.dat (.lst ((sortT (oN (chgs o cs))).map .str))] r) → SOf W ss (fun d => ∃ x, x ∈ oN (chgs o cs) ∧ d = .str x) := fun ss ⟨r, e, q⟩ => ⟨ad, (sortT (oN (chgs o cs))).map .str, by rw [e, show r = _ from q], hpw, by rw [List.length_map, sortT_len]; exact hne, by rw [List.length_map, sortT_len]; omega, fun d hd => by
      obtain ⟨x, hx, rfl⟩ := List.mem_map.mp hd
      exact ⟨x, sortT_mem.mp hx, rfl⟩⟩
    have hof2 : ∀ ss, (∃ r, ss = .at_ ad :: r ∧ Is [.dat (.lst (pool6.map .int))] r) → SOf W ss (fun d => ∃ k, k ∈ pool6 ∧ d = .int k) := fun ss ⟨r, e, q⟩ => ⟨ad, pool6.map .int, by rw [e, show r = _ from q], hpw, by decide, by decide, fun d hd => by
      obtain ⟨x, hx, rfl⟩ := List.mem_map.mp hd
      exact ⟨x, hx, rfl⟩⟩
    refine ss_cons (sm_par (c := 2) (i := 6) (j := 7) (φs := fun ss => ∃ x k, x ∈ oN (chgs o cs) ∧ k ∈ pool6 ∧ ss = [.dat (.str x), .dat (.int k)]) (by rfl) sc61.nd rfl rfl (by decide) rfl rfl (by exact EvS.imp (evs_cost (by exact es_cons (φ := fun d => ∃ x, x ∈ oN (chgs o cs) ∧ d = .str x) (by exact ev_call (φ := fun d => ∃ x, x ∈ oN (chgs o cs) ∧ d = .str x) c__law_of (by exact hr.mono (by decide)) (by rfl) (by exact es_at (i := 0) rfl (by first | exact Or.inl rfl | exact Or.inr (Or.inl rfl) | exact Or.inr (Or.inr rfl)) rfl (by exact es_consI (by exact (by exact ev_sortedD (ks := oN (chgs o cs)) (by rfl) (by rfl) (by exact hB _ (by decide +kernel)) (by exact ev_dget (k := Sum.inr "columns") (by exact hu_of hr) (by exact ev_var (i := 1) rfl (by first | exact Or.inl rfl | exact Or.inr (Or.inl rfl) | exact Or.inr (Or.inr rfl)) rfl) (by exact ev_str) (by first | rfl | assumption | trivial | omega)) (by exact oC_keys (chgs o cs)) (by omega))) es_nil)) hof1) (by exact es_cons (φ := fun d => ∃ k, k ∈ pool6 ∧ d = .int k) (by exact ev_call (φ := fun d => ∃ k, k ∈ pool6 ∧ d = .int k) c__law_of (by exact hr.mono (by decide)) (by rfl) (by exact es_at (i := 0) rfl (by first | exact Or.inl rfl | exact Or.inr (Or.inl rfl) | exact Or.inr (Or.inr rfl)) rfl (by exact es_consI (by exact (by exact ev_var (i := 2) rfl (by first | exact Or.inl rfl | exact Or.inr (Or.inl rfl) | exact Or.inr (Or.inr rfl)) rfl)) es_nil)) hof2) es_nil)) (by decide)) (fun ss h => by obtain ⟨_, _, rfl, ⟨x, hx, rfl⟩, _, _, rfl, ⟨k, hk, rfl⟩, rfl⟩ := h; exact ⟨x, k, hx, hk, rfl⟩)) (by omega) (fun ss h => ?_) (by rfl))
    obtain ⟨x, k, hx, hk, rfl⟩ := h
    refine ⟨_, _, rfl, ?_⟩
    have hgx := get_oC hx
    have hgr := get_oR hx
    have hcs := wok.cols hx
    have hsv : ∀ ss, (∃ r, ss = .at_ ad :: r ∧ Is [.dat (.lst ((colsOf (chgs o cs) x).map eCol))] r) → SVals W ss (fun v => ∃ vs, WVals (colsOf (chgs o cs) x) vs ∧ v = .tup vs) := fun ss ⟨r, e, q⟩ => ⟨ad, colsOf (chgs o cs) x, .inr (by rw [e, show r = _ from q]), hpw, hcs, fun vs h => ⟨vs, h, rfl⟩⟩
    have htup : ∀ ss, (∃ d0 r0, ss = Sl.dat d0 :: r0 ∧ Is (D.str "put") d0 ∧ ∃ d1 r1, r0 = .dat d1 :: r1 ∧ Is (D.str x) d1 ∧ ∃ d2 r2, r1 = .dat d2 :: r2 ∧ Is (D.int k) d2 ∧ ∃ d3 r3, r2 = .dat d3 :: r3 ∧ (∃ vs, WVals (colsOf (chgs o cs) x) vs ∧ d3 = D.tup vs) ∧ Is [] r3) → ∃ ds, ss = ds.map Sl.dat ∧ ds.length ≤ sizeLine ∧ ∃ vs, WVals (colsOf (chgs o cs) x) vs ∧ D.tup ds = eChg (x, k, some vs) := fun ss h => by
      obtain ⟨_, _, rfl, rfl, _, _, rfl, rfl, _, _, rfl, rfl, _, _, rfl, ⟨vs, hv, rfl⟩, rfl⟩ := h
      exact ⟨[.str "put", .str x, .int k, .tup vs], rfl, (by show 4 ≤ sizeLine; decide), vs, hv, rfl⟩
    refine ss_cons (sm_set (c := 18) (φ := fun d => ∃ vs, WVals (colsOf (chgs o cs) x) vs ∧ d = eChg (x, k, some vs)) sc61.nd (i := 8) rfl (by first | exact Or.inl rfl | exact Or.inr rfl) (by exact Ev.cost (by exact ev_tup (by exact es_cons (φ := Is (D.str "put")) (by exact (by exact ev_str)) (by exact es_cons (φ := Is (D.str x)) (by exact (by exact ev_var (i := 6) rfl (by first | exact Or.inl rfl | exact Or.inr (Or.inl rfl) | exact Or.inr (Or.inr rfl)) rfl)) (by exact es_cons (φ := Is (D.int k)) (by exact (by exact ev_var (i := 7) rfl (by first | exact Or.inl rfl | exact Or.inr (Or.inl rfl) | exact Or.inr (Or.inr rfl)) rfl)) (by exact es_cons (φ := fun d3 => ∃ vs, WVals (colsOf (chgs o cs) x) vs ∧ d3 = D.tup vs) (by exact ev_call (φ := fun v => ∃ vs, WVals (colsOf (chgs o cs) x) vs ∧ v = .tup vs) c_vals (by exact hr.mono (by decide)) (by rfl) (by exact es_at (i := 0) rfl (by first | exact Or.inl rfl | exact Or.inr (Or.inl rfl) | exact Or.inr (Or.inr rfl)) rfl (by exact es_consI (by exact (by exact ev_dget (k := (Sum.inr x)) (by exact hu_of hr) (by exact ev_dget (k := Sum.inr "columns") (by exact hu_of hr) (by exact ev_var (i := 1) rfl (by first | exact Or.inl rfl | exact Or.inr (Or.inl rfl) | exact Or.inr (Or.inr rfl)) rfl) (by exact ev_str) (by first | rfl | assumption | trivial | omega)) (by exact ev_var (i := 6) rfl (by first | exact Or.inl rfl | exact Or.inr (Or.inl rfl) | exact Or.inr (Or.inr rfl)) rfl) (by exact hgx))) es_nil)) hsv) es_nil)))) htup) (by decide)) (by omega) fun d hd => ?_)
    obtain ⟨vs, hv, rfl⟩ := hd
    refine ss_cons (sm_post (fun Γ' n' => ∃ ch : Chg, WChg (chgs o cs) ch ∧ ch.2.1 ∈ pool6 ∧ Γ' = [.at_ ad, .dat (eOwn (chgs o cs)), .dat (.lst (pool6.map .int)), .dat (.int 6), .ml (cs.map eChg), .dat d, .dat (.str x), .dat (.int k), .dat (eChg ch)] ∧ n' ≤ n + 1 + i * 30 + 22)
      (sm_if (c := 1) (ψ := fun b => b = true → (getK (kRows (rowsOf (chgs o cs) x)) (Sum.inl k)).isSome = true) (by exact EvT.cost (by exact et_pw (by exact eW_and (x := (getK (kRows (rowsOf (chgs o cs) x)) (Sum.inl k)).isSome) (by exact et_din (k := Sum.inl k) (hu_of hr) (by exact ev_var (i := 7) rfl (by first | exact Or.inl rfl | exact Or.inr (Or.inl rfl) | exact Or.inr (Or.inr rfl)) rfl) (by exact (by exact ev_dget (k := (Sum.inr x)) (by exact hu_of hr) (by exact ev_dget (k := Sum.inr "rows") (by exact hu_of hr) (by exact ev_var (i := 1) rfl (by first | exact Or.inl rfl | exact Or.inr (Or.inl rfl) | exact Or.inr (Or.inr rfl)) rfl) (by exact ev_str) (by first | rfl | assumption | trivial | omega)) (by exact ev_var (i := 6) rfl (by first | exact Or.inl rfl | exact Or.inr (Or.inl rfl) | exact Or.inr (Or.inr rfl)) rfl) (by exact hgr)))) (fun hb => by exact eW_and1 (by exact EvT.imp (by exact et_eqI (by exact ev_take hB c__law_take (by exact hr.mono (by first | decide | omega)) (by rfl) hpw (i := 0) rfl (by first | exact Or.inl rfl | exact Or.inr (Or.inl rfl) | exact Or.inr (Or.inr rfl)) rfl (by exact ev_int) (by decide) (by decide)) (by exact ev_rint) Rg.isI Rg.isI) (fun _ _ _ => hb))) (fun _ h => by cases h))) (by decide)) (by omega) (fun hz => ?_) (fun _ => ?_)) ?_)
    · have hin := hz rfl
      refine ss_one (sm_set (φ := Is (eChg (x, k, none))) sc61.nd (i := 8) rfl (by first | exact Or.inl rfl | exact Or.inr rfl) (by exact Ev.to (by exact ev_tupJ (by exact es_consI (by exact ev_str) (by exact es_consI (by exact ev_var (i := 6) rfl (by first | exact Or.inl rfl | exact Or.inr (Or.inl rfl) | exact Or.inr (Or.inr rfl)) rfl) (by exact es_consI (by exact ev_var (i := 7) rfl (by first | exact Or.inl rfl | exact Or.inr (Or.inl rfl) | exact Or.inr (Or.inr rfl)) rfl) (by exact es_nil)))) (by rfl) (by rfl)) (by rfl)) (by omega) fun d hd => ?_)
      obtain rfl := hd
      exact ⟨(x, k, none), ⟨hx, pool6_ok k hk, fun _ h => (by cases h), fun _ => hin⟩, hk, rfl, by omega⟩
    · exact ss_nil ⟨(x, k, some vs), ⟨hx, pool6_ok k hk, fun us h => (by cases h; exact hv), fun h => (by cases h)⟩, hk, rfl, by omega⟩
    · rintro Γ2 n2 ⟨ch, wch, hpk, rfl, hle2⟩
      refine ss_cons (sm_append (c := 0) (φ := Is (eChg ch)) (i := 4) (by rfl) (by first | exact Or.inl rfl | exact Or.inr (Or.inl rfl) | exact Or.inr (Or.inr rfl)) (by rfl) (by exact (by exact ev_var (i := 8) rfl (by first | exact Or.inl rfl | exact Or.inr (Or.inl rfl) | exact Or.inr (Or.inr rfl)) rfl)) (by omega) (by rw [List.length_map]; omega) fun d hd => ?_)
      obtain rfl := hd
      refine ss_one (sm_set (φ := Is (eOwn (chg (chgs o cs) ch))) (c := 0) sc61.nd (i := 1) rfl (by first | exact Or.inl rfl | exact Or.inr rfl) (by exact Ev.to (by exact Ev.z (by exact (by first | exact ev_ixTI (by exact ev_cp ((chgs o cs, ch) : Own × Chg) (by exact c__law_state_changed) (by exact hr.mono (by first | decide | omega)) (by rfl) (by exact es_consI (by exact ev_var (i := 1) rfl (by first | exact Or.inl rfl | exact Or.inr (Or.inl rfl) | exact Or.inr (Or.inr rfl)) rfl) (by exact es_consI (by exact ev_var (i := 8) rfl (by first | exact Or.inl rfl | exact Or.inr (Or.inl rfl) | exact Or.inr (Or.inr rfl)) rfl) (by exact es_nil))) (by rfl) (by exact ⟨wok.w, wch⟩) (by rfl)) (by exact ev_int) (by first | rfl | assumption | trivial | omega) | exact ev_ixLI (by exact ev_cp ((chgs o cs, ch) : Own × Chg) (by exact c__law_state_changed) (by exact hr.mono (by first | decide | omega)) (by rfl) (by exact es_consI (by exact ev_var (i := 1) rfl (by first | exact Or.inl rfl | exact Or.inr (Or.inl rfl) | exact Or.inr (Or.inr rfl)) rfl) (by exact es_consI (by exact ev_var (i := 8) rfl (by first | exact Or.inl rfl | exact Or.inr (Or.inl rfl) | exact Or.inr (Or.inr rfl)) rfl) (by exact es_nil))) (by rfl) (by exact ⟨wok.w, wch⟩) (by rfl)) (by exact ev_int) (by first | rfl | assumption | trivial | omega))) (by rfl)) (by rfl)) (by omega) fun d hd => ?_)
      obtain rfl := hd
      refine ⟨cs ++ [ch], .dat d, .dat (.str x), .dat (.int k), .dat (eChg ch), ?_, wc.snoc wch hpk, by rw [List.length_append]; show cs.length + 1 ≤ i + 1; omega, by omega⟩
      rw [chgs_snoc, List.map_append]; rfl
  · rintro Γ' n' ⟨cs, a, b, c, e, rfl, wc, hcl, hle⟩
    have hdl : ds.length = m := by rw [hds]; unfold rangeD; rw [List.length_map, List.length_range]
    exact ⟨cs, a, b, c, e, rfl, wc, by omega, by omega⟩
  · rintro Γ' n' ⟨cs, a, b, c, e, rfl, wc, hcl, hle⟩
    refine ss_frzL (i := 4) rfl ?_
    refine ss_retE (by exact ev_tupleI (by rfl) (by exact hB _ (by decide +kernel)) (by exact ev_var (i := 4) rfl (by first | exact Or.inl rfl | exact Or.inr (Or.inl rfl) | exact Or.inr (Or.inr rfl)) rfl)) (by omega) rfl ⟨hφ cs wc hcl, by omega⟩
end
end K5
/-! N7: an own state whose columns are being written. -/
namespace K5
open PySem PySem.Spec PyProof.Rows L2 Qq
abbrev Cls := List (Str × Cols)
def kCls (cs : Cls) : List (Key × D) := cs.map fun t => (Sum.inr t.1, .lst (t.2.map eCol))
def kMts (ts : List Str) : List (Key × D) := ts.map fun x => (Sum.inr x, .dct [])
def FS (K : PySem.W.Frag) (W : Wd) (ts : List Str) (p : Addr) : Fam Cls := fun cs H0 R H => ∃ c vr kvs, Ow W H0 R p ∧ H p = some (.dK [(.inr "columns", .ref c), (.inr "rows", vr)]) ∧ Ow W H0 R c ∧ H c = some (.dK kvs) ∧ RpK K R kvs (kCls cs) ∧ Rp K R vr (.dct (kMts ts)) ∧ p ≠ c
theorem stb_fs {K : PySem.W.Frag} {W : Wd} {ts : List Str} {p : Addr} : Stb W (FS K W ts p) where
  gr := fun g ⟨c, vr, kvs, h1, h2, h3, h4, h5, h6, h7⟩ => ⟨c, vr, kvs, h1.gr g h2, g.hh _ _ h1.b h2, h3.gr g h4, g.hh _ _ h3.b h4, h5.mono g.rr, h6.mono g.rr, h7⟩
  re := fun g ⟨c, vr, kvs, h1, h2, h3, h4, h5, h6, h7⟩ => ⟨c, vr, kvs, h1.re g, h2, h3.re g, h4, h5, h6, h7⟩
theorem val_cols {vc vr : V} : valV [((Sum.inr (Str.ofString "columns") : Key), vc), ((Sum.inr (Str.ofString "rows") : Key), vr)] (Sum.inr (Str.ofString "columns") : Key) = some vc :=
  valV_pos (p := ((Sum.inr (Str.ofString "columns") : Key), vc)) rfl
section
variable {W : Wd} {X : Cx} {Γ : List Sl} {n c : Nat} {pos : Pos} {e tab rE : Expr} {ts : List Str}
/-- {"columns": {}, "rows": ..} -/
theorem evn_scene {k1 k2 : Nat} {p1 p2 p3 dpos : Pos} (hr : Ev W X rE Γ 0 (Is (.dct (kMts ts)))) :
    EvN W X (.Dict [some (.Constant (.str "columns") k1 p1), some (.Constant (.str "rows") k2 p2)] [.Dict [] [] p3, rE] dpos) Γ 0 (FS X.K W ts) (fun cs => cs = []) := fun R0 H0 Rl σ R n H s hn Q k => by
  refine wE_of (pe_disp (pps_cons pe_str pe_dnewK (pps_cons pe_str (wE_ok rE) pps_nil)) rfl rfl (by simp) (by show 2 ≤ 15; decide)) ?_
  intro p hp
  show ∀ c, (upd H p (.dK [])) c = none → _
  intro c hc
  have g1 : Gr W R H R (upd H p (.dK [])) := Gr.newM s.rh hp
  have g2 : Gr W R (upd H p (.dK [])) R (upd (upd H p (.dK [])) c (.dK [])) := Gr.newM g1.rh hc
  have g12 := g1.trans g2
  have j2 : W.J n (upd (upd H p (.dK [])) c (.dK [])) := W.loc s.j fun b o _ e => by
    have n1 : b ≠ p := ne_of_none e hp
    have e1 : (upd H p (.dK [])) b = some o := by rw [upd_ne n1]; exact e
    rw [upd_ne (ne_of_none e1 hc)]; exact e1
  have nc : c ≠ p := fun z => by rw [z, upd_same] at hc; cases hc
  have hcH : H c = none := by rw [upd_ne nc] at hc; exact hc
  refine hr R0 H0 Rl σ R n _ (s.grow g12 j2) hn _ fun vr R3 H3 d g3 j3 f r => ?_
  rw [show d = .dct (kMts ts) from f] at r
  have bp : ¬ W.B p := So.nB s.j hp
  have bc : ¬ W.B c := So.nB s.j hcH
  have hp2 : (upd (upd H p (.dK [])) c (.dK [])) p = some (.dK []) := by rw [upd_ne (fun z => nc z.symm)]; exact upd_same
  have hp3 := g3.hh p _ bp hp2
  have hc3 := g3.hh c _ bc upd_same
  have rp : R3 p = none := g3.nw p _ hp2 (s.rh.free hp)
  have rc : R3 c = none := g3.nw c _ upd_same (s.rh.free hcH)
  refine ⟨hp3, [(.inr "columns", .ref c), (.inr "rows", vr)], rfl, by show 2 ≤ 15; decide, ?_⟩
  have hne : ¬ (Sum.inr (Str.ofString "columns") : Key) = Sum.inr (Str.ofString "rows") := by decide +kernel
  rw [mergeK_nd [((Sum.inr (Str.ofString "columns") : Key), V.ref c), (Sum.inr (Str.ofString "rows"), vr)] [] (by simp [hne]), List.nil_append]
  have gA := g12.trans g3
  refine k p [] R3 _ (gA.mut hp rp) (W.loc j3 fun b o hb e => by rw [upd_ne (show b ≠ p from fun z => hb.elim (fun h => bp (z ▸ h)) fun ⟨φ, h⟩ => (by rw [z, hp3, h] at e; cases e))]; exact e) ⟨c, vr, [], ⟨rp, hp, bp⟩, upd_same, ⟨rc, hcH, bc⟩, by rw [upd_ne nc]; exact hc3, .nil, r, fun z => nc z.symm⟩ rfl
/-- own["columns"][tab] = e -/
theorem sn_cset {P : PsN Cls} {i j : Nat} {y : Str} {np cp ip ip2 : Pos} {p : Addr} {cs : Cls} {x : Str} (hu : X.A.units + 1 < cLine) (nm : NoM Γ) (hN : X.N[i]? = some y) (hv : Vis X.env.scope y) (hΓ : Γ[i]? = some (.at_ p)) (he : Ev W X e Γ c (fun d => ∃ cols, WCols cols ∧ d = .lst (cols.map eCol))) (ht : Ev W X tab Γ 0 (Is (.str x)))
    (hx : x ∉ cs.map (·.1)) (hlen : cs.length < 4000) (hn : n + c ≤ LIM) (kt : ∀ cols, WCols cols → P.nx Γ (n + c) (cs ++ [(x, cols)])) (hs : swapsWith e (some (.Subscript (.Subscript (.Name y np) (.Constant (.str "columns") j cp) ip) tab ip2)) pos.line X.env = pure false := by rfl)
    (hd : (y == ("__debug__" : Str)) = false := by decide) (hcd : (y == ("__classdict__" : Str)) = false := by decide) (h1 : NoSl (.Constant (.str "columns") j cp) := by exact fun _ _ => rfl) :
    SmN W X (FS X.K W ts p) (.Assign [.Subscript (.Subscript (.Name y np) (.Constant (.str "columns") j cp) ip) tab ip2] e pos) Γ n cs P := fun R0 H0 Rl R σ H E s f en => by
  refine wS_of (ps_dput hu (pe_dget hu (pe_var hN hv hd hcd) pe_str h1) (wE_ok tab) (wE_ok e) hs) ?_
  refine he R0 H0 Rl σ R n H s hn _ fun v R1 H1 d g1 j1 ⟨cols, wc, ed⟩ r1 => ?_
  subst ed
  have hl : i < σ.length := by rw [s.env.len]; exact (List.getElem?_eq_some_iff.mp hΓ).1
  have hσ : σ[i]? = some (some (.ref p)) := by
    have := s.env.ok i _ σ[i] hΓ (List.getElem?_eq_getElem hl)
    rw [List.getElem?_eq_getElem hl]; exact congrArg some this
  have f1 := stb_fs.gr g1 f
  obtain ⟨q, vr, kvs, w1, w2, w3, w4, w5, w6, w7⟩ := f1
  have s1 := s.grow g1 j1
  refine ⟨_, hσ, p, .ref q, rfl, .inl ⟨_, Sum.inr "columns", .inl w2, rfl, val_cols.symm⟩, ?_⟩
  refine ht R0 H0 Rl σ R1 (n + c) H1 s1 hn _ fun v3 R3 H3 d3 g3 j3 q3 r3 => ?_
  rw [show d3 = .str x from q3] at r3
  cases r3
  have s3 := s1.grow g3 j3
  have ow := w3.gr g3 w4
  have hq := g3.hh _ _ w3.b w4
  have hl : kvs.length < sizeLine := Nat.lt_of_lt_of_le (by rw [w5.len]; unfold kCls; rw [List.length_map]; exact hlen : kvs.length < 4000) (by decide)
  refine ⟨q, _, rfl, DPut.k (k := .inr x) hq hl, ?_⟩
  have ekeys : kvs.map (·.1) = cs.map fun t => Sum.inr t.1 := by rw [w5.keys]; unfold kCls; rw [List.map_map]; rfl
  have hnk : (Sum.inr x : Key) ∉ kvs.map (·.1) := fun z => by
    rw [ekeys] at z
    obtain ⟨t, ht, e⟩ := List.mem_map.mp z
    exact hx (List.mem_map.mpr ⟨t, ht, Sum.inr.inj e⟩)
  rw [putK_new hnk]
  refine en.nx _ _ (cs ++ [(x, cols)]) R3 _ _ (s3.poke nm ow.r ow.z ow.b hq fun φ z => by cases z) ⟨q, vr, kvs ++ [(Sum.inr x, v)], w1.gr g3 w2, by rw [upd_ne w7]; exact g3.hh _ _ w1.b w2, ow, upd_same, ?_, w6.mono g3.rr, w7⟩ (kt cols wc)
  have : kCls (cs ++ [(x, cols)]) = kCls cs ++ [(Sum.inr x, .lst (cols.map eCol))] := by unfold kCls; rw [List.map_append]; rfl
  rw [this]
  exact (w5.mono g3.rr).append (.cons (r1.mono g3.rr) .nil)
/-- the state is data from now on -/
theorem sn_frzS {P : PsN Cls} {sts : List Stmt} {i : Nat} {p : Addr} {cs : Cls} (nm : NoM Γ) (hΓ : Γ[i]? = some (.at_ p)) (hts : cs.map (·.1) = ts) (h : Sms W X sts (Γ.set i (.dat (eOwn (cs.map fun t => (t.1, t.2, []))))) n ⟨fun _ _ => False, P.rt, fun _ _ => False, fun _ _ => False, fun _ _ _ _ _ => False⟩) : SmsN W X (FS X.K W ts p) sts Γ n cs P := fun R0 H0 Rl R σ H E s f en => by
  obtain ⟨q, vr, kvs, w1, w2, w3, w4, w5, w6, w7⟩ := f
  refine wSs_lock ⟨q, _, w4, trivial, fun od => ?_⟩
  have s2 := s.lockO nm w3 w4 (fun φ z => by cases z) od
  have sm2 : Same R (upd R q (.frz od (.dK kvs))) := Same.freeze w3.r
  refine wSs_lock ⟨p, .dK [(.inr "columns", .ref q), (.inr "rows", vr)], by rw [upd_ne w7]; exact w2, trivial, fun od2 => ?_⟩
  have w1' := w1.upd (u := .frz od (.dK kvs)) w7
  have s3 := s2.lockO nm w1' (by rw [upd_ne w7]; exact w2) (fun φ z => by cases z) od2
  have sm3 := Same.freeze (o := .frz od2 (.dK [(.inr "columns", .ref q), (.inr "rows", vr)])) w1'.r
  have eC : oC (cs.map fun t => (t.1, t.2, [])) = kCls cs := by unfold oC kCls; rw [List.map_map]; rfl
  have eR : oR (cs.map fun t => (t.1, t.2, [])) = kMts ts := by rw [← hts]; unfold oR kMts; rw [List.map_map, List.map_map]; rfl
  have rr : Rp X.K (upd (upd R q (.frz od (.dK kvs))) p (.frz od2 (.dK [(.inr "columns", .ref q), (.inr "rows", vr)]))) (.ref p) (eOwn (cs.map fun t => (t.1, t.2, []))) := by
    unfold eOwn
    rw [eC, eR]
    exact .dct ⟨od2, upd_same⟩ (.cons (.dct ⟨od, sm3 _ _ upd_same⟩ (w5.mono (sm2.trans sm3))) (.cons (w6.mono (sm2.trans sm3)) .nil))
  have hl : i < σ.length := by rw [s.env.len]; exact (List.getElem?_eq_some_iff.mp hΓ).1
  have e1 : σ[i] = some (.ref p) := s.env.ok i _ σ[i] hΓ (List.getElem?_eq_getElem hl)
  have z := s3.set (i := i) rr
  rw [show σ.set i (some (.ref p)) = σ by rw [← e1]; exact List.set_getElem_self hl] at z
  exact h R0 H0 Rl _ σ _ E z ⟨fun _ _ _ _ _ _ z => z.elim, en.rt, fun _ _ _ _ _ _ z => z.elim, fun _ _ _ _ _ _ z => z.elim, fun _ _ _ _ _ _ _ _ z => z.elim⟩
/-- list(e), e a tuple that is drawn -/
theorem ev_listT {a : Expr} {p : Pos} {φ ψ : D → Prop} (hg : Gl X "list") (hm : Bn X "list") (ha : Ev W X a Γ c φ) (m : ∀ d, φ d → ∃ ds, d = .tup ds ∧ ψ (.lst ds)) (he : starEach [a] X.env = (false, eval a X.env) :: starEach [] X.env := by rfl) (hpl : (backTo pos (starEach [] X.env)).any (·.1) = false := by rfl) :
    Ev W X (.Call (.Name "list" p) [a] [] pos) Γ c ψ := fun R0 H0 Rl σ R n H s hn Q k => by
  refine wE_of (pe_callTy call_list_of hg hm PyProof.Rows.boot_list (pa_cons (wE_ok a) pa_nil he) (by decide) (by decide) he hpl) ?_
  refine ha R0 H0 Rl σ R n H s hn _ fun v R1 H1 d g j f r => ?_
  obtain ⟨ds, rfl, fz⟩ := m d f
  cases r with
  | @tup a xs _ sq r =>
    refine ⟨a, xs, rfl, .inr (sqT_mono g.rh sq), fun l hl => ?_⟩
    have g2 : Gr W0 R1 H1 (upd R1 l (.lst xs)) (upd H1 l (.lst xs)) := Gr.new g.rh hl
    exact k _ _ _ _ (g.trans g2.of0) (g2.j j) fz (.lst (SqL.of upd_same) (r.mono g2.rr))
/-- > of two integers that are drawn -/
theorem et_gtE {a b : Expr} {c1 c2 : Nat} {l1 h1 l2 h2 : Int} (ha : Ev W X a Γ c1 (Rg l1 h1)) (hb : Ev W X b Γ c2 (Rg l2 h2)) : EvT W X (.Compare a [.Gt] [b] pos) Γ (c1 + c2) (fun _ => True) := et_cmp2 op_gt (nomark _) ha hb fun x y ⟨u, eu, _⟩ ⟨v, ev, _⟩ => ⟨decide (v < u), by rw [eu, ev]; exact r2_B0, trivial⟩
end
end K5
namespace K5
open PySem PySem.Spec PyProof.Rows L2 Qq
def poolT : List Str := ["a", "s", "t", "u", "zzzzzz"]
theorem poolT_nd : poolT.Nodup := by decide +kernel
theorem poolT_nm : poolT.all nameS = true := by decide +kernel
theorem kMts_nd {ts : List Str} (h : ts.Nodup) : ((kMts ts).map (·.1)).Nodup := by
  unfold kMts
  rw [List.map_map]
  exact List.Pairwise.map (R := fun a b : Str => a ≠ b) (S := fun a b : Key => a ≠ b) Sum.inr (fun a b h w => h (Sum.inr.inj w)) h
theorem prs_mts (ts : List Str) : prsD (kMts ts) = ts.map fun x => D.tup [.str x, .dct []] := by unfold prsD kMts; rw [List.map_map]; rfl
theorem wo_new {cs : Cls} (h1 : cs.length ≤ 6) (h2 : ∀ t ∈ cs, nameS t.1 = true) (h3 : (cs.map (·.1)).Nodup) (h4 : ∀ t ∈ cs, WCols t.2) : WO (cs.map fun t => (t.1, t.2, [])) := by
  refine ⟨by rw [List.length_map]; exact h1, fun t ht => ?_, ?_, fun t ht => ?_, fun t ht r hr => ?_, fun t ht => ?_, fun t ht r hr => ?_⟩
  · obtain ⟨u, hu, rfl⟩ := List.mem_map.mp ht; exact h2 u hu
  · unfold oN; rw [List.map_map]; exact h3
  · obtain ⟨u, hu, rfl⟩ := List.mem_map.mp ht; exact h4 u hu
  · obtain ⟨u, hu, rfl⟩ := List.mem_map.mp ht; cases hr
  · obtain ⟨u, hu, rfl⟩ := List.mem_map.mp ht; exact List.nodup_nil
  · obtain ⟨u, hu, rfl⟩ := List.mem_map.mp ht; cases hr
theorem wcols_nil : WCols [] := ⟨Nat.zero_le _, (fun _ h => nomatch h), (fun _ h => nomatch h), List.nodup_nil⟩
section
variable {P : Program} {w : World} {K : PySem.W.Frag} {mg : Str → Option Value} {base : Heap} {f ct Pt : Addr} {fd : FuncData}
abbrev SScene : Wd → List Sl → (D → Prop) → Prop := fun W as φ => ∃ (a : Addr), as = [.at_ a, .dat (.lst (pool6.map .int))] ∧ PotW W a ∧ ∀ o, WO o → φ (eOwn o)
theorem sc66 : FnScope ["pot", "keys", "tables", "own", "table", "lap"] ["pot", "keys"] (defScope (top 66)) := ⟨rfl, rfl, rfl, by decide +kernel, rfl, by decide +kernel, by decide +kernel⟩
theorem ok66 (hB : Bns mg) (c__law_take : Cal P w K mg base 1 "_law_take" ["pot", "upto"] 1 STake) (c__law_of : Cal P w K mg base 2 "_law_of" ["pot", "some"] 1 SOf) (c_some : Cal P w K mg base 2 "_law_some" ["pot", "pool", "many"] 64 SSome) (c_cols : Cal P w K mg base 3 "_law_state_columns_drawn" ["pot"] 70 SCols) (c_chgs : Cal P w K mg base 5 "_law_state_changes_drawn" ["pot", "own", "keys", "most"] 250 SChgs) (c_dealt : Cal P w K mg base 5 "_law_state_dealt" ["own", "changes"] 0 SDealt) (F : FnP K "_law_scene" (top 66) f fd) : FnOk P w K mg base CX0 6 f fd ["pot", "keys"]  (spF K 1000 SScene) := by
  refine fn_ok F sc66 (fun W as φ h => by obtain ⟨a, h, _⟩ := h; rw [h]; rfl) (by decide) fun cdv A outer s H E W as φ n hr hS hn => ?_
  obtain ⟨ad, rfl, hpw, hφ⟩ := hS
  have hof : ∀ ss, (∃ r, ss = .at_ ad :: r ∧ Is [.dat (.lst [.int 2, .int 1, .int 3, .int 4, .int 0])] r) → SOf W ss (Rg 0 4) := fun ss ⟨r, e, q⟩ => ⟨ad, [.int 2, .int 1, .int 3, .int 4, .int 0], by rw [e, show r = _ from q], hpw, by decide, by decide, fun d hd => by
    simp only [List.mem_cons, List.not_mem_nil, or_false] at hd
    rcases hd with rfl | rfl | rfl | rfl | rfl
    all_goals exact ⟨_, rfl, by decide, by decide⟩⟩
  have hsome : ∀ ss, (∃ r, ss = .at_ ad :: r ∧ ∃ d r2, r = .dat d :: r2 ∧ Is (.lst (poolT.map .str)) d ∧ ∃ d' r3, r2 = .dat d' :: r3 ∧ Rg 0 4 d' ∧ Is [] r3) → SSome W ss (fun d => ∃ ns rs : List Str, d = .lst (ns.map .str) ∧ (ns ++ rs).Perm poolT ∧ ns.length ≤ 4) := fun ss h => by
    obtain ⟨r, rfl, d, r2, rfl, rfl, d', r3, rfl, ⟨v, rfl, v1, v2⟩, rfl⟩ := h
    have ev : v = (v.toNat : Int) := by omega
    refine ⟨ad, poolT.map .str, v.toNat, by rw [← ev], hpw, by decide, by show v.toNat ≤ 5; omega, fun out rest hp hl => ?_⟩
    obtain ⟨ns, rs, rfl, h2⟩ := perm_strs hp
    exact ⟨ns, rs, rfl, h2, by rw [List.length_map] at hl; omega⟩
  refine ss_cons (sm_set (c := 65) sc66.nd (i := 2) rfl (by first | exact Or.inl rfl | exact Or.inr rfl) (by exact Ev.cost (by exact ev_call c_some (by exact hr.mono (by decide)) (by rfl) (by exact es_at (i := 0) rfl (by first | exact Or.inl rfl | exact Or.inr (Or.inl rfl) | exact Or.inr (Or.inr rfl)) rfl (by exact es_cons (φ := Is (.lst (poolT.map .str))) (by exact Ev.to (by exact ev_lstJ (by exact es_consI (by exact ev_str) (by exact es_consI (by exact ev_str) (by exact es_consI (by exact ev_str) (by exact es_consI (by exact ev_str) (by exact es_consI (by exact ev_str) (by exact es_nil)))))) (by rfl) (by rfl)) (by rfl)) (by exact es_cons (φ := Rg 0 4) (by exact ev_call c__law_of (by exact hr.mono (by decide)) (by rfl) (by exact es_at (i := 0) rfl (by first | exact Or.inl rfl | exact Or.inr (Or.inl rfl) | exact Or.inr (Or.inr rfl)) rfl (by exact es_consI (by exact Ev.to (by exact ev_lstJ (by exact es_consI (by exact ev_int) (by exact es_consI (by exact ev_int) (by exact es_consI (by exact ev_int) (by exact es_consI (by exact ev_int) (by exact es_consI (by exact ev_int) (by exact es_nil)))))) (by rfl) (by rfl)) (by rfl)) es_nil)) hof) es_nil))) hsome) (by decide)) (by omega) (fun d hd => ?_))
  obtain ⟨ns, rs, rfl, hp, hl4⟩ := hd
  have hnd : ns.Nodup := (List.nodup_append.mp (hp.nodup_iff.mpr poolT_nd)).1
  have hnm : ∀ z ∈ ns, nameS z = true := fun z hz => List.all_eq_true.mp poolT_nm z (hp.mem_iff.mp (List.mem_append_left _ hz))
  have hln : ns.length ≤ 4000 := by omega
  refine ss_nest (fun p => stb_fs (ts := ns)) sc66.nd (j := 3) rfl (by first | exact Or.inl rfl | exact Or.inr rfl) (c := 0) (by exact evn_scene (by exact ev_dictL (kds := kMts ns) (by rfl) (by rfl) (by exact hB _ (by decide +kernel)) (by exact Ev.to (by exact ev_lcF (own := [("table", 4)]) (xs := ns) (enc := D.str) (fun x => [(4, .str x)]) (by rfl) sc66.nd (blkOk_by (N := ["pot", "keys", "tables", "own", "table", "lap"]) (sc := defScope (top 66)) (by decide +kernel)) (by exact EvI.z (by exact ei_lstI (by exact ev_var (i := 2) rfl (by first | exact Or.inl rfl | exact Or.inr (Or.inl rfl) | exact Or.inr (Or.inr rfl)) rfl)) (by rfl)) (fun x hx => by exact ⟨fun s1 H1 C1 cl1 fp1 => ⟨(by exact Tg.to (by exact tg_name (i := 4) sc66.nd rfl (by first | exact Or.inl rfl | exact Or.inr rfl)) (by rfl)), (by exact Ev.to (by exact Ev.z (by exact ev_tupJ (by exact es_consI (by exact ev_var (i := 4) rfl (by first | exact Or.inl rfl | exact Or.inr (Or.inl rfl) | exact Or.inr (Or.inr rfl)) rfl) (by exact es_consI (by exact ev_mt) (by exact es_nil))) (by rfl) (by rfl)) (by rfl)) (by rfl))⟩, by simp⟩) (by first | rfl | assumption | trivial | omega)) (by exact congrArg D.lst (prs_mts ns).symm)) (kMts_nd hnd))) (by omega) (fun p cs0 hcs => ?_)
  obtain rfl : cs0 = [] := hcs
  refine sn_cons (sn_for (xs := ns) (enc := D.str) stb_fs (by exact PassesOwn.never) (by rfl) (by exact EvI.z (by exact ei_lstI (by exact ev_var (i := 2) rfl (by first | exact Or.inl rfl | exact Or.inr (Or.inl rfl) | exact Or.inr (Or.inr rfl)) rfl)) (by rfl)) (by omega)
    (fun k Γ' n' cs => cs.map (·.1) = ns.take k ∧ (∀ t ∈ cs, WCols t.2) ∧ n' ≤ n + 65 + k * 75 ∧ ∃ a, Γ' = [.at_ ad, .dat (.lst (pool6.map .int)), .dat (.lst (ns.map .str)), .at_ p, .dat a, .un] ∨ Γ' = [.at_ ad, .dat (.lst (pool6.map .int)), .dat (.lst (ns.map .str)), .at_ p, .un, .un]) ⟨by rw [List.take_zero]; rfl, (fun _ h => nomatch h), by omega, .non, .inr rfl⟩ ?_ ?_)
  · rintro k x Γ' n' cs hk ⟨e1, e2, hle, a, hΓ⟩
    have hkl : k < ns.length := (List.getElem?_eq_some_iff.mp hk).1
    have hlc : cs.length ≤ 4 := by have := congrArg List.length e1; rw [List.length_map, List.length_take] at this; omega
    have hΓ2 : setG Γ' [(4, .str x)] = [.at_ ad, .dat (.lst (pool6.map .int)), .dat (.lst (ns.map .str)), .at_ p, .dat (.str x), .un] := by
      rcases hΓ with rfl | rfl <;> rfl
    have hx : x ∉ cs.map (·.1) := fun z => by
      rw [e1] at z
      have := hnd
      rw [← List.take_append_drop k ns] at this
      have hd := (List.nodup_append.mp this).2.2 x z x (by rw [List.drop_eq_getElem_cons hkl]; have := List.getElem?_eq_getElem hkl; rw [this] at hk; cases hk; exact List.mem_cons_self)
      exact hd rfl
    have hcols : ∀ ss, (∃ r, ss = .at_ ad :: r ∧ Is [] r) → SCols W ss (fun d => ∃ cols, WCols cols ∧ d = .tup (cols.map eCol)) := fun ss ⟨r, e, q⟩ => ⟨ad, by rw [e, show r = _ from q], hpw, fun cols h => ⟨cols, h, rfl⟩⟩
    have htl : ∀ d : D, (∃ cols, WCols cols ∧ d = .tup (cols.map eCol)) → ∃ ds, d = .tup ds ∧ ∃ cols, WCols cols ∧ D.lst ds = .lst (cols.map eCol) := fun d ⟨cols, h, e⟩ => ⟨_, e, cols, h, rfl⟩
    refine ⟨[(4, .str x)], (by exact tg_name (i := 4) sc66.nd rfl (by first | exact Or.inl rfl | exact Or.inr rfl)), ?_⟩
    rw [hΓ2]
    refine sn_one (sn_cset (c := 71) (x := x) (i := 3) (hu_of hr) (by exact nom_of (by rfl)) (by rfl) (by first | exact Or.inl rfl | exact Or.inr (Or.inl rfl) | exact Or.inr (Or.inr rfl)) (by rfl) (by exact Ev.cost (by exact ev_if (c2 := 70) (ψ := fun _ => True) (by exact et_gtE (by exact ev_take hB c__law_take (by exact hr.mono (by first | decide | omega)) (by rfl) hpw (i := 0) rfl (by first | exact Or.inl rfl | exact Or.inr (Or.inl rfl) | exact Or.inr (Or.inr rfl)) rfl (by exact ev_int) (by decide) (by decide)) (by exact ev_rint)) (fun _ => by exact Ev.cost (by exact ev_listT (φ := fun d => ∃ cols, WCols cols ∧ d = .tup (cols.map eCol)) (ψ := fun d => ∃ cols, WCols cols ∧ d = .lst (cols.map eCol)) (by rfl) (by exact hB _ (by decide +kernel)) (by exact ev_call (φ := fun d => ∃ cols, WCols cols ∧ d = .tup (cols.map eCol)) c_cols (by exact hr.mono (by decide)) (by rfl) (by exact es_at (i := 0) rfl (by first | exact Or.inl rfl | exact Or.inr (Or.inl rfl) | exact Or.inr (Or.inr rfl)) rfl es_nil) hcols) htl) (by decide)) (fun _ => by exact Ev.imp (φ := Is (D.lst [])) (by exact Ev.cost (c1 := 0) (by exact Ev.to (by exact ev_lstJ (by exact es_nil) (by rfl) (by rfl)) (by rfl)) (by decide)) fun d e => ⟨[], wcols_nil, e⟩)) (by decide)) (by exact ev_var (i := 4) rfl (by first | exact Or.inl rfl | exact Or.inr (Or.inl rfl) | exact Or.inr (Or.inr rfl)) rfl) hx (by omega) (by omega) (fun cols wc => ?_))
    refine ⟨by rw [List.map_append, e1, take_succ hk]; rfl, fun t ht => ?_, by omega, .str x, .inl rfl⟩
    rcases List.mem_append.mp ht with ht | ht
    · exact e2 t ht
    · obtain rfl : t = (x, cols) := by simpa using ht
      exact wc
  · rintro Γ' n' cs ⟨e1, e2, hle, a, hΓ⟩
    rw [List.take_length] at e1
    have hlc : cs.length = ns.length := by have := congrArg List.length e1; rwa [List.length_map] at this
    have wo := wo_new (cs := cs) (by omega) (fun t ht => hnm _ (by rw [← e1]; exact List.mem_map.mpr ⟨t, ht, rfl⟩)) (by rw [e1]; exact hnd) e2
    have hgo : ∃ b, Γ'.set 3 (.dat (eOwn (cs.map fun t => (t.1, t.2, [])))) = [.at_ ad, .dat (.lst (pool6.map .int)), .dat (.lst (ns.map .str)), .dat (eOwn (cs.map fun t => (t.1, t.2, []))), b, .un] := by
      rcases hΓ with rfl | rfl <;> exact ⟨_, rfl⟩
    obtain ⟨b, hgo⟩ := hgo
    have hnmΓ : NoM Γ' := by rcases hΓ with rfl | rfl <;> exact nom_of (by rfl)
    have hΓ3 : Γ'[3]? = some (.at_ p) := by rcases hΓ with rfl | rfl <;> rfl
    refine sn_frzS (i := 3) hnmΓ hΓ3 e1 ?_
    rw [hgo]
    generalize hoo : (cs.map fun t => (t.1, t.2, ([] : Rws))) = o0 at wo
    have hr2 : n' ≤ n + 400 := by omega
    refine ss_cons (sm_post (fun Γ2 n2 => ∃ o a c, WO o ∧ Γ2 = [.at_ ad, .dat (.lst (pool6.map .int)), .dat (.lst (ns.map .str)), .dat (eOwn o), a, c] ∧ n2 ≤ n + 1000)
      (sm_forE (c := 0) (φs := fun ds => ds.length = 2) (by exact PassesOwn.never) (by rfl) (by exact EvI.imp (by exact EvI.z (by exact ei_rangeI (by rfl) (by exact hB _ (by decide +kernel)) (by exact ev_int) (by first | rfl | assumption | trivial | omega) (by first | rfl | assumption | trivial | omega)) (by rfl)) fun ds h => by rw [show ds = _ from h]; rfl) (by omega) (fun ds hds => ⟨fun i Γ2 n2 => ∃ o a c, WO o ∧ Γ2 = [.at_ ad, .dat (.lst (pool6.map .int)), .dat (.lst (ns.map .str)), .dat (eOwn o), a, c] ∧ n2 ≤ n + 400 + i * 250, ⟨o0, _, _, wo, rfl, by omega⟩, ?_, ?_⟩)) ?_)
    · rintro i d Γ2 n2 hi ⟨o, a2, c2, wo2, rfl, hle2⟩
      have hil : i < 2 := by rw [← hds]; exact (List.getElem?_eq_some_iff.mp hi).1
      have hc1 : ∀ ss, (∃ r, ss = .at_ ad :: r ∧ Is [.dat (eOwn o), .dat (.lst (pool6.map .int)), .dat (.int 6)] r) → SChgs W ss (fun d => ∃ ch, WChgs o ch ∧ ch.length ≤ 6 ∧ d = .tup (ch.map eChg)) := fun ss ⟨r, e, q⟩ => ⟨ad, o, by rw [e, show r = _ from q], hpw, wo2, fun ch h1 h2 => ⟨ch, h1, h2, rfl⟩⟩
      have hc2 : ∀ ss, (∃ d0 r0, ss = Sl.dat d0 :: r0 ∧ Is (eOwn o) d0 ∧ ∃ d1 r1, r0 = .dat d1 :: r1 ∧ (∃ ch, WChgs o ch ∧ ch.length ≤ 6 ∧ d1 = .tup (ch.map eChg)) ∧ Is [] r1) → SDealt W ss (fun d => ∃ o', WO o' ∧ d = .tup [eOwn o', .non]) := fun ss h => by
        obtain ⟨_, _, rfl, rfl, _, _, rfl, ⟨ch, h1, h2, rfl⟩, rfl⟩ := h
        exact ⟨(o, ch), rfl, ⟨wo2, h1, by show ch.length ≤ 4000; omega⟩, chgs o ch, wo2.chgs h1, rfl⟩
      have hix : ∀ dx dy : D, (∃ o', WO o' ∧ dx = .tup [eOwn o', .non]) → Is (D.int 0) dy → ∃ ds i d, dx = .tup ds ∧ dy = .int i ∧ atI ds i = some d ∧ ∃ o', WO o' ∧ d = eOwn o' := fun dx dy ⟨o', w, e⟩ f => ⟨_, 0, eOwn o', e, f, rfl, o', w, rfl⟩
      refine ⟨[(5, d)], (by exact tg_name (i := 5) sc66.nd rfl (by first | exact Or.inl rfl | exact Or.inr rfl)), ?_⟩
      refine ss_one (sm_set (c := 250) (φ := fun d => ∃ o', WO o' ∧ d = eOwn o') sc66.nd (i := 3) rfl (by first | exact Or.inl rfl | exact Or.inr rfl) (by exact Ev.cost (by exact ev_ixT (by exact ev_call (φ := fun d => ∃ o', WO o' ∧ d = .tup [eOwn o', .non]) c_dealt (by exact hr.mono (by decide)) (by rfl) (by exact es_cons (φ := Is (eOwn o)) (by exact (by exact ev_var (i := 3) rfl (by first | exact Or.inl rfl | exact Or.inr (Or.inl rfl) | exact Or.inr (Or.inr rfl)) rfl)) (by exact es_cons (φ := fun d => ∃ ch, WChgs o ch ∧ ch.length ≤ 6 ∧ d = .tup (ch.map eChg)) (by exact ev_call (φ := fun d => ∃ ch, WChgs o ch ∧ ch.length ≤ 6 ∧ d = .tup (ch.map eChg)) c_chgs (by exact hr.mono (by decide)) (by rfl) (by exact es_at (i := 0) rfl (by first | exact Or.inl rfl | exact Or.inr (Or.inl rfl) | exact Or.inr (Or.inr rfl)) rfl (by exact es_consI (by exact (by exact ev_var (i := 3) rfl (by first | exact Or.inl rfl | exact Or.inr (Or.inl rfl) | exact Or.inr (Or.inr rfl)) rfl)) (by exact es_consI (by exact (by exact ev_var (i := 1) rfl (by first | exact Or.inl rfl | exact Or.inr (Or.inl rfl) | exact Or.inr (Or.inr rfl)) rfl)) (by exact es_consI (by exact (by exact ev_int)) es_nil)))) hc1) es_nil)) hc2) (by exact (by exact ev_int)) hix) (by decide)) (by omega) fun d hd => ?_)
      obtain ⟨o', w', rfl⟩ := hd
      exact ⟨o', a2, _, w', rfl, by omega⟩
    · rintro Γ2 n2 ⟨o, a2, c2, wo2, rfl, hle2⟩
      exact ⟨o, a2, c2, wo2, rfl, by omega⟩
    · rintro Γ2 n2 ⟨o, a2, c2, wo2, rfl, hle2⟩
      refine ss_retE (by exact ev_var (i := 3) rfl (by first | exact Or.inl rfl | exact Or.inr (Or.inl rfl) | exact Or.inr (Or.inr rfl)) rfl) (by omega) rfl ⟨hφ o wo2, by omega⟩
end
end K5
/-! N8: calls by keywords alone. -/
namespace K5
open PySem PySem.Spec PyProof.Rows L2 Qq
/-- a way to order what is handed in by name -/
structure Reo where
  g : {α : Type} → List α → List α
  rel : ∀ {α β : Type} {F : α → β → Prop} {as : List α} {bs : List β}, Paired F as bs → Paired F (g as) (g bs)
def reo1 : Reo := ⟨fun l => l, fun h => h⟩
def sw2 {α : Type} : List α → List α
  | [a, b] => [b, a]
  | _ => []
def sw3 {α : Type} : List α → List α
  | [a, b, c] => [b, a, c]
  | _ => []
def sw4 {α : Type} : List α → List α
  | [a, b, c, d] => [d, c, b, a]
  | _ => []
theorem sw2_rel {α β : Type} {F : α → β → Prop} {as : List α} {bs : List β} (h : Paired F as bs) : Paired F (sw2 as) (sw2 bs) := by
  cases h with
  | nil => exact .nil
  | cons a h => cases h with
    | nil => exact .nil
    | cons b h => cases h with
      | nil => exact .cons b (.cons a .nil)
      | cons c h => exact .nil
theorem sw3_rel {α β : Type} {F : α → β → Prop} {as : List α} {bs : List β} (h : Paired F as bs) : Paired F (sw3 as) (sw3 bs) := by
  cases h with
  | nil => exact .nil
  | cons a h => cases h with
    | nil => exact .nil
    | cons b h => cases h with
      | nil => exact .nil
      | cons c h => cases h with
        | nil => exact .cons b (.cons a (.cons c .nil))
        | cons d h => exact .nil
theorem sw4_rel {α β : Type} {F : α → β → Prop} {as : List α} {bs : List β} (h : Paired F as bs) : Paired F (sw4 as) (sw4 bs) := by
  cases h with
  | nil => exact .nil
  | cons a h => cases h with
    | nil => exact .nil
    | cons b h => cases h with
      | nil => exact .nil
      | cons c h => cases h with
        | nil => exact .nil
        | cons d h => cases h with
          | nil => exact .cons d (.cons c (.cons b (.cons a .nil)))
          | cons e h => exact .nil
def reo2 : Reo := ⟨sw2, sw2_rel⟩
def reo3 : Reo := ⟨sw3, sw3_rel⟩
def reo4 : Reo := ⟨sw4, sw4_rel⟩
theorem argl_paired {K : PySem.W.Frag} {R : Hp} : ∀ {vs : List V} {ss : List Sl}, ArgL K R vs ss → Paired (RpS K R) vs ss
  | _, _, .nil => .nil
  | _, _, .cons h t => .cons h (argl_paired t)
theorem paired_argl {K : PySem.W.Frag} {R : Hp} : ∀ {vs : List V} {ss : List Sl}, Paired (RpS K R) vs ss → ArgL K R vs ss
  | _, _, .nil => .nil
  | _, _, .cons h t => .cons h (paired_argl t)
theorem kbn_of {K : PySem.W.Frag} {x qual : Str} {params : Arguments} {body : List Stmt} {scope : Scope} {kws : List (Str × V)} {f : Addr} {fd : FuncData} {ps ks : List Str} (r : Reo) (F : FunD K x qual params body scope [] kws f fd)
    (h : ∀ (kV doc pm : Value) (an : Option Addr) (cdv ct : Value) (ws : List Value), ws.length = ks.length → bindArgs (PySem.W.fnOf x qual params body scope .none kV doc pm an cdv ct) ⟨[], ks.zip ws⟩ = pure (ps.zip (r.g ws))) : KBn K fd ps 0 ks (fun _ ws => r.g ws) (fun _ zs => r.g zs) := by
  obtain ⟨oc, od, dV, kV, doc, pm, an, cdv, ct, osl, rfl, lk, hcd, hD, hK⟩ := F.ex
  rcases hD with ⟨_, rfl⟩ | ⟨e, _⟩
  · refine ⟨fun s us ws _ l1 l2 => ?_, fun _ rz => r.rel rz⟩
    obtain rfl : us = [] := List.length_eq_zero_iff.mp l1
    exact .of_eq (h kV doc pm an cdv ct ws l2)
  · exact absurd rfl e
section
variable {X : Cx} {CX : CXT} {k n : Nat} {f : Addr} {fd : FuncData} {ps ks : List Str} {sp : Sp} {E : XK} {x : Str} {p pos : Pos} {e : Expr} {kws : List Keyword} {tk : TA} {g : List Value → List Value → List Value} {gV : List V → List V → List V}
/-- f(k = v, ..) -/
theorem pe_callKO (F : FnOk X.prog X.w X.K X.mg X.base CX k f fd ps sp) (hr : Room k X.A) (hg : Gl X x) (hm : X.mg x = some (.ref f)) (hk : PySem.W.keepIn X.K (.ref f) = true) (hb : KBn X.K fd ps 0 ks g gV) (hx : Passes CX X E)
    (hkw : PK X kws tk) (hall : (backToKw pos (keywordEach kws X.env)).all (·.1.isSome) = true) (hks : (backToKw pos (keywordEach kws X.env)).filterMap (·.1) = ks) (hdb : (x == ("__debug__" : Str)) = false)
    (hpl : ((backTo pos (starEach [] X.env)).any (·.1) || (backToKw pos (keywordEach kws X.env)).any (·.1.isNone)) = false) :
    PE X (.Call (.Name x p) [] kws pos) (fun σ H Q => tk σ H fun zs H2 => zs.length = ks.length ∧ sp (gV [] zs) H2 Q E) := by
  refine ⟨fun pins s σ H Q I h => ?_⟩
  refine wpAny_Call_Name_kw (ld_glob I hg hm ?_ hdb)
  refine PySem.W.callWith_KW0 (h₀ := X.base) I.ok.mod.kin hk hall (thn (hkw.run pos pins s σ H _ I h) fun ws s2 ⟨zs, H2, I2, rz, l2, q2⟩ => ⟨I2.kIn, ?_⟩) hpl
  rw [hks]
  exact run_fnN F hr hb hx I2 .nil rz rfl l2 q2
variable {W : Wd} {Γ : List Sl} {c c1 c2 : Nat} {φ : D → Prop}
def wK (X : Cx) (kws : List Keyword) : TA := fun σ H Q => ∃ (t : TA) (Q0 : List V → Hp → Prop), PK X kws t ∧ t σ H Q0 ∧ ∀ v H', Q0 v H' → Q v H'
theorem wK_ok (kws : List Keyword) : PK X kws (wK X kws) := ⟨fun pos pins s σ H Q I ⟨t, Q0, h, q, m⟩ => thn (h.run pos pins s σ H Q0 I q) fun u s' ⟨v, H', I', r, z⟩ => ⟨v, H', I', r, m v H' z⟩⟩
theorem wK_of {kws : List Keyword} {t : TA} (h : PK X kws t) {σ H Q} (q : t σ H Q) : wK X kws σ H Q := ⟨t, Q, h, q, fun _ _ z => z⟩
def EvK (W : Wd) (X : Cx) (kws : List Keyword) (Γ : List Sl) (c : Nat) (ss : List Sl) : Prop := ∀ R0 H0 Rl σ R n H, So W X.K R0 H0 Rl Γ R n σ H → n + c ≤ LIM → ∀ Q : List V → Hp → Prop,
  (∀ vs R' H', Gr W R H R' H' → W.J (n + c) H' → ArgL X.K R' vs ss → Q vs H') → wK X kws σ H Q
theorem ek_nil : EvK W X [] Γ 0 [] := fun R0 H0 Rl σ R n H s hn Q k => wK_of pk_nil (k [] R H (Gr.refl s.rh) s.j .nil)
theorem ek_cons {nm : Option Str} {kp : Pos} {d : D} {ss : List Sl} (h : Ev W X e Γ c1 (Is d)) (t : EvK W X kws Γ c2 ss) : EvK W X (⟨nm, e, kp⟩ :: kws) Γ (c1 + c2) (.dat d :: ss) := fun R0 H0 Rl σ R n H s hn Q k => by
  refine wK_of (pk_cons (wE_ok e) (wK_ok kws)) ?_
  refine h R0 H0 Rl σ R n H s (by omega) _ fun v R1 H1 d' g1 j1 f1 r1 => ?_
  rw [show d' = d from f1] at r1
  refine t R0 H0 Rl σ R1 _ H1 (s.grow g1 j1) (by omega) _ fun vs R2 H2 g2 j2 r2 => ?_
  exact k _ R2 H2 (g1.trans g2) (by rwa [Nat.add_assoc] at j2) (.cons (.dat (r1.mono g2.rr)) r2)
/-- the def x can be called by keywords -/
structure CalK (P : Program) (w : World) (K : PySem.W.Frag) (mg : Str → Option Value) (base : Heap) (k : Nat) (x : Str) (ps ks : List Str) (r : Reo) (c : Nat) (S : Wd → List Sl → (D → Prop) → Prop) : Prop where
  ex : ∃ f fd, mg x = some (.ref f) ∧ PySem.W.keepIn K (.ref f) = true ∧ KBn K fd ps 0 ks (fun _ ws => r.g ws) (fun _ zs => r.g zs) ∧ FnOk P w K mg base CX0 k f fd ps (spF K c S)
theorem ev_callK {r : Reo} {S : Wd → List Sl → (D → Prop) → Prop} {ss : List Sl} (F : CalK X.prog X.w X.K X.mg X.base k x ps ks r c2 S) (hr : Room k X.A) (hg : Gl X x) (ha : EvK W X kws Γ c1 ss) (hl : ss.length = ks.length) (h : S W (r.g ss) φ)
    (hall : (backToKw pos (keywordEach kws X.env)).all (·.1.isSome) = true := by rfl) (hks : (backToKw pos (keywordEach kws X.env)).filterMap (·.1) = ks := by rfl) (hdb : (x == ("__debug__" : Str)) = false := by decide)
    (hpl : ((backTo pos (starEach [] X.env)).any (·.1) || (backToKw pos (keywordEach kws X.env)).any (·.1.isNone)) = false := by rfl) : Ev W X (.Call (.Name x p) [] kws pos) Γ (c1 + c2) φ := fun R0 H0 Rl σ R n H s hn Q q => by
  obtain ⟨f, fd, hm, hk, hb, F⟩ := F.ex
  refine wE_of (pe_callKO F hr hg hm hk hb pass0 (wK_ok kws) hall hks hdb hpl) ?_
  refine ha R0 H0 Rl σ R n H s (by omega) _ fun vs R1 H1 g1 j1 r1 => ?_
  have s1 := s.grow g1 j1
  refine ⟨r1.len.trans hl, W, R1, n + c1, r.g ss, φ, g1.rh, s1.rb, j1, by omega, paired_argl (r.rel (argl_paired r1)), h, fun v R' H' d g j f rr => q v R' H' d (g1.trans g) (by rwa [Nat.add_assoc] at j) f rr⟩
end
end K5
/-! P27: what is told of an own state. -/
namespace K5
open PySem PySem.Spec PyProof.Rows L2 Qq
/-! ### alike -/
theorem same_up : ∀ {k : Nat} {d e : D}, SameT k d e → SameT (k + 1) d e
  | 0, _, _, h => .inl h
  | k + 1, _, _, h => by
    rcases h with h | ⟨xs, ys, h1, h2, h3, h4, h5⟩
    · exact .inl h
    · exact .inr ⟨xs, ys, h1, h2, h3, h4, fun i x y a b => same_up (h5 i x y a b)⟩
theorem same_le {j k : Nat} (h : j ≤ k) {d e : D} (s : SameT j d e) : SameT k d e := by
  obtain ⟨m, rfl⟩ := Nat.le.dest h
  clear h
  induction m with
  | zero => exact s
  | succ m ih => exact same_up ih
theorem same_sc {k : Nat} {d e : D} (h : sameS d e) : SameT k d e := same_le (Nat.zero_le k) (show SameT 0 d e from h)
theorem same_map {α : Type} {k : Nat} {f g : α → D} {l : List α} (hl : l.length ≤ 4000) (h : ∀ a ∈ l, SameT k (f a) (g a)) {d e : D} (hd : d = .tup (l.map f) ∨ d = .rws (l.map f)) (he : e = .tup (l.map g) ∨ e = .rws (l.map g)) : SameT (k + 1) d e := by
  refine .inr ⟨_, _, hd, he, by rw [List.length_map, List.length_map], by rw [List.length_map]; exact hl, fun i x y a b => ?_⟩
  rw [List.getElem?_map] at a b
  cases q : l[i]? with
  | none => rw [q] at a; cases a
  | some z =>
    rw [q] at a b
    cases a; cases b
    exact h z (List.mem_of_getElem? q)
theorem same_two {k : Nat} {a b c d : D} (h1 : SameT k a c) (h2 : SameT k b d) : SameT (k + 1) (.tup [a, b]) (.tup [c, d]) := by
  refine .inr ⟨_, _, .inl rfl, .inl rfl, rfl, by show 2 ≤ 4000; decide, fun i x y p q => ?_⟩
  match i with
  | 0 => cases p; cases q; exact h1
  | 1 => cases p; cases q; exact h2
  | i + 2 => simp at p
theorem val_same {k : Str} {v : D} (h : valOk k v) : sameS v v := by cases v <;> first | exact h.elim | trivial
theorem vals_same {cs : Cols} (hc : cs.length ≤ 6) {vs : List D} (h : WVals cs vs) : SameT 1 (.tup vs) (.tup vs) := by
  have : SameT (0 + 1) (.tup (vs.map id)) (.tup (vs.map id)) := same_map (f := id) (g := id) (by rw [h.1]; omega) (fun v hv => by
    obtain ⟨i, hi⟩ := List.getElem?_of_mem hv
    have hl := (List.getElem?_eq_some_iff.mp hi).1
    have hc' : i < cs.length := by rw [← h.1]; exact hl
    exact val_same (h.2 i _ _ (List.getElem?_eq_getElem hc') hi)) (.inl rfl) (.inl rfl)
  rwa [List.map_id] at this
theorem ints_same {l : List Int} (h : l.length ≤ 4000) : SameT 1 (.tup (l.map .int)) (.tup (l.map .int)) := same_map (k := 0) (f := D.int) (g := D.int) h (fun i _ => (show sameS (.int i) (.int i) from rfl)) (.inl rfl) (.inl rfl)
theorem opt_same {cs : Cols} (hc : cs.length ≤ 6) {ov : Option (List D)} (h : ∀ vs, ov = some vs → WVals cs vs) : SameT 1 (optD ov) (optD ov) := by
  cases ov with
  | none => exact same_sc trivial
  | some vs => exact vals_same hc (h vs rfl)
/-! ### ascending -/
theorem asc_pw : ∀ {l : List D}, l.Pairwise (fun a b => ltD a b = true) → ((l.zip (l.drop 1)).all fun p => ltD p.1 p.2) = true
  | [], _ => rfl
  | [_], _ => rfl
  | a :: b :: r, h => by
    obtain ⟨h1, h2⟩ := List.pairwise_cons.mp h
    have ih := asc_pw h2
    show ((a, b) :: (b :: r).zip ((b :: r).drop 1)).all _ = true
    rw [List.all_cons, ih, h1 b List.mem_cons_self]; rfl
theorem sortT_nd {ks : List Str} (h : ks.Nodup) : (sortT ks).Nodup := (List.mergeSort_perm _ _).nodup_iff.mpr h
theorem sortI_nd {ks : List Int} (h : ks.Nodup) : (sortI ks).Nodup := (List.mergeSort_perm _ _).nodup_iff.mpr h
theorem sortT_asc {ks : List Str} (h : ks.Nodup) : ascD (.tup ((sortT ks).map .str)) = true := by
  refine asc_pw (List.Pairwise.map (R := fun a b : Str => leT a b ∧ a ≠ b) D.str (fun a b q => ?_) ((sortT_pw ks).and (sortT_nd h)))
  show ltS a b = true
  unfold ltS
  refine decide_eq_true ?_
  by_cases z : a.cps.toList < b.cps.toList
  · exact z
  · exact absurd (leT_anti q.1 z) q.2
theorem sortI_asc {ks : List Int} (h : ks.Nodup) : ascD (.lst ((sortI ks).map .int)) = true := by
  refine asc_pw (List.Pairwise.map (R := fun a b : Int => a ≤ b ∧ a ≠ b) D.int (fun a b q => ?_) ((sortI_pw ks).and (sortI_nd h)))
  show decide (a < b) = true
  exact decide_eq_true (by omega)
/-! ### what is told of an own state -/
theorem wsch {o : Own} (h : WO o) : WSch (schOf o) := by
  refine ⟨by rw [sch_len]; exact h.len, fun t ht => ?_, fun t ht => ?_, by rw [sch_fst]; exact sortT_nd h.nd, by rw [sch_fst]; exact sortT_asc h.nd⟩
  · obtain ⟨u, hu, e⟩ := List.mem_map.mp (sch_mem ht).1
    rw [← e]; exact h.nm u hu
  · obtain ⟨hx, e⟩ := sch_mem ht
    rw [e]; exact h.cols hx
theorem sortKeys_keys (rs : Rws) : (sortKeys rs).map (·.1) = sortI (rs.map (·.1)) := by unfold sortKeys; rw [List.map_map]; exact List.map_id _
theorem sortKeys_mem {rs : Rws} {r : Row} (h : r ∈ sortKeys rs) : r ∈ rs := by
  obtain ⟨k, hk, rfl⟩ := List.mem_map.mp h
  obtain ⟨q, hq, e⟩ := List.mem_map.mp (sortI_mem.mp hk)
  cases z : rs.find? fun r => decide (r.1 = k) with
  | none => exact absurd (List.find?_eq_none.mp z q hq) (by simp [e])
  | some u =>
    have h1 := List.mem_of_find?_eq_some z
    have h2 : u.1 = k := by simpa using List.find?_some z
    have : (k, ((some u : Option Row).map (·.2)).getD []) = u := by rw [← h2]; rfl
    rw [this]; exact h1
theorem sortKeys_len (rs : Rws) : (sortKeys rs).length = rs.length := by have := congrArg List.length (sortKeys_keys rs); rwa [List.length_map, sortI_len, List.length_map] at this
theorem told_fst (o : Own) : (toldOf o).map (·.1) = sortT (oN o) := by unfold toldOf; rw [List.map_map]; exact List.map_id _
theorem told_mem {o : Own} {p : Str × Rws} (h : p ∈ toldOf o) : p.1 ∈ oN o ∧ p.2 = sortKeys (rowsOf o p.1) := by
  obtain ⟨x, hx, rfl⟩ := List.mem_map.mp h
  exact ⟨sortT_mem.mp hx, rfl⟩
theorem WO.rows6 {o : Own} (h : WO o) {x : Str} (hx : x ∈ oN o) : (rowsOf o x).length ≤ 6 := by
  obtain ⟨t, ht, e⟩ := rowsOf_mem hx
  rw [e]; exact h.rl ht
theorem wrows {o : Own} (h : WO o) {x : Str} (hx : x ∈ oN o) : WRows (colsOf o x) (sortKeys (rowsOf o x)) := by
  obtain ⟨r1, r2, r3⟩ := h.rows hx
  have := h.rows6 hx
  exact ⟨by rw [sortKeys_len]; omega, fun r hr => pool6_ok _ (r1 r (sortKeys_mem hr)), fun r hr => r3 r (sortKeys_mem hr), by rw [sortKeys_keys]; exact sortI_asc r2⟩
theorem wstt {o : Own} (h : WO o) : WStt (schOf o) (toldOf o) := by
  refine ⟨by rw [told_fst, sch_fst], fun i c p h1 h2 => ?_⟩
  unfold schOf at h1
  unfold toldOf at h2
  rw [List.getElem?_map] at h1 h2
  cases q : (sortT (oN o))[i]? with
  | none => rw [q] at h1; cases h1
  | some x =>
    rw [q] at h1 h2
    cases h1; cases h2
    exact wrows h (sortT_mem.mp (List.mem_of_getElem? q))
theorem tldp {o : Own} (h : WO o) : TldP (eSttP (toldOf o)) (toldOf o) := ⟨rfl, _, wsch h, wstt h⟩
theorem find_map (f : Int → List D) (key : Int) : ∀ ks : List Int, ((ks.map fun k => (k, f k)).find? fun r : Row => decide (r.1 = key)) = if key ∈ ks then some (key, f key) else none
  | [] => rfl
  | k :: ks => by
    rw [List.map_cons, List.find?_cons]
    by_cases e : k = key
    · subst e
      simp
    · have ih := find_map f key ks
      simp only [decide_eq_false e]
      rw [ih]
      by_cases m : key ∈ ks
      · rw [if_pos m, if_pos (List.mem_cons_of_mem _ m)]
      · rw [if_neg m, if_neg (fun z => (List.mem_cons.mp z).elim (fun w => e w.symm) m)]
theorem inRows_sort (rs : Rws) (key : Int) : inRows (sortKeys rs) key = inRows rs key := by
  unfold inRows sortKeys
  rw [find_map]
  by_cases m : key ∈ rs.map (·.1)
  · rw [if_pos (sortI_mem.mpr m)]
    cases z : rs.find? fun r => decide (r.1 = key) with
    | none =>
      obtain ⟨r, hr, e⟩ := List.mem_map.mp m
      exact absurd (List.find?_eq_none.mp z r hr) (by simp [e])
    | some u => rfl
  · rw [if_neg fun w => m (sortI_mem.mp w)]
    cases z : rs.find? fun r => decide (r.1 = key) with
    | none => rfl
    | some u => exact absurd (List.mem_map.mpr ⟨u, List.mem_of_find?_eq_some z, (by simpa using List.find?_some z : u.1 = key)⟩) m
theorem inRows_vals {o : Own} (h : WO o) {x : Str} (hx : x ∈ oN o) (key : Int) : ∀ vs, inRows (rowsOf o x) key = some vs → WVals (colsOf o x) vs := fun vs e => by
  unfold inRows at e
  cases z : (rowsOf o x).find? fun r => decide (r.1 = key) with
  | none => rw [z] at e; cases e
  | some u =>
    rw [z] at e
    cases e
    exact (h.rows hx).2.2 u (List.mem_of_find?_eq_some z)
/-- the keys of a told state are the keys of the own one -/
theorem keys_told {o : Own} (h : WO o) : keysOf (toldOf o) = asc (keysL o) := by
  refine asc_ext fun k => ⟨fun z => ?_, fun z => ?_⟩
  · obtain ⟨p, hp, z⟩ := List.mem_flatMap.mp z
    obtain ⟨r, hr, rfl⟩ := List.mem_map.mp z
    obtain ⟨hx, e⟩ := told_mem hp
    rw [e] at hr
    obtain ⟨t, ht, e2⟩ := rowsOf_mem hx
    have := sortKeys_mem hr
    rw [e2] at this
    exact List.mem_flatMap.mpr ⟨t, ht, List.mem_map.mpr ⟨r, this, rfl⟩⟩
  · obtain ⟨t, ht, z⟩ := List.mem_flatMap.mp z
    obtain ⟨r, hr, rfl⟩ := List.mem_map.mp z
    have hx : t.1 ∈ oN o := List.mem_map.mpr ⟨t, ht, rfl⟩
    have e := (mem_nd h.nd ht).1
    have hk : r.1 ∈ (sortKeys (rowsOf o t.1)).map (·.1) := by
      rw [sortKeys_keys, sortI_mem, e]
      exact List.mem_map.mpr ⟨r, hr, rfl⟩
    obtain ⟨q, hq, e3⟩ := List.mem_map.mp hk
    refine List.mem_flatMap.mpr ⟨(t.1, sortKeys (rowsOf o t.1)), List.mem_map.mpr ⟨t.1, sortT_mem.mpr hx, rfl⟩, List.mem_map.mpr ⟨q, hq, e3⟩⟩
theorem flat_len {α β : Type} (f : α → List β) (m : Nat) : ∀ l : List α, (∀ a ∈ l, (f a).length ≤ m) → (l.flatMap f).length ≤ l.length * m
  | [], _ => by simp
  | a :: l, h => by
    have ih := flat_len f m l fun b hb => h b (List.mem_cons_of_mem _ hb)
    have h1 := h a List.mem_cons_self
    rw [List.flatMap_cons, List.length_append, List.length_cons, Nat.succ_mul]; omega
theorem keysL_len {o : Own} (h : WO o) : (keysL o).length < 64 := by
  have := flat_len (fun t : Str × Cols × Rws => t.2.2.map fun r => r.1) 6 o fun t ht => by rw [List.length_map]; exact h.rl ht
  have h6 := h.len
  have : (keysL o).length ≤ 6 * 6 := Nat.le_trans this (Nat.mul_le_mul_right 6 h6)
  omega
theorem keysL_pool {o : Own} (h : WO o) : ∀ k ∈ keysL o, k ∈ pool6 := fun k hk => by
  obtain ⟨t, ht, z⟩ := List.mem_flatMap.mp hk
  obtain ⟨r, hr, rfl⟩ := List.mem_map.mp z
  exact h.kp t ht r hr
theorem keysOf_pre {o : Own} (h : WO o) : (toldOf o).length ≤ 6 ∧ (∀ p ∈ toldOf o, p.2.length ≤ 4000) ∧ ∃ pool : List Int, pool.length < 64 ∧ ∀ p ∈ toldOf o, ∀ r ∈ p.2, r.1 ∈ pool := by
  refine ⟨by have := congrArg List.length (told_fst o); rw [List.length_map, sortT_len] at this; rw [this]; unfold oN; rw [List.length_map]; exact h.len, fun p hp => ?_, pool6, by decide, fun p hp r hr => ?_⟩
  · obtain ⟨hx, e⟩ := told_mem hp
    have := h.rows6 hx
    rw [e, sortKeys_len]; omega
  · obtain ⟨hx, e⟩ := told_mem hp
    rw [e] at hr
    exact (h.rows hx).1 r (sortKeys_mem hr)
/-- less is said of a told state -/
theorem rpl_map {K : PySem.W.Frag} {R : Hp} {α : Type} {f g : α → D} (h : ∀ a v, Rp K R v (f a) → Rp K R v (g a)) : ∀ {l : List α} {vs : List V}, RpL K R vs (l.map f) → RpL K R vs (l.map g)
  | [], _, r => r
  | a :: l, _, r => by
    cases r with | cons r1 r2 => exact .cons (h a _ r1) (rpl_map h r2)
theorem rp_sttP {K : PySem.W.Frag} {R : Hp} {v : V} {t : Stt} (h : Rp K R v (eSttP t)) : Rp K R v (eStt t) := by
  unfold eSttP at h
  cases h with | tup q r =>
  refine .tup q (rpl_map (f := ePartP) (g := ePart) (fun p v h => ?_) r)
  unfold ePartP at h
  cases h with | tup q r =>
  cases r with | cons r1 r => cases r with | cons r2 r =>
  cases r
  exact .tup q (.cons r1 (.cons r2.weak .nil))
end K5
namespace K5
open PySem PySem.Spec PyProof.Rows L2 Qq
theorem told_keyed (o : Own) (key : Int) : ((toldOf o).map fun p => (p.1, inRows p.2 key)) = keyedOf o key := by
  unfold toldOf keyedOf
  rw [List.map_map]
  exact List.map_congr_left fun x _ => by show (x, inRows (sortKeys (rowsOf o x)) key) = _; rw [inRows_sort]
theorem keyed_same {o : Own} (h : WO o) (key : Int) : SameT 6 (eKRs (keyedOf o key)) (eKRs (keyedOf o key)) := by
  refine same_le (by decide : 3 ≤ 6) (same_map (k := 2) (f := eKR) (g := eKR) ?_ (fun p hp => ?_) (.inl rfl) (.inl rfl))
  · unfold keyedOf
    rw [List.length_map, sortT_len]
    unfold oN
    rw [List.length_map]
    have := h.len; omega
  · obtain ⟨x, hx, rfl⟩ := List.mem_map.mp hp
    have hx := sortT_mem.mp hx
    exact same_two (same_sc (show sameS (.str x) (.str x) from rfl)) (opt_same (h.cols hx).len (inRows_vals h hx key))
section
variable {P : Program} {w : World} {K : PySem.W.Frag} {mg : Str → Option Value} {base : Heap} {f ct Pt : Addr} {fd : FuncData}
abbrev SSame6 := SQ2 (SameT 6) fun _ _ => D.bl true
abbrev SKR : Wd → List Sl → (D → Prop) → Prop := fun W as φ => ∃ v k t, as = [.dat v, .dat (.int k)] ∧ TldP v t ∧ 1 ≤ k ∧ k ≤ 999999 ∧ φ (eKRs (t.map fun p => (p.1, inRows p.2 k)))
abbrev SRI : Wd → List Sl → (D → Prop) → Prop := fun W as φ => ∃ v k t p, as = [.dat v, .dat (.str p.1), .dat (.int k)] ∧ TldP v t ∧ p ∈ t ∧ 1 ≤ k ∧ k ≤ 999999 ∧ φ (optD (inRows p.2 k))
abbrev SRight := SP (fun _ (x : Own) => WO x) (fun x => [eOwn x, eSch (schOf x), eSttP (toldOf x), .lst (pool6.map .int)]) fun _ => .bl true
theorem sc65 : FnScope ["own", "schema", "state", "keys", "key", "table", "columns"] ["own", "schema", "state", "keys"] (defScope (top 65)) := ⟨rfl, rfl, rfl, by decide +kernel, rfl, by decide +kernel, by decide +kernel⟩
theorem ok65 (hB : Bns mg) (c_same : Cal P w K mg base 7 "_law_same" ["one", "other"] 0 SSame6) (k_keys_of : CalK P w K mg base 1 "keys_of" ["state"] ["state"] reo1 0 SKeysOf) (c__law_state_keys : Cal P w K mg base 1 "_law_state_keys" ["own"] 0 SKeysO) (k_key_rows : CalK P w K mg base 4 "key_rows" ["state", "key"] ["key", "state"] reo2 0 SKR) (c__law_state_keyed : Cal P w K mg base 3 "_law_state_keyed" ["own", "key"] 0 SKeyed) (k_row_in : CalK P w K mg base 4 "row_in" ["state", "table", "key"] ["table", "state", "key"] reo3 0 SRI) (F : FnP K "_law_are_keys_right" (top 65) f fd) : FnOk P w K mg base CX0 8 f fd ["own", "schema", "state", "keys"]  (spF K 0 SRight) := by
  refine fn_ok F sc65 (fun W as φ h => by obtain ⟨x, rfl, _⟩ := h; rfl) (by decide) fun cdv A outer s H E W as φ n hr hS hn => ?_
  obtain ⟨o, rfl, wo, hφ⟩ := hS
  have hgo := get_own o
  have hsl := sch_len o
  have hl6 := wo.len
  have hs1 : SameT 6 (.tup ((keysOf (toldOf o)).map .int)) (.tup ((asc (keysL o)).map .int)) := by
    rw [keys_told wo]
    have := asc_len (keysL_pool wo)
    exact same_le (by decide : 1 ≤ 6) (ints_same (Nat.le_trans this (by decide)))
  have hk1 : SKeysOf W (reo1.g [.dat (eStt (toldOf o))]) (Is (.tup ((keysOf (toldOf o)).map .int))) := ⟨toldOf o, rfl, keysOf_pre wo, rfl⟩
  refine ss_ifF (z := _) (by exact et_not (by exact et_v (by exact ev_c2 (by exact c_same) (by exact hr.mono (by decide)) (by rfl) (by exact es_consI (by exact ev_callK (ss := [.dat (eStt (toldOf o))]) k_keys_of (by exact hr.mono (by decide)) (by rfl) (by exact ek_cons (by exact ev_via (by exact ev_var (i := 2) rfl (by first | exact Or.inl rfl | exact Or.inr (Or.inl rfl) | exact Or.inr (Or.inr rfl)) rfl) (fun R v h => rp_sttP h)) ek_nil) rfl hk1) (by exact es_consI (by exact ev_tupleI (by rfl) (by exact hB _ (by decide +kernel)) (by exact ev_cp o (by exact c__law_state_keys) (by exact hr.mono (by first | decide | omega)) (by rfl) (by exact es_consI (by exact ev_var (i := 0) rfl (by first | exact Or.inl rfl | exact Or.inr (Or.inl rfl) | exact Or.inr (Or.inr rfl)) rfl) (by exact es_nil)) (by rfl) (by exact ⟨wo.w, keysL_len wo⟩) (by rfl))) es_nil)) (by exact hs1) (by rfl)))) (by rfl) (by omega) ?_
  refine ss_cons (sm_for (xs := pool6) (enc := D.int) (by exact PassesOwn.never) (by rfl) (by exact EvI.z (by exact ei_lstI (by exact ev_var (i := 3) rfl (by first | exact Or.inl rfl | exact Or.inr (Or.inl rfl) | exact Or.inr (Or.inr rfl)) rfl)) (by rfl)) (by omega)
    (fun k Γ' n' => ∃ a b c, Γ' = [.dat (eOwn o), .dat (eSch (schOf o)), .dat (eSttP (toldOf o)), .dat (.lst (pool6.map .int)), a, b, c] ∧ n' ≤ n) ⟨_, _, _, rfl, by omega⟩ ?_ ?_)
  · rintro i key Γ' n' hi ⟨a, b, c, rfl, hle⟩
    obtain ⟨hk1, hk2⟩ := pool6_ok key (List.mem_of_getElem? hi)
    have hs2 : SameT 6 (eKRs ((toldOf o).map fun p => (p.1, inRows p.2 key))) (eKRs (keyedOf o key)) := by rw [told_keyed]; exact keyed_same wo key
    have hk2' : SKR W (reo2.g [.dat (.int key), .dat (eSttP (toldOf o))]) (Is (eKRs ((toldOf o).map fun p => (p.1, inRows p.2 key)))) := ⟨_, key, toldOf o, rfl, tldp wo, hk1, hk2, rfl⟩
    refine ⟨[(4, .int key)], (by exact tg_name (i := 4) sc65.nd rfl (by first | exact Or.inl rfl | exact Or.inr rfl)), ?_⟩
    refine ss_ifF (z := _) (by exact et_not (by exact et_v (by exact ev_c2 (by exact c_same) (by exact hr.mono (by decide)) (by rfl) (by exact es_consI (by exact ev_callK (ss := [.dat (.int key), .dat (eSttP (toldOf o))]) k_key_rows (by exact hr.mono (by decide)) (by rfl) (by exact ek_cons (by exact ev_var (i := 4) rfl (by first | exact Or.inl rfl | exact Or.inr (Or.inl rfl) | exact Or.inr (Or.inr rfl)) rfl) (by exact ek_cons (by exact ev_var (i := 2) rfl (by first | exact Or.inl rfl | exact Or.inr (Or.inl rfl) | exact Or.inr (Or.inr rfl)) rfl) ek_nil)) rfl hk2') (by exact es_consI (by exact ev_cp ((o, key) : Own × Int) (by exact c__law_state_keyed) (by exact hr.mono (by first | decide | omega)) (by rfl) (by exact es_consI (by exact ev_var (i := 0) rfl (by first | exact Or.inl rfl | exact Or.inr (Or.inl rfl) | exact Or.inr (Or.inr rfl)) rfl) (by exact es_consI (by exact ev_var (i := 4) rfl (by first | exact Or.inl rfl | exact Or.inr (Or.inl rfl) | exact Or.inr (Or.inr rfl)) rfl) (by exact es_nil))) (by rfl) (by exact wo.w) (by rfl)) es_nil)) (by exact hs2) (by rfl)))) (by rfl) (by omega) ?_
    refine ss_one (sm_for (xs := schOf o) (enc := eTab) (by exact PassesOwn.never) (by rfl) (by exact EvI.z (by exact ei_tupI (by exact ev_var (i := 1) rfl (by first | exact Or.inl rfl | exact Or.inr (Or.inl rfl) | exact Or.inr (Or.inr rfl)) rfl)) (by rfl)) (by omega)
      (fun k Γ' n' => ∃ b c, Γ' = [.dat (eOwn o), .dat (eSch (schOf o)), .dat (eSttP (toldOf o)), .dat (.lst (pool6.map .int)), .dat (.int key), b, c] ∧ n' ≤ n) ⟨_, _, rfl, by omega⟩ ?_ ?_)
    · rintro j t Γ2 n2 hj ⟨b, c, rfl, hle2⟩
      obtain ⟨hx, ht⟩ := sch_mem (List.mem_of_getElem? hj)
      have hgr := get_oR hx
      have hpm : (t.1, sortKeys (rowsOf o t.1)) ∈ toldOf o := List.mem_map.mpr ⟨t.1, sortT_mem.mpr hx, rfl⟩
      have hk3 : SRI W (reo3.g [.dat (.str t.1), .dat (eSttP (toldOf o)), .dat (.int key)]) (Is (optD (inRows (sortKeys (rowsOf o t.1)) key))) := ⟨_, key, toldOf o, _, rfl, tldp wo, hpm, hk1, hk2, rfl⟩
      have hs3 : SameT 6 (optD (inRows (sortKeys (rowsOf o t.1)) key)) ((getK (kRows (rowsOf o t.1)) (Sum.inl key)).getD .non) := by
        rw [get_rows, inRows_sort]
        exact same_le (by decide : 1 ≤ 6) (opt_same (wo.cols hx).len (inRows_vals wo hx key))
      refine ⟨[(5, .str t.1), (6, eCols t.2)], (by exact Tg.to (by exact tg_tup (by rfl) (by exact tl_cons (by exact tg_name (i := 5) sc65.nd rfl (by first | exact Or.inl rfl | exact Or.inr rfl)) (by exact tl_cons (by exact tg_name (i := 6) sc65.nd rfl (by first | exact Or.inl rfl | exact Or.inr rfl)) (by exact tl_nil)))) (by rfl)), ?_⟩
      refine ss_ifF (z := _) (by exact et_not (by exact et_v (by exact ev_c2 (by exact c_same) (by exact hr.mono (by decide)) (by rfl) (by exact es_consI (by exact ev_callK (ss := [.dat (.str t.1), .dat (eSttP (toldOf o)), .dat (.int key)]) k_row_in (by exact hr.mono (by decide)) (by rfl) (by exact ek_cons (by exact ev_var (i := 5) rfl (by first | exact Or.inl rfl | exact Or.inr (Or.inl rfl) | exact Or.inr (Or.inr rfl)) rfl) (by exact ek_cons (by exact ev_var (i := 2) rfl (by first | exact Or.inl rfl | exact Or.inr (Or.inl rfl) | exact Or.inr (Or.inr rfl)) rfl) (by exact ek_cons (by exact ev_var (i := 4) rfl (by first | exact Or.inl rfl | exact Or.inr (Or.inl rfl) | exact Or.inr (Or.inr rfl)) rfl) ek_nil))) rfl hk3) (by exact es_consI (by exact ev_get1 (k := (Sum.inl key)) (by exact hu_of hr) (by exact ev_dget (k := (Sum.inr t.1)) (by exact hu_of hr) (by exact ev_dget (k := Sum.inr "rows") (by exact hu_of hr) (by exact ev_var (i := 0) rfl (by first | exact Or.inl rfl | exact Or.inr (Or.inl rfl) | exact Or.inr (Or.inr rfl)) rfl) (by exact ev_str) (by first | rfl | assumption | trivial | omega)) (by exact ev_var (i := 5) rfl (by first | exact Or.inl rfl | exact Or.inr (Or.inl rfl) | exact Or.inr (Or.inr rfl)) rfl) (by exact hgr)) (by exact ev_var (i := 4) rfl (by first | exact Or.inl rfl | exact Or.inr (Or.inl rfl) | exact Or.inr (Or.inr rfl)) rfl)) es_nil)) (by exact hs3) (by rfl)))) (by rfl) (by omega) ?_
      exact ss_nil ⟨_, _, rfl, by omega⟩
    · rintro Γ2 n2 ⟨b, c, rfl, hle2⟩
      exact ⟨_, _, _, rfl, by omega⟩
  · rintro Γ' n' ⟨a, b, c, rfl, hle⟩
    refine ss_retE (by exact ev_bl) (by omega) rfl ⟨hφ, by omega⟩
end
end K5
/-! P29: rows laid under a key, here and there. -/
namespace K5
open PySem PySem.Spec PyProof.Rows L2 Qq
theorem rows_uniq : ∀ {a b : Rws}, a.Pairwise (fun p q => p.1 < q.1) → b.Pairwise (fun p q => p.1 < q.1) → (∀ r, r ∈ a ↔ r ∈ b) → a = b
  | [], [], _, _, _ => rfl
  | [], y :: b, _, _, h => nomatch (h y).mpr List.mem_cons_self
  | x :: a, [], _, _, h => nomatch (h x).mp List.mem_cons_self
  | x :: a, y :: b, h1, h2, h => by
    obtain ⟨p1, p2⟩ := List.pairwise_cons.mp h1
    obtain ⟨q1, q2⟩ := List.pairwise_cons.mp h2
    have e : x = y := by
      rcases List.mem_cons.mp ((h x).mp List.mem_cons_self) with e | e
      · exact e
      · have l1 := q1 x e
        rcases List.mem_cons.mp ((h y).mpr List.mem_cons_self) with e2 | e2
        · exact e2.symm
        · have l2 := p1 y e2
          omega
    subst e
    refine congrArg (x :: ·) (rows_uniq p2 q2 fun k => ⟨fun z => ?_, fun z => ?_⟩)
    · rcases List.mem_cons.mp ((h k).mp (List.mem_cons_of_mem _ z)) with e | e
      · have := p1 k z; rw [e] at this; omega
      · exact e
    · rcases List.mem_cons.mp ((h k).mpr (List.mem_cons_of_mem _ z)) with e | e
      · have := q1 k z; rw [e] at this; omega
      · exact e
theorem lt_pw {l : Rws} (h1 : l.Pairwise fun p q => p.1 ≤ q.1) (h2 : (l.map (·.1)).Nodup) : l.Pairwise fun p q => p.1 < q.1 := (h1.and (List.pairwise_map.mp h2)).imp fun {a b} q => by have := q.1; have := q.2; omega
theorem sortRows_pw {rs : Rws} (h : (rs.map (·.1)).Nodup) : (sortRows rs).Pairwise fun p q => p.1 < q.1 := by
  refine lt_pw ((List.pairwise_mergeSort (le := fun a b : Row => decide (a.1 ≤ b.1)) (fun a b c h1 h2 => decide_eq_true (Int.le_trans (of_decide_eq_true h1) (of_decide_eq_true h2))) (fun a b => ?_) rs).imp fun h => of_decide_eq_true h) (((List.mergeSort_perm _ _).map _).nodup_iff.mpr h)
  rcases Int.le_total a.1 b.1 with h | h
  · rw [decide_eq_true h]; rfl
  · rw [decide_eq_true h, Bool.or_true]
theorem sortRows_mem {rs : Rws} {r : Row} : r ∈ sortRows rs ↔ r ∈ rs := (List.mergeSort_perm _ _).mem_iff
theorem sortKeys_pw {rs : Rws} (h : (rs.map (·.1)).Nodup) : (sortKeys rs).Pairwise fun p q => p.1 < q.1 := by
  have h1 := L2.lt_of_le_nodup _ (sortI_pw (rs.map (·.1))) (sortI_nd h)
  rw [← sortKeys_keys] at h1
  exact List.pairwise_map.mp h1
theorem sortKeys_iff {rs : Rws} (h : (rs.map (·.1)).Nodup) {r : Row} : r ∈ sortKeys rs ↔ r ∈ rs := by
  refine ⟨sortKeys_mem, fun hr => ?_⟩
  have hk : r.1 ∈ (sortKeys rs).map (·.1) := by rw [sortKeys_keys]; exact sortI_mem.mpr (List.mem_map.mpr ⟨r, hr, rfl⟩)
  obtain ⟨q, hq, e⟩ := List.mem_map.mp hk
  rw [← nd_fst h (sortKeys_mem hq) hr e]; exact hq
theorem dropRows_mem {rs : Rws} {k : Int} {r : Row} : r ∈ dropRows rs k ↔ r ∈ rs ∧ r.1 ≠ k := by
  unfold dropRows
  rw [List.mem_filter]
  refine and_congr_right fun _ => ?_
  simp [eqS]
theorem dropRows_nd {rs : Rws} {k : Int} (h : (rs.map (·.1)).Nodup) : ((dropRows rs k).map (·.1)).Nodup := List.Nodup.sublist (List.filter_sublist.map _) h
theorem snoc_nd {rs : Rws} {k : Int} {vs : List D} (h : (rs.map (·.1)).Nodup) (hk : ∀ r ∈ rs, r.1 ≠ k) : ((rs ++ [(k, vs)]).map (·.1)).Nodup := by
  rw [List.map_append]
  refine List.nodup_append.mpr ⟨h, by simp, fun a ha b hb e => ?_⟩
  obtain ⟨r, hr, rfl⟩ := List.mem_map.mp ha
  simp only [List.map_cons, List.map_nil, List.mem_singleton] at hb
  exact hk r hr (e.trans hb)
/-- what withRows tells, by its members -/
theorem with_eq {a b : Rws} {k : Int} {ov : Option (List D)} (ha : (a.map (·.1)).Nodup) (hb : (b.map (·.1)).Nodup) (h : ∀ r, r ∈ b ↔ (r ∈ a ∧ r.1 ≠ k) ∨ ∃ vs, ov = some vs ∧ r = (k, vs)) : withRows a k ov = sortKeys b := by
  cases ov with
  | none =>
    refine rows_uniq (sortRows_pw (dropRows_nd ha)) (sortKeys_pw hb) fun r => ?_
    show r ∈ sortRows (dropRows a k) ↔ _
    rw [sortRows_mem, dropRows_mem, sortKeys_iff hb, h]
    simp
  | some vs =>
    refine rows_uniq (sortRows_pw (snoc_nd (dropRows_nd ha) fun r hr => (dropRows_mem.mp hr).2)) (sortKeys_pw hb) fun r => ?_
    show r ∈ sortRows (dropRows a k ++ [(k, vs)]) ↔ _
    rw [sortRows_mem, List.mem_append, dropRows_mem, sortKeys_iff hb, h, List.mem_singleton]
    refine or_congr_right ⟨fun e => ⟨vs, rfl, e⟩, fun ⟨us, e1, e2⟩ => ?_⟩
    cases e1; exact e2
/-! ### rows laid -/
def layRows (rs : Rws) (k : Int) : Option (List D) → Rws
  | none => dropRow rs k
  | some vs => putRow (dropRow rs k) k vs
theorem drop_iff {rs : Rws} {k : Int} {r : Row} : r ∈ dropRow rs k ↔ r ∈ rs ∧ r.1 ≠ k := by unfold dropRow; rw [List.mem_filter]; simp
theorem put_drop_eq (rs : Rws) (k : Int) (vs : List D) : putRow (dropRow rs k) k vs = dropRow rs k ++ [(k, vs)] := by
  unfold putRow
  rw [if_neg]
  intro z
  obtain ⟨r, hr, e⟩ := List.any_eq_true.mp z
  exact (drop_iff.mp hr).2 (of_decide_eq_true e)
theorem lay_nd {rs : Rws} {k : Int} {ov : Option (List D)} (h : (rs.map (·.1)).Nodup) : ((layRows rs k ov).map (·.1)).Nodup := by
  cases ov with
  | none => exact drop_keys rs k h
  | some vs => exact put_keys _ _ _ (drop_keys rs k h)
theorem with_lay {rs : Rws} {k : Int} {ov : Option (List D)} (h : (rs.map (·.1)).Nodup) : withRows (sortKeys rs) k ov = sortKeys (layRows rs k ov) := by
  refine with_eq (by rw [sortKeys_keys]; exact sortI_nd h) (lay_nd h) fun r => ?_
  rw [sortKeys_iff h]
  cases ov with
  | none =>
    show r ∈ dropRow rs k ↔ _
    rw [drop_iff]; simp
  | some vs =>
    show r ∈ putRow (dropRow rs k) k vs ↔ _
    rw [put_drop_eq, List.mem_append, drop_iff, List.mem_singleton]
    exact or_congr_right ⟨fun e => ⟨vs, rfl, e⟩, fun ⟨us, e1, e2⟩ => by cases e1; exact e2⟩
theorem rowsOf_set : ∀ {o : Own} {x : Str} {rs : Rws}, x ∈ oN o → rowsOf (setRows o x rs) x = rs
  | (y, cs, rs0) :: o, x, rs, h => by
    unfold setRows
    by_cases e : y = x
    · rw [if_pos e, ← e]; exact rowsOf_hd
    · rw [if_neg e, rowsOf_tl e]; exact rowsOf_set ((List.mem_cons.mp h).resolve_left fun z => e z.symm)
theorem rowsOf_off : ∀ {o : Own} {x y : Str} {rs : Rws}, y ≠ x → rowsOf (setRows o x rs) y = rowsOf o y
  | [], _, _, _, _ => rfl
  | (z, cs, rs0) :: o, x, y, rs, h => by
    unfold setRows
    by_cases e : z = x
    · rw [if_pos e]
      have : z ≠ y := fun w => h (w.symm.trans e)
      rw [rowsOf_tl this, rowsOf_tl this]
    · rw [if_neg e]
      by_cases e2 : z = y
      · subst e2; rw [rowsOf_hd, rowsOf_hd]
      · rw [rowsOf_tl e2, rowsOf_tl e2]; exact rowsOf_off h
theorem lay1_at {o : Own} {k : Int} {x : Str} {ov : Option (List D)} (h : x ∈ oN o) : rowsOf (lay1 k o (x, ov)) x = layRows (rowsOf o x) k ov := by
  cases ov with
  | none => exact rowsOf_set h
  | some vs =>
    show rowsOf (setRows (setRows o x (dropRow (rowsOf o x) k)) x (putRow (rowsOf (setRows o x (dropRow (rowsOf o x) k)) x) k vs)) x = _
    rw [rowsOf_set (by rw [setRows_oN]; exact h), rowsOf_set h]; rfl
theorem lay1_off {o : Own} {k : Int} {p : Str × Option (List D)} {y : Str} (h : y ≠ p.1) : rowsOf (lay1 k o p) y = rowsOf o y := by
  obtain ⟨x, ov⟩ := p
  cases ov with
  | none => exact rowsOf_off h
  | some vs => exact (rowsOf_off h).trans (rowsOf_off h)
theorem laid_off {k : Int} {y : Str} : ∀ {kr : KRs} {o : Own}, y ∉ kr.map (·.1) → rowsOf (laid o k kr) y = rowsOf o y
  | [], _, _ => rfl
  | p :: kr, o, h => by
    have h1 : y ≠ p.1 := fun z => h (by rw [z]; exact List.mem_cons_self)
    have := laid_off (k := k) (o := lay1 k o p) (kr := kr) fun z => h (List.mem_cons_of_mem _ z)
    exact this.trans (lay1_off h1)
theorem laid_at {k : Int} {x : Str} {ov : Option (List D)} : ∀ {kr : KRs} {o : Own}, (kr.map (·.1)).Nodup → x ∈ oN o → (x, ov) ∈ kr → rowsOf (laid o k kr) x = layRows (rowsOf o x) k ov
  | p :: kr, o, nd, hx, hm => by
    obtain ⟨n1, n2⟩ := List.nodup_cons.mp nd
    rcases List.mem_cons.mp hm with e | hm
    · subst e
      exact (laid_off (o := lay1 k o (x, ov)) n1).trans (lay1_at hx)
    · have h1 : x ≠ p.1 := fun z => n1 (by show p.1 ∈ _; rw [← z]; exact List.mem_map.mpr ⟨_, hm, rfl⟩)
      have := laid_at (k := k) (o := lay1 k o p) n2 (by rw [lay1_oN]; exact hx) hm
      rw [lay1_off h1] at this
      exact this
theorem kr_get {o : Own} {kr : KRs} (h : kr.map (·.1) = sortT (oN o)) {i : Nat} {x : Str} (hi : (sortT (oN o))[i]? = some x) : ∃ ov, kr[i]? = some (x, ov) := by
  rw [← h, List.getElem?_map] at hi
  cases q : kr[i]? with
  | none => rw [q] at hi; cases hi
  | some p =>
    rw [q] at hi
    cases hi
    exact ⟨p.2, rfl⟩
/-- with_key_rows of what is told is what is told of the rows laid -/
theorem told_laid {o : Own} (h : WO o) {kr : KRs} (hk : KrOk o kr) (k : Int) (hp : k ∈ pool6) : (((toldOf o).zip kr).map fun p => (p.1.1, withRows p.1.2 k p.2.2)) = toldOf (laid o k kr) := by
  obtain ⟨w1, w2, w3⟩ := laid_ok hp (kr := kr) h hk.2
  have hnd : (kr.map (·.1)).Nodup := by rw [hk.1]; exact sortT_nd h.nd
  unfold toldOf
  rw [w2]
  refine List.ext_getElem? fun i => ?_
  rw [List.getElem?_map, List.getElem?_map]
  cases q : (sortT (oN o))[i]? with
  | none =>
    have : (((sortT (oN o)).map fun x => (x, sortKeys (rowsOf o x))).zip kr)[i]? = none := by
      rw [List.getElem?_eq_none_iff] at q ⊢
      rw [List.length_zip, List.length_map]; omega
    rw [this]; rfl
  | some x =>
    obtain ⟨ov, hov⟩ := kr_get hk.1 q
    have hx := sortT_mem.mp (List.mem_of_getElem? q)
    have : (((sortT (oN o)).map fun x => (x, sortKeys (rowsOf o x))).zip kr)[i]? = some ((x, sortKeys (rowsOf o x)), (x, ov)) := by
      rw [List.getElem?_zip_eq_some]
      exact ⟨by rw [List.getElem?_map, q]; rfl, hov⟩
    rw [this]
    show some (x, withRows (sortKeys (rowsOf o x)) k ov) = some (x, sortKeys (rowsOf (laid o k kr) x))
    rw [with_lay (h.rows hx).2.1, laid_at hnd hx (List.mem_of_getElem? hov)]
theorem wkrs {o : Own} (h : WO o) {kr : KRs} (hk : KrOk o kr) : WKRs (schOf o) kr := by
  refine ⟨by rw [hk.1, sch_fst], fun i c p h1 h2 vs e => ?_⟩
  obtain ⟨hx, ec⟩ := sch_mem (List.mem_of_getElem? h1)
  have hp := hk.2 p (List.mem_of_getElem? h2)
  have e1 : c.1 = p.1 := by
    have a : ((schOf o).map (·.1))[i]? = (kr.map (·.1))[i]? := by rw [sch_fst, hk.1]
    rw [List.getElem?_map, List.getElem?_map, h1, h2] at a
    exact Option.some.inj a
  rw [ec, e1]
  exact hp.vs vs e
theorem told_same {o : Own} (h : WO o) : SameT 6 (eStt (toldOf o)) (eSttP (toldOf o)) := by
  refine same_le (by decide : 5 ≤ 6) (same_map (k := 4) (f := ePart) (g := ePartP) ?_ (fun p hp => ?_) (.inl rfl) (.inl rfl))
  · have := congrArg List.length (told_fst o)
    rw [List.length_map, sortT_len] at this
    rw [this]; unfold oN; rw [List.length_map]
    have := h.len; omega
  · obtain ⟨hx, e⟩ := told_mem hp
    refine same_two (same_sc (show sameS (.str p.1) (.str p.1) from rfl)) ?_
    have hl := h.rows6 hx
    refine same_map (k := 2) (f := eRow) (g := eRow) (by rw [e, sortKeys_len]; omega) (fun r hr => ?_) (.inl rfl) (.inr rfl)
    rw [e] at hr
    exact same_two (same_sc (show sameS (.int r.1) (.int r.1) from rfl)) (vals_same (h.cols hx).len ((h.rows hx).2.2 r (sortKeys_mem hr)))
/-! ### put back key by key -/
def backOf (o : Own) (ks : List Int) : Stt := (sortT (oN o)).map fun x => (x, sortKeys ((rowsOf o x).filter fun r => decide (r.1 ∈ ks)))
theorem back_nil (o : Own) : ((schOf o).map fun t => (t.1, ([] : Rws))) = backOf o [] := by
  unfold schOf backOf
  rw [List.map_map]
  refine List.map_congr_left fun x _ => ?_
  have : (rowsOf o x).filter (fun r => decide (r.1 ∈ ([] : List Int))) = [] := List.filter_eq_nil_iff.mpr fun r _ => by simp
  have e : sortKeys [] = [] := by unfold sortKeys sortI; simp
  rw [this, e]; rfl
theorem back_all {o : Own} (h : WO o) {ks : List Int} (hk : ∀ k ∈ keysL o, k ∈ ks) : backOf o ks = toldOf o := by
  unfold backOf toldOf
  refine List.map_congr_left fun x hx => ?_
  have hx := sortT_mem.mp hx
  have : (rowsOf o x).filter (fun r => decide (r.1 ∈ ks)) = rowsOf o x := List.filter_eq_self.mpr fun r hr => decide_eq_true (by
    obtain ⟨t, ht, e⟩ := rowsOf_mem hx
    exact hk _ (List.mem_flatMap.mpr ⟨t, ht, List.mem_map.mpr ⟨r, by rw [← e]; exact hr, rfl⟩⟩))
  rw [this]
theorem back_fst (o : Own) (ks : List Int) : (backOf o ks).map (·.1) = sortT (oN o) := by unfold backOf; rw [List.map_map]; exact List.map_id _
theorem filter_nd {rs : Rws} (p : Row → Bool) (h : (rs.map (·.1)).Nodup) : ((rs.filter p).map (·.1)).Nodup := List.Nodup.sublist (List.filter_sublist.map _) h
theorem back_wstt {o : Own} (h : WO o) (ks : List Int) : WStt (schOf o) (backOf o ks) := by
  refine ⟨by rw [back_fst, sch_fst], fun i c p h1 h2 => ?_⟩
  unfold schOf at h1
  unfold backOf at h2
  rw [List.getElem?_map] at h1 h2
  cases q : (sortT (oN o))[i]? with
  | none => rw [q] at h1; cases h1
  | some x =>
    rw [q] at h1 h2
    cases h1; cases h2
    have hx := sortT_mem.mp (List.mem_of_getElem? q)
    obtain ⟨r1, r2, r3⟩ := h.rows hx
    have hl := h.rows6 hx
    have hm : ∀ {r}, r ∈ sortKeys ((rowsOf o x).filter fun r => decide (r.1 ∈ ks)) → r ∈ rowsOf o x := fun hr => (List.mem_filter.mp (sortKeys_mem hr)).1
    exact ⟨by show (sortKeys _).length ≤ 4000; rw [sortKeys_len]; exact Nat.le_trans (List.length_filter_le _ _) (by omega), fun r hr => pool6_ok _ (r1 r (hm hr)), fun r hr => r3 r (hm hr), by show ascD (.lst (((sortKeys _).map (·.1)).map .int)) = true; rw [sortKeys_keys]; exact sortI_asc (filter_nd _ r2)⟩
theorem inRows_iff {rs : Rws} (h : (rs.map (·.1)).Nodup) {k : Int} {vs : List D} : inRows rs k = some vs ↔ (k, vs) ∈ rs := by
  unfold inRows
  cases z : rs.find? fun r => decide (r.1 = k) with
  | none =>
    refine ⟨fun w => (nomatch w), fun w => ?_⟩
    exact absurd (List.find?_eq_none.mp z _ w) (by simp)
  | some u =>
    have h1 := List.mem_of_find?_eq_some z
    have h2 : u.1 = k := by simpa using List.find?_some z
    refine ⟨fun w => ?_, fun w => ?_⟩
    · have w : some u.2 = some vs := w
      cases w
      rw [← h2]; exact h1
    · have := nd_fst h h1 w h2
      rw [this]; rfl
theorem back_step {o : Own} (h : WO o) (ks : List Int) (k : Int) : (((backOf o ks).zip (keyedOf o k)).map fun p => (p.1.1, withRows p.1.2 k p.2.2)) = backOf o (ks ++ [k]) := by
  unfold backOf keyedOf
  rw [List.zip_map', List.map_map]
  refine List.map_congr_left fun x hx => ?_
  have hx := sortT_mem.mp hx
  have hnd := (h.rows hx).2.1
  show (x, withRows (sortKeys ((rowsOf o x).filter fun r => decide (r.1 ∈ ks))) k (inRows (rowsOf o x) k)) = _
  rw [with_eq (b := (rowsOf o x).filter fun r => decide (r.1 ∈ ks ++ [k])) (by rw [sortKeys_keys]; exact sortI_nd (filter_nd _ hnd)) (filter_nd _ hnd)]
  intro r
  rw [sortKeys_iff (filter_nd _ hnd), List.mem_filter, List.mem_filter, decide_eq_true_eq, decide_eq_true_eq, List.mem_append, List.mem_singleton]
  constructor
  · rintro ⟨hr, e⟩
    by_cases ek : r.1 = k
    · exact .inr ⟨r.2, (inRows_iff hnd).mpr (by rw [← ek]; exact hr), by rw [← ek]⟩
    · exact .inl ⟨⟨hr, e.resolve_right ek⟩, ek⟩
  · rintro (⟨⟨hr, e⟩, _⟩ | ⟨vs, e, rfl⟩)
    · exact ⟨hr, .inl e⟩
    · exact ⟨(inRows_iff hnd).mp e, .inr rfl⟩
theorem keyed_ok {o : Own} (h : WO o) (k : Int) : KrOk o (keyedOf o k) := by
  refine ⟨by unfold keyedOf; rw [List.map_map]; exact List.map_id _, fun p hp => ?_⟩
  obtain ⟨x, hx, rfl⟩ := List.mem_map.mp hp
  have hx := sortT_mem.mp hx
  exact ⟨hx, inRows_vals h hx k⟩
end K5
namespace K5
open PySem PySem.Spec PyProof.Rows L2 Qq
def unI : D → Int
  | .int i => i
  | _ => 0
theorem perm_ints {out rest : List D} {ns0 : List Int} (h : (out ++ rest).Perm (ns0.map D.int)) : ∃ ns rs : List Int, out = ns.map D.int ∧ (ns ++ rs).Perm ns0 ∧ rs.length = rest.length := by
  refine ⟨out.map unI, rest.map unI, ?_, ?_, by rw [List.length_map]⟩
  · rw [List.map_map]
    refine (List.map_id out).symm.trans (List.map_congr_left fun d hd => ?_)
    obtain ⟨z, _, rfl⟩ := List.mem_map.mp (h.mem_iff.mp (List.mem_append_left _ hd))
    rfl
  · have := h.map unI
    rw [List.map_append, List.map_map] at this
    rwa [show (unI ∘ D.int) = id from rfl, List.map_id] at this
/-- all keys, in some sequence -/
def AllKeys (o : Own) (ds : List D) : Prop := ∃ ks : List Int, ds = ks.map .int ∧ (∀ k, k ∈ ks ↔ k ∈ keysL o)
theorem some_all {o : Own} {W : Wd} {a : Addr} (hw : PotW W a) (wo : WO o) : SSome W [.at_ a, .dat (.lst ((asc (keysL o)).map .int)), .dat (.int (((asc (keysL o)).map D.int).length : Nat))] (fun d => ∃ ds, d = .lst ds ∧ AllKeys o ds) := by
  have hl := asc_len (keysL_pool wo)
  refine ⟨a, _, _, rfl, hw, by rw [List.length_map]; exact Nat.le_trans hl (by decide), Nat.le_refl _, fun out rest hp hlen => ?_⟩
  obtain ⟨ks, rs, rfl, h2, h3⟩ := perm_ints hp
  have h4 := hp.length_eq
  rw [List.length_append, hlen] at h4
  have h5 : rs = [] := List.length_eq_zero_iff.mp (by rw [h3]; omega)
  subst h5
  rw [List.append_nil] at h2
  exact ⟨_, rfl, ks, rfl, fun k => h2.mem_iff.trans asc_mem⟩
section
variable {P : Program} {w : World} {K : PySem.W.Frag} {mg : Str → Option Value} {base : Heap} {f ct Pt : Addr} {fd : FuncData}
abbrev SEmp : Wd → List Sl → (D → Prop) → Prop := fun W as φ => ∃ s, as = [.dat (eSch s)] ∧ WSch s ∧ φ (eStt (s.map fun t => (t.1, [])))
abbrev SLawR (Pt : Addr) : Wd → List Sl → (D → Prop) → Prop := fun W as φ => ∃ a : Addr, as = [.at_ a] ∧ PotW W a ∧ TabW W Pt lamQ ∧ φ (.bl true)
theorem sc67 : FnScope ["pot", "keys", "own", "schema", "state", "lap", "key", "rows", "told", "back", "here"] ["pot"] (defScope (top 67)) := ⟨rfl, rfl, rfl, by decide +kernel, rfl, by decide +kernel, by decide +kernel⟩
theorem ok67 (hB : Bns mg) (c__law_of : Cal P w K mg base 2 "_law_of" ["pot", "some"] 1 SOf) (c_some : Cal P w K mg base 2 "_law_some" ["pot", "pool", "many"] 64 SSome) (c_scene : Cal P w K mg base 6 "_law_scene" ["pot", "keys"] 1000 SScene) (c__law_state_schema : Cal P w K mg base 1 "_law_state_schema" ["own"] 0 SSch) (c__law_state_told : Cal P w K mg base 3 "_law_state_told" ["own"] 0 STold) (c__law_are_keys_right : Cal P w K mg base 8 "_law_are_keys_right" ["own", "schema", "state", "keys"] 0 SRight) (c_rows : Cal P w K mg base 5 "_law_rows_drawn" ["pot", "own"] 120 SRows)
    (k_with : CalK P w K mg base 8 "with_key_rows" ["schema", "state", "key", "rows"] ["rows", "key", "state", "schema"] reo4 0 (SWK Pt)) (c_with : Cal P w K mg base 8 "with_key_rows" ["schema", "state", "key", "rows"] 0 (SWK Pt)) (c__law_same : Cal P w K mg base 7 "_law_same" ["one", "other"] 0 SSame6) (c__law_laid : Cal P w K mg base 2 "_law_laid" ["own", "key", "rows"] 0 SLaid) (c_empty : Cal P w K mg base 6 "empty_state" ["schema"] 0 SEmp) (c__law_state_keys : Cal P w K mg base 1 "_law_state_keys" ["own"] 0 SKeysO) (c_key_rows : Cal P w K mg base 4 "key_rows" ["state", "key"] 0 SKR) (F : FnP K "_law_right" (top 67) f fd) : FnOk P w K mg base CX0 9 f fd ["pot"]  (spF K 1500 (SLawR Pt)) := by
  refine fn_ok F sc67 (fun W as φ h => by obtain ⟨a, h, _⟩ := h; rw [h]; rfl) (by decide) fun cdv A outer s H E W as φ n hr hS hn => ?_
  obtain ⟨ad, rfl, hpw, tw, hφ⟩ := hS
  refine ss_set sc67.nd (i := 1) (d := .lst (pool6.map .int)) rfl (by first | exact Or.inl rfl | exact Or.inr rfl) (by exact Ev.to (by exact ev_lstJ (by exact es_consI (by exact ev_int) (by exact es_consI (by exact ev_int) (by exact es_consI (by exact ev_int) (by exact es_consI (by exact ev_int) (by exact es_consI (by exact ev_int) (by exact es_consI (by exact ev_int) (by exact es_nil))))))) (by rfl) (by rfl)) (by rfl)) (by omega) ?_
  have hsc : ∀ ss, (∃ r, ss = .at_ ad :: r ∧ Is [.dat (.lst (pool6.map .int))] r) → SScene W ss (fun d => ∃ o, WO o ∧ d = eOwn o) := fun ss ⟨r, e, q⟩ => ⟨ad, by rw [e, show r = _ from q], hpw, fun o h => ⟨o, h, rfl⟩⟩
  refine ss_cons (sm_set (c := 1000) (φ := fun d => ∃ o, WO o ∧ d = eOwn o) sc67.nd (i := 2) rfl (by first | exact Or.inl rfl | exact Or.inr rfl) (by exact Ev.cost (by exact ev_call (φ := fun d => ∃ o, WO o ∧ d = eOwn o) c_scene (by exact hr.mono (by decide)) (by rfl) (by exact es_at (i := 0) rfl (by first | exact Or.inl rfl | exact Or.inr (Or.inl rfl) | exact Or.inr (Or.inr rfl)) rfl (by exact es_consI (by exact (by exact ev_var (i := 1) rfl (by first | exact Or.inl rfl | exact Or.inr (Or.inl rfl) | exact Or.inr (Or.inr rfl)) rfl)) es_nil)) hsc) (by decide)) (by omega) fun d hd => ?_)
  obtain ⟨o, wo, rfl⟩ := hd
  refine ss_cons (sm_par (c := 0) (i := 3) (j := 4) (φs := Is [.dat (eSch (schOf o)), .dat (eSttP (toldOf o))]) (by rfl) sc67.nd rfl rfl (by decide) rfl rfl (by exact evs_cost (by exact es_consI (by exact ev_cp o (by exact c__law_state_schema) (by exact hr.mono (by first | decide | omega)) (by rfl) (by exact es_consI (by exact ev_var (i := 2) rfl (by first | exact Or.inl rfl | exact Or.inr (Or.inl rfl) | exact Or.inr (Or.inr rfl)) rfl) (by exact es_nil)) (by rfl) (by exact wo.w) (by rfl)) (by exact es_consI (by exact ev_cp o (by exact c__law_state_told) (by exact hr.mono (by first | decide | omega)) (by rfl) (by exact es_consI (by exact ev_var (i := 2) rfl (by first | exact Or.inl rfl | exact Or.inr (Or.inl rfl) | exact Or.inr (Or.inr rfl)) rfl) (by exact es_nil)) (by rfl) (by exact wo.w) (by rfl)) es_nil)) (by decide)) (by omega) (fun ss h => ⟨_, _, h, ?_⟩) (by rfl))
  refine ss_ifF (z := _) (by exact et_not (by exact et_v (by exact ev_cp o (by exact c__law_are_keys_right) (by exact hr.mono (by first | decide | omega)) (by rfl) (by exact es_consI (by exact ev_var (i := 2) rfl (by first | exact Or.inl rfl | exact Or.inr (Or.inl rfl) | exact Or.inr (Or.inr rfl)) rfl) (by exact es_consI (by exact ev_var (i := 3) rfl (by first | exact Or.inl rfl | exact Or.inr (Or.inl rfl) | exact Or.inr (Or.inr rfl)) rfl) (by exact es_consI (by exact ev_var (i := 4) rfl (by first | exact Or.inl rfl | exact Or.inr (Or.inl rfl) | exact Or.inr (Or.inr rfl)) rfl) (by exact es_consI (by exact ev_var (i := 1) rfl (by first | exact Or.inl rfl | exact Or.inr (Or.inl rfl) | exact Or.inr (Or.inr rfl)) rfl) (by exact es_nil))))) (by rfl) (by exact wo) (by rfl)))) (by rfl) (by omega) ?_
  refine ss_cons (sm_post (fun Γ2 n2 => ∃ x5 x6 x7 x8, Γ2 = [.at_ ad, .dat (.lst (pool6.map .int)), .dat (eOwn o), .dat (eSch (schOf o)), .dat (eSttP (toldOf o)), x5, x6, x7, x8, .un, .un] ∧ n2 ≤ n + 1400)
    (sm_forE (c := 0) (φs := fun ds => ds.length = 3) (by exact PassesOwn.never) (by rfl) (by exact EvI.imp (by exact EvI.z (by exact ei_rangeI (by rfl) (by exact hB _ (by decide +kernel)) (by exact ev_int) (by first | rfl | assumption | trivial | omega) (by first | rfl | assumption | trivial | omega)) (by rfl)) fun ds h => by rw [show ds = _ from h]; rfl) (by omega) (fun ds hds => ⟨fun i Γ2 n2 => ∃ x5 x6 x7 x8, Γ2 = [.at_ ad, .dat (.lst (pool6.map .int)), .dat (eOwn o), .dat (eSch (schOf o)), .dat (eSttP (toldOf o)), x5, x6, x7, x8, .un, .un] ∧ n2 ≤ n + 1000 + i * 125, ⟨_, _, _, _, rfl, by omega⟩, ?_, ?_⟩)) ?_)
  · rintro i d Γ2 n2 hi ⟨x5, x6, x7, x8, rfl, hle⟩
    have hil : i < 3 := by rw [← hds]; exact (List.getElem?_eq_some_iff.mp hi).1
    have hof : ∀ ss, (∃ r, ss = .at_ ad :: r ∧ Is [.dat (.lst (pool6.map .int))] r) → SOf W ss (fun d => ∃ k, k ∈ pool6 ∧ d = .int k) := fun ss ⟨r, e, q⟩ => ⟨ad, pool6.map .int, by rw [e, show r = _ from q], hpw, by decide, by decide, fun d hd => by
      obtain ⟨x, hx, rfl⟩ := List.mem_map.mp hd
      exact ⟨x, hx, rfl⟩⟩
    have hrows : ∀ ss, (∃ r, ss = .at_ ad :: r ∧ Is [.dat (eOwn o)] r) → SRows W ss (fun d => ∃ kr, KrOk o kr ∧ d = eKRs kr) := fun ss ⟨r, e, q⟩ => ⟨ad, o, by rw [e, show r = _ from q], hpw, wo, fun kr h => ⟨kr, h, rfl⟩⟩
    refine ⟨[(5, d)], (by exact tg_name (i := 5) sc67.nd rfl (by first | exact Or.inl rfl | exact Or.inr rfl)), ?_⟩
    refine ss_cons (sm_par (c := 121) (i := 6) (j := 7) (φs := fun ss => ∃ key kr, key ∈ pool6 ∧ KrOk o kr ∧ ss = [.dat (.int key), .dat (eKRs kr)]) (by rfl) sc67.nd rfl rfl (by decide) rfl rfl (by exact EvS.imp (evs_cost (by exact es_cons (φ := fun d => ∃ k, k ∈ pool6 ∧ d = .int k) (by exact ev_call (φ := fun d => ∃ k, k ∈ pool6 ∧ d = .int k) c__law_of (by exact hr.mono (by decide)) (by rfl) (by exact es_at (i := 0) rfl (by first | exact Or.inl rfl | exact Or.inr (Or.inl rfl) | exact Or.inr (Or.inr rfl)) rfl (by exact es_consI (by exact (by exact ev_var (i := 1) rfl (by first | exact Or.inl rfl | exact Or.inr (Or.inl rfl) | exact Or.inr (Or.inr rfl)) rfl)) es_nil)) hof) (by exact es_cons (φ := fun d => ∃ kr, KrOk o kr ∧ d = eKRs kr) (by exact ev_call (φ := fun d => ∃ kr, KrOk o kr ∧ d = eKRs kr) c_rows (by exact hr.mono (by decide)) (by rfl) (by exact es_at (i := 0) rfl (by first | exact Or.inl rfl | exact Or.inr (Or.inl rfl) | exact Or.inr (Or.inr rfl)) rfl (by exact es_consI (by exact (by exact ev_var (i := 2) rfl (by first | exact Or.inl rfl | exact Or.inr (Or.inl rfl) | exact Or.inr (Or.inr rfl)) rfl)) es_nil)) hrows) es_nil)) (by decide)) (fun ss h => by obtain ⟨_, _, rfl, ⟨k, hk, rfl⟩, _, _, rfl, ⟨kr, hkr, rfl⟩, rfl⟩ := h; exact ⟨k, kr, hk, hkr, rfl⟩)) (by omega) (fun ss h => ?_) (by rfl))
    obtain ⟨key, kr, hk, hkr, rfl⟩ := h
    refine ⟨_, _, rfl, ?_⟩
    have hkl : kr.length ≤ 4000 := by
      have := congrArg List.length hkr.1
      rw [List.length_map, sortT_len] at this
      unfold oN at this
      rw [List.length_map] at this
      have := wo.len; omega
    obtain ⟨wl, _, _⟩ := laid_ok hk (kr := kr) wo hkr.2
    have hw : SWK Pt W (reo4.g [.dat (eKRs kr), .dat (.int key), .dat (eStt (toldOf o)), .dat (eSch (schOf o))]) (Is (eStt (toldOf (laid o key kr)))) := ⟨(schOf o, toldOf o, key, kr), rfl, ⟨tw, wsch wo, wstt wo, pool6_ok key hk, wkrs wo hkr⟩, congrArg eStt (told_laid wo hkr key hk)⟩
    have hs : SameT 6 (eStt (toldOf (laid o key kr))) (eSttP (toldOf (laid o key kr))) := told_same wl
    refine ss_set sc67.nd (i := 8) (d := eStt (toldOf (laid o key kr))) rfl (by first | exact Or.inl rfl | exact Or.inr rfl) (by exact ev_callK (ss := [.dat (eKRs kr), .dat (.int key), .dat (eStt (toldOf o)), .dat (eSch (schOf o))]) k_with (by exact hr.mono (by decide)) (by rfl) (by exact ek_cons (by exact ev_var (i := 7) rfl (by first | exact Or.inl rfl | exact Or.inr (Or.inl rfl) | exact Or.inr (Or.inr rfl)) rfl) (by exact ek_cons (by exact ev_var (i := 6) rfl (by first | exact Or.inl rfl | exact Or.inr (Or.inl rfl) | exact Or.inr (Or.inr rfl)) rfl) (by exact ek_cons (by exact ev_via (by exact ev_var (i := 4) rfl (by first | exact Or.inl rfl | exact Or.inr (Or.inl rfl) | exact Or.inr (Or.inr rfl)) rfl) (fun R v h => rp_sttP h)) (by exact ek_cons (by exact ev_var (i := 3) rfl (by first | exact Or.inl rfl | exact Or.inr (Or.inl rfl) | exact Or.inr (Or.inr rfl)) rfl) ek_nil)))) rfl hw) (by omega) ?_
    refine ss_ifF (z := _) (by exact et_not (by exact et_v (by exact ev_c2 (by exact c__law_same) (by exact hr.mono (by decide)) (by rfl) (by exact es_consI (by exact ev_var (i := 8) rfl (by first | exact Or.inl rfl | exact Or.inr (Or.inl rfl) | exact Or.inr (Or.inr rfl)) rfl) (by exact es_consI (by exact ev_cp (laid o key kr) (by exact c__law_state_told) (by exact hr.mono (by first | decide | omega)) (by rfl) (by exact es_consI (by exact ev_cp ((o, key, kr) : Own × Int × KRs) (by exact c__law_laid) (by exact hr.mono (by first | decide | omega)) (by rfl) (by exact es_consI (by exact ev_var (i := 2) rfl (by first | exact Or.inl rfl | exact Or.inr (Or.inl rfl) | exact Or.inr (Or.inr rfl)) rfl) (by exact es_consI (by exact ev_var (i := 6) rfl (by first | exact Or.inl rfl | exact Or.inr (Or.inl rfl) | exact Or.inr (Or.inr rfl)) rfl) (by exact es_consI (by exact ev_var (i := 7) rfl (by first | exact Or.inl rfl | exact Or.inr (Or.inl rfl) | exact Or.inr (Or.inr rfl)) rfl) (by exact es_nil)))) (by rfl) (by exact ⟨wo, hk, hkr.2, hkl⟩) (by rfl)) (by exact es_nil)) (by rfl) (by exact wl.w) (by rfl)) es_nil)) (by exact hs) (by rfl)))) (by rfl) (by omega) ?_
    exact ss_nil ⟨_, _, _, _, rfl, by omega⟩
  · rintro Γ2 n2 ⟨x5, x6, x7, x8, rfl, hle⟩
    exact ⟨_, _, _, _, rfl, by omega⟩
  · rintro Γ2 n2 ⟨x5, x6, x7, x8, rfl, hle⟩
    have hemp : ∀ ss, Is [.dat (eSch (schOf o))] ss → SEmp W ss (Is (eStt (backOf o []))) := fun ss h => ⟨schOf o, h, wsch wo, congrArg eStt (back_nil o)⟩
    refine ss_cons (sm_par (c := 0) (i := 9) (j := 10) (φs := Is [.dat (eStt (backOf o [])), .dat (.lst ((asc (keysL o)).map .int))]) (by rfl) sc67.nd rfl rfl (by decide) rfl rfl (by exact evs_cost (by exact es_consI (by exact ev_call (φ := Is (eStt (backOf o []))) c_empty (by exact hr.mono (by decide)) (by rfl) (by exact es_consI (by exact (by exact ev_var (i := 3) rfl (by first | exact Or.inl rfl | exact Or.inr (Or.inl rfl) | exact Or.inr (Or.inr rfl)) rfl)) es_nil) hemp) (by exact es_consI (by exact ev_cp o (by exact c__law_state_keys) (by exact hr.mono (by first | decide | omega)) (by rfl) (by exact es_consI (by exact ev_var (i := 2) rfl (by first | exact Or.inl rfl | exact Or.inr (Or.inl rfl) | exact Or.inr (Or.inr rfl)) rfl) (by exact es_nil)) (by rfl) (by exact ⟨wo.w, keysL_len wo⟩) (by rfl)) es_nil)) (by decide)) (by omega) (fun ss h => ⟨_, _, h, ?_⟩) (by rfl))
    have hal : ((asc (keysL o)).map D.int).length ≤ 1000 := by rw [List.length_map]; exact Nat.le_trans (asc_len (keysL_pool wo)) (by decide)
    have hsm : ∀ ss, (∃ r, ss = .at_ ad :: r ∧ Is [.dat (.lst ((asc (keysL o)).map .int)), .dat (.int (((asc (keysL o)).map D.int).length : Nat))] r) → SSome W ss (fun d => ∃ ds, d = .lst ds ∧ AllKeys o ds) := fun ss ⟨r, e, q⟩ => by rw [e, show r = _ from q]; exact some_all hpw wo
    refine ss_cons (sm_post (fun Γ3 n3 => ∃ x5 x6 x7 x8 x9 ks, Γ3 = [.at_ ad, .dat (.lst (pool6.map .int)), .dat (eOwn o), .dat (eSch (schOf o)), .dat (eSttP (toldOf o)), x5, x6, x7, x8, .dat (eStt (backOf o ks)), x9] ∧ (∀ k ∈ keysL o, k ∈ ks) ∧ n3 ≤ n + 1500)
      (sm_forE (c := 64) (φs := AllKeys o) (by exact PassesOwn.never) (by rfl) (by exact ei_lst (φ := fun d => ∃ ds, d = .lst ds ∧ AllKeys o ds) (by exact Ev.cost (by exact ev_call (φ := fun d => ∃ ds, d = .lst ds ∧ AllKeys o ds) c_some (by exact hr.mono (by decide)) (by rfl) (by exact es_at (i := 0) rfl (by first | exact Or.inl rfl | exact Or.inr (Or.inl rfl) | exact Or.inr (Or.inr rfl)) rfl (by exact es_consI (by exact (by exact ev_var (i := 10) rfl (by first | exact Or.inl rfl | exact Or.inr (Or.inl rfl) | exact Or.inr (Or.inr rfl)) rfl)) (by exact es_consI (by exact (by exact ev_len (by rfl) (by exact hB _ (by decide +kernel)) (by exact ev_var (i := 10) rfl (by first | exact Or.inl rfl | exact Or.inr (Or.inl rfl) | exact Or.inr (Or.inr rfl)) rfl) (by first | rfl | assumption | trivial | omega) (by first | rfl | assumption | trivial | omega))) es_nil))) hsm) (by decide)) (fun d h => h)) (by omega) (fun ds hds => ?_)) ?_)
    · obtain ⟨ks, rfl, hks⟩ := hds
      refine ⟨fun i Γ3 n3 => ∃ x5 x6 x7 x8 x9, Γ3 = [.at_ ad, .dat (.lst (pool6.map .int)), .dat (eOwn o), .dat (eSch (schOf o)), .dat (eSttP (toldOf o)), x5, x6, x7, x8, .dat (eStt (backOf o (ks.take i))), x9] ∧ n3 ≤ n + 1464, ⟨_, _, _, _, _, by rw [List.take_zero]; rfl, by omega⟩, ?_, ?_⟩
      · rintro i d Γ3 n3 hi ⟨y5, y6, y7, y8, y9, rfl, hle3⟩
        rw [List.getElem?_map] at hi
        cases q : ks[i]? with
        | none => rw [q] at hi; cases hi
        | some k =>
          rw [q] at hi
          cases hi
          have hk : k ∈ pool6 := keysL_pool wo k ((hks k).mp (List.mem_of_getElem? q))
          have hkk := pool6_ok k hk
          have hkr : ∀ ss, Is [.dat (eSttP (toldOf o)), .dat (.int k)] ss → SKR W ss (Is (eKRs (keyedOf o k))) := fun ss h => ⟨_, k, toldOf o, h, tldp wo, hkk.1, hkk.2, congrArg eKRs (told_keyed o k)⟩
          have hwk : ∀ ss, Is [.dat (eSch (schOf o)), .dat (eStt (backOf o (ks.take i))), .dat (.int k), .dat (eKRs (keyedOf o k))] ss → SWK Pt W ss (Is (eStt (backOf o (ks.take i ++ [k])))) := fun ss h => ⟨(schOf o, backOf o (ks.take i), k, keyedOf o k), h, ⟨tw, wsch wo, back_wstt wo _, hkk, wkrs wo (keyed_ok wo k)⟩, congrArg eStt (back_step wo _ k)⟩
          refine ⟨[(6, .int k)], (by exact tg_name (i := 6) sc67.nd rfl (by first | exact Or.inl rfl | exact Or.inr rfl)), ?_⟩
          refine ss_one (sm_set (c := 0) (φ := Is (eStt (backOf o (ks.take i ++ [k])))) sc67.nd (i := 9) rfl (by first | exact Or.inl rfl | exact Or.inr rfl) (by exact Ev.cost (by exact ev_call (φ := Is (eStt (backOf o (ks.take i ++ [k])))) c_with (by exact hr.mono (by decide)) (by rfl) (by exact es_consI (by exact (by exact ev_var (i := 3) rfl (by first | exact Or.inl rfl | exact Or.inr (Or.inl rfl) | exact Or.inr (Or.inr rfl)) rfl)) (by exact es_consI (by exact (by exact ev_var (i := 9) rfl (by first | exact Or.inl rfl | exact Or.inr (Or.inl rfl) | exact Or.inr (Or.inr rfl)) rfl)) (by exact es_consI (by exact (by exact ev_var (i := 6) rfl (by first | exact Or.inl rfl | exact Or.inr (Or.inl rfl) | exact Or.inr (Or.inr rfl)) rfl)) (by exact es_consI (by exact ev_call (φ := Is (eKRs (keyedOf o k))) c_key_rows (by exact hr.mono (by decide)) (by rfl) (by exact es_consI (by exact (by exact ev_var (i := 4) rfl (by first | exact Or.inl rfl | exact Or.inr (Or.inl rfl) | exact Or.inr (Or.inr rfl)) rfl)) (by exact es_consI (by exact (by exact ev_var (i := 6) rfl (by first | exact Or.inl rfl | exact Or.inr (Or.inl rfl) | exact Or.inr (Or.inr rfl)) rfl)) es_nil)) hkr) es_nil)))) hwk) (by decide)) (by omega) fun d hd => ?_)
          obtain rfl := hd
          exact ⟨_, _, _, _, _, by rw [take_succ q]; rfl, by omega⟩
      · rintro Γ3 n3 ⟨y5, y6, y7, y8, y9, rfl, hle3⟩
        rw [List.length_map, List.take_length]
        exact ⟨_, _, _, _, _, ks, rfl, fun k hk => (hks k).mpr hk, by omega⟩
    · rintro Γ3 n3 ⟨y5, y6, y7, y8, y9, ks, rfl, hks, hle3⟩
      have hs : SameT 6 (eStt (backOf o ks)) (eSttP (toldOf o)) := by rw [back_all wo hks]; exact told_same wo
      refine ss_retE (by exact ev_c2 (by exact c__law_same) (by exact hr.mono (by decide)) (by rfl) (by exact es_consI (by exact ev_var (i := 9) rfl (by first | exact Or.inl rfl | exact Or.inr (Or.inl rfl) | exact Or.inr (Or.inr rfl)) rfl) (by exact es_consI (by exact ev_var (i := 4) rfl (by first | exact Or.inl rfl | exact Or.inr (Or.inl rfl) | exact Or.inr (Or.inr rfl)) rfl) es_nil)) (by exact hs) (by rfl)) (by omega) rfl ⟨hφ, by omega⟩
end
end K5
/-! N9: numbers; a new list that is returned. -/
namespace K5
open PySem PySem.Spec PyProof.Rows L2 Qq
section
variable {X : Cx} {W : Wd} {Γ : List Sl} {n c c1 c2 : Nat} {e a b : Expr} {es : List Expr} {pos p lp : Pos} {P : Pst} {i j : Int}
def CPowB (i j : Int) : Prop := 0 ≤ j ∧ (Builtin.Int.intBits i : Int) * j ≤ 2 ^ 27
theorem op_powB : OpR X (binaryOp .Pow) (rI CPowB fun i j => .int (i ^ j.toNat)) := opI fun _ _ _ _ _ _ _ hc q => pow_int hc.1 hc.2 q
theorem ev_powB (ha : Ev W X a Γ c1 (Is (.int i))) (hb : Ev W X b Γ c2 (Is (.int j))) (h : CPowB i j) : Ev W X (.BinOp a .Pow b pos) Γ (c1 + c2) (Is (.int (i ^ j.toNat))) := ev_binI op_powB ha hb (r2_I h)
theorem ev_modI (ha : Ev W X a Γ c1 (Is (.int i))) (hb : Ev W X b Γ c2 (Is (.int j))) (h : 0 < j) : Ev W X (.BinOp a .Mod b pos) Γ (c1 + c2) (Is (.int (i % j))) := ev_binI op_mod ha hb (r2_I h)
theorem ev_mulI (ha : Ev W X a Γ c1 (Is (.int i))) (hb : Ev W X b Γ c2 (Is (.int j))) (h : CMul i j) : Ev W X (.BinOp a .Mult b pos) Γ (c1 + c2) (Is (.int (i * j))) := ev_binI op_mul ha hb (r2_I h)
theorem ev_abs (hg : Gl X "abs") (hm : Bn X "abs") (ha : Ev W X a Γ c (Is (.int i))) (he : starEach [a] X.env = (false, eval a X.env) :: starEach [] X.env := by rfl) (hpl : (backTo pos (starEach [] X.env)).any (·.1) = false := by rfl) :
    Ev W X (.Call (.Name "abs" p) [a] [] pos) Γ c (Is (.int (if i < 0 then -i else i))) := ev_callB call_abs hg hm (by decide +kernel) (es_consI ha es_nil he) (cdn (ds := [.int i]) rfl (fun vs R H Q hr r k => by
      cases r with | cons r t => cases t; cases r; exact ⟨i, rfl, k _ R H (Gr.refl hr) (.int _)⟩)) (by decide) (by decide) he hpl
theorem ev_int1 (hg : Gl X "int") (hm : Bn X "int") (ha : Ev W X a Γ c (Is (.int i))) (he : starEach [a] X.env = (false, eval a X.env) :: starEach [] X.env := by rfl) (hpl : (backTo pos (starEach [] X.env)).any (·.1) = false := by rfl) :
    Ev W X (.Call (.Name "int" p) [a] [] pos) Γ c (Is (.int i)) := ev_callT call_int1 hg hm PyProof.Rows.boot_int (es_consI ha es_nil he) (cdn (ds := [.int i]) rfl (fun vs R H Q hr r k => by
      cases r with | cons r t => cases t; cases r; exact .inl ⟨i, rfl, k _ R H (Gr.refl hr) (.int _)⟩)) (by decide) (by decide) he hpl
theorem ev_intB {z : Bool} (hg : Gl X "int") (hm : Bn X "int") (ha : Ev W X a Γ c (Is (.bl z))) (he : starEach [a] X.env = (false, eval a X.env) :: starEach [] X.env := by rfl) (hpl : (backTo pos (starEach [] X.env)).any (·.1) = false := by rfl) :
    Ev W X (.Call (.Name "int" p) [a] [] pos) Γ c (Is (.int (if z then 1 else 0))) := ev_callT call_int1 hg hm PyProof.Rows.boot_int (es_consI ha es_nil he) (cdn (ds := [.bl z]) rfl (fun vs R H Q hr r k => by
      cases r with | cons r t => cases t; cases r; exact .inr ⟨z, rfl, k _ R H (Gr.refl hr) (.int _)⟩)) (by decide) (by decide) he hpl
theorem ev_sumL {ns : List Int} (hc : X.calm = true) (hg : Gl X "sum") (hm : Bn X "sum") (ha : Ev W X a Γ c (Is (.lst (ns.map .int)))) (he : starEach [a] X.env = (false, eval a X.env) :: starEach [] X.env := by rfl) (hpl : (backTo pos (starEach [] X.env)).any (·.1) = false := by rfl) :
    Ev W X (.Call (.Name "sum" p) [a] [] pos) Γ c (Is (.int ns.sum)) := ev_callB (cr_sum hc) hg hm (by decide +kernel) (es_consI ha es_nil he) (cdn (ds := [.lst (ns.map .int)]) rfl (fun vs R H Q hr r k => by
      cases r with | cons r t => cases t; cases r with
      | @lst a xs ds q r =>
        obtain rfl := rp_ints r
        exact ⟨a, ns, rfl, sqL_mono hr q, k _ R H (Gr.refl hr) (.int _)⟩)) (by decide) (by decide) he hpl
/-- return [..], the list the caller's own -/
theorem sm_retL {φs : List Sl → Prop} (h : EvS W X es Γ c φs) (hl : n + c ≤ LIM) (k : ∀ ss, φs ss → ∃ ds, ss = ds.map .dat ∧ ds.length ≤ 4000 ∧ ∀ H0 R H a xs, Ow W H0 R a → H a = some (.lst xs) → RpL X.K R xs ds → P.rm H0 R H (.ref a) (n + c)) :
    Sm W X (.Return (some (.List es lp)) pos) Γ n P := fun R0 H0 Rl R σ H E s en => by
  refine wS_of (ps_ret (pe_lst (wA_ok es))) ?_
  refine h R0 H0 Rl σ R n H s hl _ fun vs R1 H1 ss g1 j1 f1 r1 => ?_
  obtain ⟨ds, rfl, hlen, kt⟩ := k ss f1
  have rd := r1.data
  refine ⟨by rw [rd.len]; exact small_line hlen, fun q hq => ?_⟩
  have s1 := s.grow g1 j1
  have g2 : Gr W R1 H1 R1 (upd H1 q (.lst vs)) := Gr.newM g1.rh hq
  exact en.rm _ R1 _ _ (s1.gr.trans g2) s1.lo (W.loc j1 fun b o _ e => by rw [upd_ne (ne_of_none e hq)]; exact e) s1.rb (kt _ _ _ _ vs ⟨g1.rh.free hq, none_back s1.gr hq, So.nB j1 hq⟩ upd_same rd)
end
end K5
namespace K5
open PySem PySem.Spec PyProof.Rows L2 Qq
section
variable {P : Program} {w : World} {K : PySem.W.Frag} {mg : Str → Option Value} {base : Heap} {f ct Pt : Addr} {fd : FuncData}
abbrev SPot : Wd → List Sl → (Hp → Hp → Hp → V → Prop) → Prop := fun W as φ => ∃ (ns : List Int) (p : Int), as = [.dat (.lst (ns.map .int)), .dat (.int p)] ∧ 0 ≤ p ∧ p ≤ 1 ∧ (p < ns.length ∨ ns = []) ∧
  ∀ H0 R H a x y, Ow W H0 R a → H a = some (.lst [.int x, .int y, .int 0]) → 0 ≤ x → 0 ≤ y → y ≤ 2305843009213693951 → φ H0 R H (.ref a)
theorem cmul_b (i : Int) (b : Bool) : CMul i (if b = true then 1 else 0) := by refine Or.inr ?_; cases b <;> decide
theorem b01 (b : Bool) : (0 : Int) ≤ (if b = true then 1 else 0) := by cases b <;> decide
theorem sc42 : FnScope ["script", "place", "cell", "own", "small"] ["script", "place"] (defScope (top 42)) := ⟨rfl, rfl, rfl, by decide +kernel, rfl, by decide +kernel, by decide +kernel⟩
theorem ok42 (hB : Bns mg) (F : FnP K "_law_pot" (top 42) f fd) : FnOk P w K mg base CX0 1 f fd ["script", "place"]  (spG K 0 SPot) := by
  refine fn_okG F sc42 (fun W as φ h => by obtain ⟨x, y, rfl, _⟩ := h; rfl) (by decide) fun cdv A outer s H E W as φ n hr hS hn => ?_
  obtain ⟨ns, p, rfl, hp0, hp1, hpn, hφ⟩ := hS
  refine ss_cons (sm_post (fun Γ' n' => ∃ v, Γ' = [.dat (.lst (ns.map .int)), .dat (.int p), .dat (.int v), .un, .un] ∧ n' ≤ n) ?_ ?_)
  · by_cases hlt : p < (ns.length : Int)
    · have hi : p.toNat < ns.length := by omega
      have hat : atI (ns.map D.int) p = some (.int ns[p.toNat]) := by
        unfold atI ixN
        rw [List.length_map]
        simp [hp0, hlt, hi]
      have hz : decide (p < ((ns.map D.int).length : Nat)) = true := by rw [List.length_map]; exact decide_eq_true hlt
      refine sm_set (c := 0) (φ := Is (.int ns[p.toNat])) sc42.nd (i := 2) rfl (by first | exact Or.inl rfl | exact Or.inr rfl) (by exact Ev.cost (by exact ev_ifT' (by exact (by first | exact et_ltI (by exact ev_var (i := 1) rfl (by first | exact Or.inl rfl | exact Or.inr (Or.inl rfl) | exact Or.inr (Or.inr rfl)) rfl) (by exact ev_len (by rfl) (by exact hB _ (by decide +kernel)) (by exact ev_var (i := 0) rfl (by first | exact Or.inl rfl | exact Or.inr (Or.inl rfl) | exact Or.inr (Or.inr rfl)) rfl) (by first | rfl | assumption | trivial | omega) (by first | rfl | assumption | trivial | omega)) | exact et_ltSS (by exact ev_var (i := 1) rfl (by first | exact Or.inl rfl | exact Or.inr (Or.inl rfl) | exact Or.inr (Or.inr rfl)) rfl) (by exact ev_len (by rfl) (by exact hB _ (by decide +kernel)) (by exact ev_var (i := 0) rfl (by first | exact Or.inl rfl | exact Or.inr (Or.inl rfl) | exact Or.inr (Or.inr rfl)) rfl) (by first | rfl | assumption | trivial | omega) (by first | rfl | assumption | trivial | omega)))) hz (by exact (by first | exact ev_ixTI (by exact ev_var (i := 0) rfl (by first | exact Or.inl rfl | exact Or.inr (Or.inl rfl) | exact Or.inr (Or.inr rfl)) rfl) (by exact ev_var (i := 1) rfl (by first | exact Or.inl rfl | exact Or.inr (Or.inl rfl) | exact Or.inr (Or.inr rfl)) rfl) (by first | rfl | assumption | trivial | omega) | exact ev_ixLI (by exact ev_var (i := 0) rfl (by first | exact Or.inl rfl | exact Or.inr (Or.inl rfl) | exact Or.inr (Or.inr rfl)) rfl) (by exact ev_var (i := 1) rfl (by first | exact Or.inl rfl | exact Or.inr (Or.inl rfl) | exact Or.inr (Or.inr rfl)) rfl) (by first | rfl | assumption | trivial | omega)))) (by decide)) (by omega) fun d hd => ?_
      obtain rfl := hd
      exact ⟨_, rfl, by omega⟩
    · have he : ns = [] := hpn.resolve_left hlt
      subst he
      have hz : decide (p < ((([] : List Int).map D.int).length : Nat)) = false := decide_eq_false (by show ¬ p < ((0 : Nat) : Int); omega)
      have hsum : ∀ d : D, Is (.int ([] : List Int).sum) d → ∃ v, d = .int v := fun d e => ⟨_, e⟩
      refine sm_set (c := 0) (φ := Rg (0 + 0 + 804) ((1000003 - 1) + 1566 * 1 + 804)) sc42.nd (i := 2) rfl (by first | exact Or.inl rfl | exact Or.inr rfl) (by exact Ev.cost (by exact ev_ifF' (by exact (by first | exact et_ltI (by exact ev_var (i := 1) rfl (by first | exact Or.inl rfl | exact Or.inr (Or.inl rfl) | exact Or.inr (Or.inr rfl)) rfl) (by exact ev_len (by rfl) (by exact hB _ (by decide +kernel)) (by exact ev_var (i := 0) rfl (by first | exact Or.inl rfl | exact Or.inr (Or.inl rfl) | exact Or.inr (Or.inr rfl)) rfl) (by first | rfl | assumption | trivial | omega) (by first | rfl | assumption | trivial | omega)) | exact et_ltSS (by exact ev_var (i := 1) rfl (by first | exact Or.inl rfl | exact Or.inr (Or.inl rfl) | exact Or.inr (Or.inr rfl)) rfl) (by exact ev_len (by rfl) (by exact hB _ (by decide +kernel)) (by exact ev_var (i := 0) rfl (by first | exact Or.inl rfl | exact Or.inr (Or.inl rfl) | exact Or.inr (Or.inr rfl)) rfl) (by first | rfl | assumption | trivial | omega) (by first | rfl | assumption | trivial | omega)))) hz (by exact ev_radd (by exact ev_radd (by exact ev_rmodA (by exact Ev.imp (by exact ev_sumL (ns := []) (by rfl) (by rfl) (by exact hB _ (by decide +kernel)) (by exact Ev.to (by exact (by first | exact ev_slT (by exact ev_var (i := 0) rfl (by first | exact Or.inl rfl | exact Or.inr (Or.inl rfl) | exact Or.inr (Or.inr rfl)) rfl) eo_none (by exact eo_some (by exact Ev.z (by exact ev_int) (by rfl))) | exact ev_slL (by exact ev_var (i := 0) rfl (by first | exact Or.inl rfl | exact Or.inr (Or.inl rfl) | exact Or.inr (Or.inr rfl)) rfl) eo_none (by exact eo_some (by exact Ev.z (by exact ev_int) (by rfl))))) (by rfl))) hsum) ev_rint (by rfl)) (by exact ev_rmul ev_rint (by exact ev_rv (by exact (by exact ev_var (i := 1) rfl (by first | exact Or.inl rfl | exact Or.inr (Or.inl rfl) | exact Or.inr (Or.inr rfl)) rfl)) hp0 hp1) (by rfl) (by rfl) (by rfl))) ev_rint)) (by decide)) (by omega) fun d hd => ?_
      obtain ⟨v, rfl, _⟩ := hd
      exact ⟨_, rfl, by omega⟩
  rintro Γ' n' ⟨v, rfl, hle⟩
  refine ss_set sc42.nd (i := 3) rfl (by first | exact Or.inl rfl | exact Or.inr rfl) (by exact ev_mulI (by exact ev_modI (by exact ev_int1 (by rfl) (by exact hB _ (by decide +kernel)) (by exact ev_abs (by rfl) (by exact hB _ (by decide +kernel)) (by exact ev_var (i := 2) rfl (by first | exact Or.inl rfl | exact Or.inr (Or.inl rfl) | exact Or.inr (Or.inr rfl)) rfl))) (by exact ev_powB (i := 10 ^ (60 : Int).toNat) (j := 5) (by exact ev_powI ev_int ev_int (by rfl)) (by exact ev_int) (by exact ⟨by decide, by decide +kernel⟩)) (by decide +kernel)) (by exact ev_intB (z := decide ((10 ^ (18 : Int).toNat : Int) ≤ if v < 0 then -v else v)) (by rfl) (by exact hB _ (by decide +kernel)) (by exact ev_geI (by exact ev_abs (by rfl) (by exact hB _ (by decide +kernel)) (by exact ev_var (i := 2) rfl (by first | exact Or.inl rfl | exact Or.inr (Or.inl rfl) | exact Or.inr (Or.inr rfl)) rfl)) (by exact ev_powI ev_int ev_int (by rfl)))) (cmul_b _ _)) (by omega) ?_
  have hx0 : (0 : Int) ≤ (if v < 0 then -v else v) % (10 ^ (60 : Int).toNat) ^ (5 : Int).toNat * if decide ((10 ^ (18 : Int).toNat : Int) ≤ if v < 0 then -v else v) = true then 1 else 0 := by
    refine Int.mul_nonneg (Int.emod_nonneg _ (by decide +kernel)) ?_
    exact b01 _
  generalize hxx : (if v < 0 then -v else v) % (10 ^ (60 : Int).toNat) ^ (5 : Int).toNat * (if decide ((10 ^ (18 : Int).toNat : Int) ≤ if v < 0 then -v else v) = true then 1 else 0) = x0 at hx0
  refine ss_set sc42.nd (i := 4) rfl (by first | exact Or.inl rfl | exact Or.inr rfl) (by exact ev_modI (by exact ev_int1 (by rfl) (by exact hB _ (by decide +kernel)) (by exact ev_var (i := 2) rfl (by first | exact Or.inl rfl | exact Or.inr (Or.inl rfl) | exact Or.inr (Or.inr rfl)) rfl)) ev_int (by decide)) (by omega) ?_
  have hs0 : 0 ≤ v % 2305843009213693951 := Int.emod_nonneg _ (by decide)
  have hs1 : v % 2305843009213693951 ≤ 2305843009213693950 := by have := Int.emod_lt_of_pos v (show (0 : Int) < 2305843009213693951 by decide); omega
  generalize v % 2305843009213693951 = sm at hs0 hs1
  refine ss_one (sm_retL (c := 0) (φs := fun ss => ∃ y, 0 ≤ y ∧ y ≤ 2305843009213693951 ∧ ss = [.dat (.int x0), .dat (.int y), .dat (.int 0)]) (by exact EvS.imp (evs_cost (by exact es_cons (φ := Is (.int x0)) (by exact (by exact ev_var (i := 3) rfl (by first | exact Or.inl rfl | exact Or.inr (Or.inl rfl) | exact Or.inr (Or.inr rfl)) rfl)) (by exact es_cons (φ := Rg 0 (2305843009213693921 - 1)) (by exact ev_rmod (by exact Ev.nn (by exact ev_rInt (by rfl) (by exact hB _ (by decide +kernel)) (by exact ev_radd (by exact ev_radd (by exact ev_rmul (by exact ev_rv (by exact ev_var (i := 4) rfl (by first | exact Or.inl rfl | exact Or.inr (Or.inl rfl) | exact Or.inr (Or.inr rfl)) rfl) (by exact hs0) (by exact hs1)) (by exact ev_rint) (by rfl) (by rfl) (by rfl)) (by exact ev_rmul (by exact ev_rmul (by exact ev_rint) (by exact ev_rv (by exact ev_var (i := 1) rfl (by first | exact Or.inl rfl | exact Or.inr (Or.inl rfl) | exact Or.inr (Or.inr rfl)) rfl) (by exact hp0) (by exact hp1)) (by rfl) (by rfl) (by rfl)) (by exact ev_rv (by exact ev_var (i := 1) rfl (by first | exact Or.inl rfl | exact Or.inr (Or.inl rfl) | exact Or.inr (Or.inr rfl)) rfl) (by exact hp0) (by exact hp1)) (by rfl) (by rfl) (by rfl))) (by exact ev_rint)) Rg.isI) (by rfl)) (by exact ev_rint) (by rfl)) (by exact es_consI (by exact ev_int) es_nil))) (by decide)) (fun ss h => by obtain ⟨_, _, rfl, rfl, _, _, rfl, ⟨y, rfl, y1, y2⟩, rfl⟩ := h; exact ⟨y, y1, by omega, rfl⟩)) (by omega) (fun ss h => ?_))
  obtain ⟨y, y1, y2, rfl⟩ := h
  refine ⟨[.int x0, .int y, .int 0], rfl, (by show 3 ≤ 4000; decide), fun H0 R H a xs ow ha rr => ⟨?_, by omega⟩⟩
  cases rr with | cons r1 rr => cases rr with | cons r2 rr => cases rr with | cons r3 rr => cases rr; cases r1; cases r2; cases r3; exact hφ H0 R H a x0 y ow ha hx0 y1 y2
end
end K5
namespace K5
open PySem PySem.Spec PyProof.Rows L2 Qq
/-- the world of the law: the table alone -/
def WT (Pt : Addr) (q : Str) : Wd where
  B b := b = Pt
  J _ H := LamX.TabS H Pt q
  loc := fun ⟨ps, hP, h3, hc⟩ k => ⟨ps, k _ _ (.inl rfl) hP, h3, fun p cv e => let ⟨c, e1, e2⟩ := hc p cv e; ⟨c, e1, k _ _ (.inr (codeO_ext c q)) e2⟩⟩
  occ := fun ⟨ps, hP, _⟩ hb => ⟨_, hb ▸ hP⟩
  mono := fun h _ => h
section
variable {X : Cx} {Γ : List Sl} {n c k1 k2 : Nat} {e : Expr} {es : List Expr} {pos p2 p3 p4 : Pos} {Pt : Addr} {x y : Str}
/-- one cell: its pot is made, and the law's part is asked -/
theorem ev_cell {ns : List Int} {p : Int} (F : CalG X.prog X.w X.K X.mg X.base k1 x ["script", "place"] (spG X.K 0 SPot)) (G : Cal X.prog X.w X.K X.mg X.base k2 y ["pot"] 1500 (SLawR Pt)) (hr1 : Room k1 X.A) (hr2 : Room k2 X.A) (hg1 : Gl X x) (hg2 : Gl X y)
    (ha : EvS (WT Pt lamQ) X (e :: es) Γ c (Is [.dat (.lst (ns.map .int)), .dat (.int p)])) (hp0 : 0 ≤ p) (hp1 : p ≤ 1) (hpn : p < ns.length ∨ ns = [])
    (hd1 : (x == ("__debug__" : Str)) = false := by decide) (hd2 : (y == ("__debug__" : Str)) = false := by decide)
    (he : starEach (e :: es) X.env = (false, eval e X.env) :: starEach es X.env := by rfl) (hpl : (backTo p3 (starEach es X.env)).any (·.1) = false := by rfl)
    (he2 : starEach [.Call (.Name x p2) (e :: es) [] p3] X.env = (false, eval (.Call (.Name x p2) (e :: es) [] p3) X.env) :: starEach [] X.env := by rfl) (hpl2 : (backTo pos (starEach [] X.env)).any (·.1) = false := by rfl) :
    Ev (WT Pt lamQ) X (.Call (.Name y p4) [.Call (.Name x p2) (e :: es) [] p3] [] pos) Γ c (Is (.bl true)) := fun R0 H0 Rl σ R n H s hn Q q => by
  obtain ⟨f, fd, hm, hk, hb, F⟩ := F.ex
  obtain ⟨f2, fd2, hm2, hk2, hb2, G⟩ := G.ex
  refine wE_of (pe_call G hr2 hg2 hm2 hk2 hb2 .nil pass0 (pa_cons (pe_call F hr1 hg1 hm hk hb .nil pass0 (wA_ok _) hd1 he hpl) pa_nil he2) hd2 he2 hpl2) ?_
  refine ha R0 H0 Rl σ R n H s (by omega) _ fun vs R1 H1 ss g1 j1 f1 r1 => ?_
  rw [List.append_nil]
  have s1 := s.grow g1 j1
  refine ⟨WT Pt lamQ, R1, n + c, ss, fun H R' H' v => ∃ a x y, v = .ref a ∧ Ow (WT Pt lamQ) H R' a ∧ H' a = some (.lst [.int x, .int y, .int 0]) ∧ 0 ≤ x ∧ 0 ≤ y ∧ y ≤ 2305843009213693951, g1.rh, s1.rb, j1, by omega, r1, ⟨ns, p, f1, hp0, hp1, hpn, fun H0 R H a x y ow h h1 h2 h3 => ⟨a, x, y, rfl, ow, h, h1, h2, h3⟩⟩, ?_⟩
  rintro v R' H' g j ⟨a, x, y, rfl, ow, h, h1, h2, h3⟩
  refine ⟨WP a Pt lamQ, R', 0, [.at_ a], Is (.bl true), g.rh, ?_, ⟨⟨x, y, 0, h, h1, h2, h3, Int.le_refl _, Int.le_refl _⟩, j⟩, by decide, .cons (.at_ a) .nil, ⟨a, rfl, wp_pot, wp_tab, rfl⟩, ?_⟩
  · rintro b (rfl | rfl)
    · exact ow.r
    · obtain ⟨o, e⟩ := (WT b lamQ).occ j1 rfl
      exact g.nw b o e (s1.rb b rfl)
  · intro v R2 H2 d g2 j2 f2 r2
    have gg : Gr (WT Pt lamQ) R1 H1 R2 H2 := ⟨fun b o nb e => by
        have n1 : b ≠ a := fun z => by rw [z, ow.z] at e; cases e
        exact g2.hh b o (fun z => z.elim n1 nb) (g.hh b o nb e), fun b o e => by
        obtain ⟨o', e'⟩ := g.hb b o e
        exact g2.hb b o' e', g.rr.trans g2.rr, g2.rh, fun b o e z => by
        obtain ⟨o', e'⟩ := g.hb b o e
        exact g2.nw b o' e' (g.nw b o e z)⟩
    exact q v R2 H2 d (g1.trans gg) j2.2 f2 r2
end
/-- how many cells are looked at -/
def cellsN (L : Nat) : Nat := if 2 ≤ L then 2 else 1
section
variable {P : Program} {w : World} {K : PySem.W.Frag} {mg : Str → Option Value} {base : Heap} {f ct Pt : Addr} {fd : FuncData}
abbrev SCells2 : Wd → List Sl → (D → Prop) → Prop := fun W as φ => ∃ ns : List D, as = [.dat (.lst ns), .dat (.int 2)] ∧ φ (.lst (rangeD 0 (cellsN ns.length)))
theorem ok46b (hB : Bns mg) (F : FnP K "_law_cells" (top 46) f fd) : FnOk P w K mg base CX0 1 f fd ["script", "most"]  (spF K 0 SCells2) := by
  refine fn_ok F sc46 (fun W as φ h => by obtain ⟨ns, rfl, _⟩ := h; rfl) (by decide) fun cdv A outer s H E W as φ n hr hS hn => ?_
  obtain ⟨ns, rfl, hφ⟩ := hS
  have hv : (if (if (ns.length : Int) < 2 then (ns.length : Int) else 2) > 1 then (if (ns.length : Int) < 2 then (ns.length : Int) else 2) else 1) = ((cellsN ns.length : Nat) : Int) := by
    unfold cellsN
    by_cases h1 : (ns.length : Int) < 2
    · rw [if_pos h1, if_neg (show ¬ 2 ≤ ns.length by omega)]
      by_cases h2 : (ns.length : Int) > 1
      · rw [if_pos h2]; omega
      · rw [if_neg h2]; rfl
    · rw [if_neg h1, if_pos (show 2 ≤ ns.length by omega)]; rfl
  have hc : cellsN ns.length ≤ 2 := by unfold cellsN; split <;> decide
  refine ss_one (sm_ret (by exact ev_listRg (by rfl) (by rfl) (by exact hB _ (by decide +kernel)) (by rfl) (by exact hB _ (by decide +kernel)) (by exact Ev.to (by exact ev_max2 (by rfl) (by rfl) (by exact hB _ (by decide +kernel)) (by exact es_consI (by exact ev_int) (by exact es_consI (by exact ev_min2 (by rfl) (by rfl) (by exact hB _ (by decide +kernel)) (by exact es_consI (by exact ev_var (i := 1) rfl (by first | exact Or.inl rfl | exact Or.inr (Or.inl rfl) | exact Or.inr (Or.inr rfl)) rfl) (by exact es_consI (by exact ev_len (by rfl) (by exact hB _ (by decide +kernel)) (by exact ev_var (i := 0) rfl (by first | exact Or.inl rfl | exact Or.inr (Or.inl rfl) | exact Or.inr (Or.inr rfl)) rfl) (by first | rfl | assumption | trivial | omega) (by first | rfl | assumption | trivial | omega)) (by exact es_nil)))) (by exact es_nil)))) (by exact congrArg D.int hv)) (Int.natCast_nonneg _) (by omega)) (by omega) fun d hd => ?_)
  obtain rfl := hd
  exact ⟨hφ, by omega⟩
abbrev SLaw (Pt : Addr) : Wd → List Sl → (D → Prop) → Prop := fun W as φ => ∃ ns : List Int, as = [.dat (.lst (ns.map .int))] ∧ W = WT Pt lamQ ∧ φ (.bl true)
theorem sc68 : FnScope ["script", "place"] ["script"] (defScope (top 68)) := ⟨rfl, rfl, rfl, by decide +kernel, rfl, by decide +kernel, by decide +kernel⟩
theorem ok68 (hB : Bns mg) (c_cells : Cal P w K mg base 1 "_law_cells" ["script", "most"] 0 SCells2) (c_pot : CalG P w K mg base 1 "_law_pot" ["script", "place"] (spG K 0 SPot)) (c_right : Cal P w K mg base 9 "_law_right" ["pot"] 1500 (SLawR Pt)) (F : FnP K "law" (top 68) f fd) : FnOk P w K mg base CX0 10 f fd ["script"]  (spF K 0 (SLaw Pt)) := by
  refine fn_ok F sc68 (fun W as φ h => by obtain ⟨ns, rfl, _⟩ := h; rfl) (by decide) fun cdv A outer s H E W as φ n hr hS hn => ?_
  obtain ⟨ns, rfl, rfl, hφ⟩ := hS
  have hc : cellsN (ns.map D.int).length ≤ 2 := by unfold cellsN; split <;> decide
  have hcell : ∀ i ∈ List.range (cellsN (ns.map D.int).length), (0 : Int) ≤ 0 + (i : Int) ∧ 0 + (i : Int) ≤ 1 ∧ (0 + (i : Int) < ns.length ∨ ns = []) := fun i hi => by
    have := List.mem_range.mp hi
    refine ⟨by omega, by omega, ?_⟩
    rw [List.length_map] at this
    unfold cellsN at this
    cases ns with
    | nil => exact .inr rfl
    | cons a t =>
      left
      by_cases h2 : 2 ≤ (a :: t).length
      · rw [if_pos h2] at this; omega
      · rw [if_neg h2] at this
        rw [List.length_cons]; omega
  refine ss_retE (by exact ev_allT (by rfl) (by rfl) (by exact hB _ (by decide +kernel)) (by exact ev_lcB (F := fun _ => true) (own := [("place", 1)]) (xs := List.range (cellsN (ns.map D.int).length)) (enc := fun i => .int (0 + (i : Int))) (fun i => [(1, .int (0 + (i : Int)))]) (by rfl) sc68.nd (blkOk_by (N := ["script", "place"]) (sc := defScope (top 68)) (by decide +kernel)) (by exact EvI.z (by exact ei_lstI (by exact ev_call (φ := Is (.lst (rangeD 0 (cellsN (ns.map D.int).length)))) c_cells (by exact hr.mono (by decide)) (by rfl) (by exact es_consI (by exact ev_var (i := 0) rfl (by first | exact Or.inl rfl | exact Or.inr (Or.inl rfl) | exact Or.inr (Or.inr rfl)) rfl) (by exact es_consI (by exact ev_int) es_nil)) (fun ss h => ⟨_, h, rfl⟩))) (by rfl))  (fun i hi => by exact ⟨fun s1 H1 C1 cl1 fp1 => ⟨(by exact Tg.to (by exact tg_name (i := 1) sc68.nd rfl (by first | exact Or.inl rfl | exact Or.inr rfl)) (by rfl)), (by exact Ev.to (by exact Ev.z (by exact ev_cell (by exact c_pot) (by exact c_right) (by exact hr.mono (by decide)) (by exact hr.mono (by decide)) (by rfl) (by rfl) (by exact es_consI (by exact ev_var (i := 0) rfl (by first | exact Or.inl rfl | exact Or.inr (Or.inl rfl) | exact Or.inr (Or.inr rfl)) rfl) (by exact es_consI (by exact ev_var (i := 1) rfl (by first | exact Or.inl rfl | exact Or.inr (Or.inl rfl) | exact Or.inr (Or.inr rfl)) rfl) es_nil)) (hcell i hi).1 (hcell i hi).2.1 (hcell i hi).2.2) (by rfl)) (by rfl))⟩, by simp⟩) (by rw [List.length_range]; omega))) (by omega) rfl ⟨hφ, by omega⟩
end
end K5
namespace K5
open PySem PySem.Spec PyProof.Rows L2 Qq
def dfd (x : Str) (i : Nat) : He.DefD := ⟨(x, none), x, x, defArgs (top i), defBody (top i), defScope (top i), [], []⟩
def fnK0 : List He.DefD := [dfd "is_integer" 13, dfd "is_short" 14, dfd "is_pair" 15, dfd "is_ascending" 16, dfd "is_name" 17, dfd "are_names" 18, dfd "is_key" 19, dfd "is_kind" 20, dfd "is_signs" 21, dfd "is_of_kind" 22, dfd "is_columns" 23, dfd "are_values_of" 24, dfd "is_schema" 25, dfd "are_rows" 26, dfd "is_state" 27, dfd "is_key_rows" 28, dfd "want_schema" 29, dfd "want_key" 30, dfd "empty_state" 32, dfd "fits" 33, dfd "keys_of" 34, dfd "row_in" 35, dfd "key_rows" 36, dfd "with_key_rows" 37, dfd "want_state" 38, dfd "rows_with" 39, dfd "sorted_rows" 40, dfd "_law_pot" 42, dfd "_law_take" 43, dfd "_law_of" 44]
def fnK1 : List He.DefD := [dfd "_law_some" 45, dfd "_law_cells" 46, dfd "_law_is_int" 47, dfd "_law_state_is_text" 48, dfd "_law_state_is_of" 49, dfd "_law_state_are_values" 50, dfd "_law_state_copy" 51, dfd "_law_state_schema" 52, dfd "_law_state_told" 53, dfd "_law_state_keyed" 54, dfd "_law_state_changed" 55, dfd "_law_state_dealt" 56, dfd "_law_state_keys" 57, dfd "_law_state_value_drawn" 58, dfd "_law_state_values_drawn" 59, dfd "_law_state_columns_drawn" 60, dfd "_law_state_changes_drawn" 61, dfd "_law_same" 62, dfd "_law_rows_drawn" 63, dfd "_law_laid" 64, dfd "_law_are_keys_right" 65, dfd "_law_scene" 66, dfd "_law_right" 67, dfd "law" 68]
def fnK : List He.DefD := fnK0 ++ fnK1
def faG0 : List He.Fa := [.glo "is_integer", .glo "is_short", .glo "is_pair", .glo "is_ascending", .glo "is_name", .glo "are_names", .glo "is_key", .glo "is_kind", .glo "is_signs", .glo "is_of_kind", .glo "is_columns", .glo "are_values_of", .glo "is_schema", .glo "are_rows", .glo "is_state", .glo "is_key_rows", .glo "want_schema", .glo "want_key", .glo "empty_state", .glo "fits", .glo "keys_of", .glo "row_in", .glo "key_rows", .glo "with_key_rows", .glo "want_state", .glo "rows_with", .glo "sorted_rows", .glo "_law_pot", .glo "_law_take", .glo "_law_of"]
def faG1 : List He.Fa := [.glo "_law_some", .glo "_law_cells", .glo "_law_is_int", .glo "_law_state_is_text", .glo "_law_state_is_of", .glo "_law_state_are_values", .glo "_law_state_copy", .glo "_law_state_schema", .glo "_law_state_told", .glo "_law_state_keyed", .glo "_law_state_changed", .glo "_law_state_dealt", .glo "_law_state_keys", .glo "_law_state_value_drawn", .glo "_law_state_values_drawn", .glo "_law_state_columns_drawn", .glo "_law_state_changes_drawn", .glo "_law_same", .glo "_law_rows_drawn", .glo "_law_laid", .glo "_law_are_keys_right", .glo "_law_scene", .glo "_law_right", .glo "law"]
def faG : List He.Fa := faG0 ++ faG1
def faC : List He.Fa := [.int "MOST_PARTS" 6, .int "MOST_LETTERS" 6, .int "MOST_SIGNS" 12, .int "GREATEST_KEY" 999999, .int "GREATEST_VALUE" 99999999999]
def faK : List He.Fa := faG ++ (bnames.map He.Fa.free ++ faC)
def looseK0 : List Str := ["MomentError", "BadSchema", "NoTable", "BadState", "BadKey", "BadRows", "MOST_PARTS", "MOST_LETTERS", "MOST_SIGNS", "GREATEST_KEY", "GREATEST_VALUE", "is_integer", "is_short", "is_pair", "is_ascending", "is_name", "are_names", "is_key", "is_kind", "is_signs", "is_of_kind", "is_columns", "are_values_of", "is_schema", "are_rows", "is_state", "is_key_rows", "want_schema", "want_key", "empty_state"]
def looseK1 : List Str := ["fits", "keys_of", "row_in", "key_rows", "with_key_rows", "want_state", "rows_with", "sorted_rows", "_law_pot", "_law_take", "_law_of", "_law_some", "_law_cells", "_law_is_int", "_law_state_is_text", "_law_state_is_of", "_law_state_are_values", "_law_state_copy", "_law_state_schema", "_law_state_told", "_law_state_keyed", "_law_state_changed", "_law_state_dealt", "_law_state_keys", "_law_state_value_drawn", "_law_state_values_drawn", "_law_state_columns_drawn", "_law_state_changes_drawn", "_law_same", "_law_rows_drawn"]
def looseK2 : List Str := ["_law_laid", "_law_are_keys_right", "_law_scene", "_law_right"]
def looseK : List Str := looseK0 ++ looseK1 ++ looseK2
def tfK : List He.Defn := [("sorted_rows", none)]
theorem spF_imp {K : PySem.W.Frag} {c : Nat} {S S' : Wd → List Sl → (D → Prop) → Prop} (h : ∀ W as φ, S' W as φ → S W as φ) : ∀ vs H Q E, spF K c S' vs H Q E → spF K c S vs H Q E := fun vs H Q E ⟨W, R, n, as, φ, a, b, j, l, r, s, k⟩ => ⟨W, R, n, as, φ, a, b, j, l, r, h _ _ _ s, k⟩
theorem code_of {K : PySem.W.Frag} {x : Str} {st : Stmt} {fd : FuncData} (F : FnP K x st (He.ga K x) fd) : fd.code = .ref (He.codeOf K (x, none)) := by
  obtain ⟨oc, od, dV, kV, doc, pm, an, cdv, ct, osl, rfl, lk, hcd, hD, hK⟩ := F.ex
  obtain ⟨c, rfl⟩ := He.codeIn_ref hcd
  exact congrArg Value.ref (He.codeOf_eq (p := (x, none)) lk rfl).symm
theorem facts {P : Program} {w : World} {K : PySem.W.Frag} {h : Heap} {mg : Str → Option Value} {f : Addr} (X : K.In h) (G : h.Ns mainGlobals mg) (hfa : mg ("law" : Str) = some (.ref f)) (c : He.SaysD faK fnK K) :
    ∃ fd : FuncData, (∀ (s : Shared) (v : Value), BindsTo s fd ⟨[v], []⟩ [("script", v)]) ∧ ∀ base : Heap, K.In base → base.Ns mainGlobals mg → (∀ p ∈ [He.cT K ("sorted_rows", none)], LamX.TabB base mg p.1 p.2) → FnOk P w K mg base CX0 10 f fd ["script"] (spF K 0 (SLaw (He.cT K ("sorted_rows", none)).2)) := by
  obtain ⟨fd13, F13⟩ := c.def_ 0 (d := dfd "is_integer" 13) rfl
  have g13 := He.glo_ok X G (c.fact 0 (f := .glo "is_integer") rfl)
  have b13 := FunD.bindsN (ps := ["value"]) F13 fun _ _ _ _ _ _ us hl => match us, hl with | [_], _ => rfl
  obtain ⟨fd14, F14⟩ := c.def_ 1 (d := dfd "is_short" 14) rfl
  have g14 := He.glo_ok X G (c.fact 1 (f := .glo "is_short") rfl)
  have b14 := FunD.bindsN (ps := ["value", "most"]) F14 fun _ _ _ _ _ _ us hl => match us, hl with | [_, _], _ => rfl
  obtain ⟨fd15, F15⟩ := c.def_ 2 (d := dfd "is_pair" 15) rfl
  have g15 := He.glo_ok X G (c.fact 2 (f := .glo "is_pair") rfl)
  have b15 := FunD.bindsN (ps := ["value"]) F15 fun _ _ _ _ _ _ us hl => match us, hl with | [_], _ => rfl
  obtain ⟨fd16, F16⟩ := c.def_ 3 (d := dfd "is_ascending" 16) rfl
  have g16 := He.glo_ok X G (c.fact 3 (f := .glo "is_ascending") rfl)
  have b16 := FunD.bindsN (ps := ["parts"]) F16 fun _ _ _ _ _ _ us hl => match us, hl with | [_], _ => rfl
  obtain ⟨fd17, F17⟩ := c.def_ 4 (d := dfd "is_name" 17) rfl
  have g17 := He.glo_ok X G (c.fact 4 (f := .glo "is_name") rfl)
  have b17 := FunD.bindsN (ps := ["value"]) F17 fun _ _ _ _ _ _ us hl => match us, hl with | [_], _ => rfl
  obtain ⟨fd18, F18⟩ := c.def_ 5 (d := dfd "are_names" 18) rfl
  have g18 := He.glo_ok X G (c.fact 5 (f := .glo "are_names") rfl)
  have b18 := FunD.bindsN (ps := ["value"]) F18 fun _ _ _ _ _ _ us hl => match us, hl with | [_], _ => rfl
  obtain ⟨fd19, F19⟩ := c.def_ 6 (d := dfd "is_key" 19) rfl
  have g19 := He.glo_ok X G (c.fact 6 (f := .glo "is_key") rfl)
  have b19 := FunD.bindsN (ps := ["value"]) F19 fun _ _ _ _ _ _ us hl => match us, hl with | [_], _ => rfl
  obtain ⟨fd20, F20⟩ := c.def_ 7 (d := dfd "is_kind" 20) rfl
  have g20 := He.glo_ok X G (c.fact 7 (f := .glo "is_kind") rfl)
  have b20 := FunD.bindsN (ps := ["value"]) F20 fun _ _ _ _ _ _ us hl => match us, hl with | [_], _ => rfl
  obtain ⟨fd21, F21⟩ := c.def_ 8 (d := dfd "is_signs" 21) rfl
  have g21 := He.glo_ok X G (c.fact 8 (f := .glo "is_signs") rfl)
  have b21 := FunD.bindsN (ps := ["value", "most"]) F21 fun _ _ _ _ _ _ us hl => match us, hl with | [_, _], _ => rfl
  obtain ⟨fd22, F22⟩ := c.def_ 9 (d := dfd "is_of_kind" 22) rfl
  have g22 := He.glo_ok X G (c.fact 9 (f := .glo "is_of_kind") rfl)
  have b22 := FunD.bindsN (ps := ["value", "kind"]) F22 fun _ _ _ _ _ _ us hl => match us, hl with | [_, _], _ => rfl
  obtain ⟨fd23, F23⟩ := c.def_ 10 (d := dfd "is_columns" 23) rfl
  have g23 := He.glo_ok X G (c.fact 10 (f := .glo "is_columns") rfl)
  have b23 := FunD.bindsN (ps := ["value"]) F23 fun _ _ _ _ _ _ us hl => match us, hl with | [_], _ => rfl
  obtain ⟨fd24, F24⟩ := c.def_ 11 (d := dfd "are_values_of" 24) rfl
  have g24 := He.glo_ok X G (c.fact 11 (f := .glo "are_values_of") rfl)
  have b24 := FunD.bindsN (ps := ["columns", "value"]) F24 fun _ _ _ _ _ _ us hl => match us, hl with | [_, _], _ => rfl
  obtain ⟨fd25, F25⟩ := c.def_ 12 (d := dfd "is_schema" 25) rfl
  have g25 := He.glo_ok X G (c.fact 12 (f := .glo "is_schema") rfl)
  have b25 := FunD.bindsN (ps := ["value"]) F25 fun _ _ _ _ _ _ us hl => match us, hl with | [_], _ => rfl
  obtain ⟨fd26, F26⟩ := c.def_ 13 (d := dfd "are_rows" 26) rfl
  have g26 := He.glo_ok X G (c.fact 13 (f := .glo "are_rows") rfl)
  have b26 := FunD.bindsN (ps := ["columns", "value"]) F26 fun _ _ _ _ _ _ us hl => match us, hl with | [_, _], _ => rfl
  obtain ⟨fd27, F27⟩ := c.def_ 14 (d := dfd "is_state" 27) rfl
  have g27 := He.glo_ok X G (c.fact 14 (f := .glo "is_state") rfl)
  have b27 := FunD.bindsN (ps := ["schema", "value"]) F27 fun _ _ _ _ _ _ us hl => match us, hl with | [_, _], _ => rfl
  obtain ⟨fd28, F28⟩ := c.def_ 15 (d := dfd "is_key_rows" 28) rfl
  have g28 := He.glo_ok X G (c.fact 15 (f := .glo "is_key_rows") rfl)
  have b28 := FunD.bindsN (ps := ["schema", "value"]) F28 fun _ _ _ _ _ _ us hl => match us, hl with | [_, _], _ => rfl
  obtain ⟨fd29, F29⟩ := c.def_ 16 (d := dfd "want_schema" 29) rfl
  have g29 := He.glo_ok X G (c.fact 16 (f := .glo "want_schema") rfl)
  have b29 := FunD.bindsN (ps := ["value"]) F29 fun _ _ _ _ _ _ us hl => match us, hl with | [_], _ => rfl
  obtain ⟨fd30, F30⟩ := c.def_ 17 (d := dfd "want_key" 30) rfl
  have g30 := He.glo_ok X G (c.fact 17 (f := .glo "want_key") rfl)
  have b30 := FunD.bindsN (ps := ["value"]) F30 fun _ _ _ _ _ _ us hl => match us, hl with | [_], _ => rfl
  obtain ⟨fd32, F32⟩ := c.def_ 18 (d := dfd "empty_state" 32) rfl
  have g32 := He.glo_ok X G (c.fact 18 (f := .glo "empty_state") rfl)
  have b32 := FunD.bindsN (ps := ["schema"]) F32 fun _ _ _ _ _ _ us hl => match us, hl with | [_], _ => rfl
  obtain ⟨fd33, F33⟩ := c.def_ 19 (d := dfd "fits" 33) rfl
  have g33 := He.glo_ok X G (c.fact 19 (f := .glo "fits") rfl)
  have b33 := FunD.bindsN (ps := ["schema", "value"]) F33 fun _ _ _ _ _ _ us hl => match us, hl with | [_, _], _ => rfl
  obtain ⟨fd34, F34⟩ := c.def_ 20 (d := dfd "keys_of" 34) rfl
  have g34 := He.glo_ok X G (c.fact 20 (f := .glo "keys_of") rfl)
  have b34 := FunD.bindsN (ps := ["state"]) F34 fun _ _ _ _ _ _ us hl => match us, hl with | [_], _ => rfl
  obtain ⟨fd35, F35⟩ := c.def_ 21 (d := dfd "row_in" 35) rfl
  have g35 := He.glo_ok X G (c.fact 21 (f := .glo "row_in") rfl)
  have b35 := FunD.bindsN (ps := ["state", "table", "key"]) F35 fun _ _ _ _ _ _ us hl => match us, hl with | [_, _, _], _ => rfl
  obtain ⟨fd36, F36⟩ := c.def_ 22 (d := dfd "key_rows" 36) rfl
  have g36 := He.glo_ok X G (c.fact 22 (f := .glo "key_rows") rfl)
  have b36 := FunD.bindsN (ps := ["state", "key"]) F36 fun _ _ _ _ _ _ us hl => match us, hl with | [_, _], _ => rfl
  obtain ⟨fd37, F37⟩ := c.def_ 23 (d := dfd "with_key_rows" 37) rfl
  have g37 := He.glo_ok X G (c.fact 23 (f := .glo "with_key_rows") rfl)
  have b37 := FunD.bindsN (ps := ["schema", "state", "key", "rows"]) F37 fun _ _ _ _ _ _ us hl => match us, hl with | [_, _, _, _], _ => rfl
  obtain ⟨fd38, F38⟩ := c.def_ 24 (d := dfd "want_state" 38) rfl
  have g38 := He.glo_ok X G (c.fact 24 (f := .glo "want_state") rfl)
  have b38 := FunD.bindsN (ps := ["schema", "value"]) F38 fun _ _ _ _ _ _ us hl => match us, hl with | [_, _], _ => rfl
  obtain ⟨fd39, F39⟩ := c.def_ 25 (d := dfd "rows_with" 39) rfl
  have g39 := He.glo_ok X G (c.fact 25 (f := .glo "rows_with") rfl)
  have b39 := FunD.bindsN (ps := ["rows", "key", "values"]) F39 fun _ _ _ _ _ _ us hl => match us, hl with | [_, _, _], _ => rfl
  obtain ⟨fd40, F40⟩ := c.def_ 26 (d := dfd "sorted_rows" 40) rfl
  have g40 := He.glo_ok X G (c.fact 26 (f := .glo "sorted_rows") rfl)
  have b40 := FunD.bindsN (ps := ["rows"]) F40 fun _ _ _ _ _ _ us hl => match us, hl with | [_], _ => rfl
  obtain ⟨fd42, F42⟩ := c.def_ 27 (d := dfd "_law_pot" 42) rfl
  have g42 := He.glo_ok X G (c.fact 27 (f := .glo "_law_pot") rfl)
  have b42 := FunD.bindsN (ps := ["script", "place"]) F42 fun _ _ _ _ _ _ us hl => match us, hl with | [_, _], _ => rfl
  obtain ⟨fd43, F43⟩ := c.def_ 28 (d := dfd "_law_take" 43) rfl
  have g43 := He.glo_ok X G (c.fact 28 (f := .glo "_law_take") rfl)
  have b43 := FunD.bindsN (ps := ["pot", "upto"]) F43 fun _ _ _ _ _ _ us hl => match us, hl with | [_, _], _ => rfl
  obtain ⟨fd44, F44⟩ := c.def_ 29 (d := dfd "_law_of" 44) rfl
  have g44 := He.glo_ok X G (c.fact 29 (f := .glo "_law_of") rfl)
  have b44 := FunD.bindsN (ps := ["pot", "some"]) F44 fun _ _ _ _ _ _ us hl => match us, hl with | [_, _], _ => rfl
  obtain ⟨fd45, F45⟩ := c.def_ 30 (d := dfd "_law_some" 45) rfl
  have g45 := He.glo_ok X G (c.fact 30 (f := .glo "_law_some") rfl)
  have b45 := FunD.bindsN (ps := ["pot", "pool", "many"]) F45 fun _ _ _ _ _ _ us hl => match us, hl with | [_, _, _], _ => rfl
  obtain ⟨fd46, F46⟩ := c.def_ 31 (d := dfd "_law_cells" 46) rfl
  have g46 := He.glo_ok X G (c.fact 31 (f := .glo "_law_cells") rfl)
  have b46 := FunD.bindsN (ps := ["script", "most"]) F46 fun _ _ _ _ _ _ us hl => match us, hl with | [_, _], _ => rfl
  obtain ⟨fd47, F47⟩ := c.def_ 32 (d := dfd "_law_is_int" 47) rfl
  have g47 := He.glo_ok X G (c.fact 32 (f := .glo "_law_is_int") rfl)
  have b47 := FunD.bindsN (ps := ["value", "low", "high"]) F47 fun _ _ _ _ _ _ us hl => match us, hl with | [_, _, _], _ => rfl
  obtain ⟨fd48, F48⟩ := c.def_ 33 (d := dfd "_law_state_is_text" 48) rfl
  have g48 := He.glo_ok X G (c.fact 33 (f := .glo "_law_state_is_text") rfl)
  have b48 := FunD.bindsN (ps := ["value"]) F48 fun _ _ _ _ _ _ us hl => match us, hl with | [_], _ => rfl
  obtain ⟨fd49, F49⟩ := c.def_ 34 (d := dfd "_law_state_is_of" 49) rfl
  have g49 := He.glo_ok X G (c.fact 34 (f := .glo "_law_state_is_of") rfl)
  have b49 := FunD.bindsN (ps := ["value", "kind"]) F49 fun _ _ _ _ _ _ us hl => match us, hl with | [_, _], _ => rfl
  obtain ⟨fd50, F50⟩ := c.def_ 35 (d := dfd "_law_state_are_values" 50) rfl
  have g50 := He.glo_ok X G (c.fact 35 (f := .glo "_law_state_are_values") rfl)
  have b50 := FunD.bindsN (ps := ["columns", "value"]) F50 fun _ _ _ _ _ _ us hl => match us, hl with | [_, _], _ => rfl
  obtain ⟨fd51, F51⟩ := c.def_ 36 (d := dfd "_law_state_copy" 51) rfl
  have g51 := He.glo_ok X G (c.fact 36 (f := .glo "_law_state_copy") rfl)
  have b51 := FunD.bindsN (ps := ["own"]) F51 fun _ _ _ _ _ _ us hl => match us, hl with | [_], _ => rfl
  obtain ⟨fd52, F52⟩ := c.def_ 37 (d := dfd "_law_state_schema" 52) rfl
  have g52 := He.glo_ok X G (c.fact 37 (f := .glo "_law_state_schema") rfl)
  have b52 := FunD.bindsN (ps := ["own"]) F52 fun _ _ _ _ _ _ us hl => match us, hl with | [_], _ => rfl
  obtain ⟨fd53, F53⟩ := c.def_ 38 (d := dfd "_law_state_told" 53) rfl
  have g53 := He.glo_ok X G (c.fact 38 (f := .glo "_law_state_told") rfl)
  have b53 := FunD.bindsN (ps := ["own"]) F53 fun _ _ _ _ _ _ us hl => match us, hl with | [_], _ => rfl
  obtain ⟨fd54, F54⟩ := c.def_ 39 (d := dfd "_law_state_keyed" 54) rfl
  have g54 := He.glo_ok X G (c.fact 39 (f := .glo "_law_state_keyed") rfl)
  have b54 := FunD.bindsN (ps := ["own", "key"]) F54 fun _ _ _ _ _ _ us hl => match us, hl with | [_, _], _ => rfl
  obtain ⟨fd55, F55⟩ := c.def_ 40 (d := dfd "_law_state_changed" 55) rfl
  have g55 := He.glo_ok X G (c.fact 40 (f := .glo "_law_state_changed") rfl)
  have b55 := FunD.bindsN (ps := ["own", "change"]) F55 fun _ _ _ _ _ _ us hl => match us, hl with | [_, _], _ => rfl
  obtain ⟨fd56, F56⟩ := c.def_ 41 (d := dfd "_law_state_dealt" 56) rfl
  have g56 := He.glo_ok X G (c.fact 41 (f := .glo "_law_state_dealt") rfl)
  have b56 := FunD.bindsN (ps := ["own", "changes"]) F56 fun _ _ _ _ _ _ us hl => match us, hl with | [_, _], _ => rfl
  obtain ⟨fd57, F57⟩ := c.def_ 42 (d := dfd "_law_state_keys" 57) rfl
  have g57 := He.glo_ok X G (c.fact 42 (f := .glo "_law_state_keys") rfl)
  have b57 := FunD.bindsN (ps := ["own"]) F57 fun _ _ _ _ _ _ us hl => match us, hl with | [_], _ => rfl
  obtain ⟨fd58, F58⟩ := c.def_ 43 (d := dfd "_law_state_value_drawn" 58) rfl
  have g58 := He.glo_ok X G (c.fact 43 (f := .glo "_law_state_value_drawn") rfl)
  have b58 := FunD.bindsN (ps := ["pot", "kind"]) F58 fun _ _ _ _ _ _ us hl => match us, hl with | [_, _], _ => rfl
  obtain ⟨fd59, F59⟩ := c.def_ 44 (d := dfd "_law_state_values_drawn" 59) rfl
  have g59 := He.glo_ok X G (c.fact 44 (f := .glo "_law_state_values_drawn") rfl)
  have b59 := FunD.bindsN (ps := ["pot", "columns"]) F59 fun _ _ _ _ _ _ us hl => match us, hl with | [_, _], _ => rfl
  obtain ⟨fd60, F60⟩ := c.def_ 45 (d := dfd "_law_state_columns_drawn" 60) rfl
  have g60 := He.glo_ok X G (c.fact 45 (f := .glo "_law_state_columns_drawn") rfl)
  have b60 := FunD.bindsN (ps := ["pot"]) F60 fun _ _ _ _ _ _ us hl => match us, hl with | [_], _ => rfl
  obtain ⟨fd61, F61⟩ := c.def_ 46 (d := dfd "_law_state_changes_drawn" 61) rfl
  have g61 := He.glo_ok X G (c.fact 46 (f := .glo "_law_state_changes_drawn") rfl)
  have b61 := FunD.bindsN (ps := ["pot", "own", "keys", "most"]) F61 fun _ _ _ _ _ _ us hl => match us, hl with | [_, _, _, _], _ => rfl
  obtain ⟨fd62, F62⟩ := c.def_ 47 (d := dfd "_law_same" 62) rfl
  have g62 := He.glo_ok X G (c.fact 47 (f := .glo "_law_same") rfl)
  have b62 := FunD.bindsN (ps := ["one", "other"]) F62 fun _ _ _ _ _ _ us hl => match us, hl with | [_, _], _ => rfl
  obtain ⟨fd63, F63⟩ := c.def_ 48 (d := dfd "_law_rows_drawn" 63) rfl
  have g63 := He.glo_ok X G (c.fact 48 (f := .glo "_law_rows_drawn") rfl)
  have b63 := FunD.bindsN (ps := ["pot", "own"]) F63 fun _ _ _ _ _ _ us hl => match us, hl with | [_, _], _ => rfl
  obtain ⟨fd64, F64⟩ := c.def_ 49 (d := dfd "_law_laid" 64) rfl
  have g64 := He.glo_ok X G (c.fact 49 (f := .glo "_law_laid") rfl)
  have b64 := FunD.bindsN (ps := ["own", "key", "rows"]) F64 fun _ _ _ _ _ _ us hl => match us, hl with | [_, _, _], _ => rfl
  obtain ⟨fd65, F65⟩ := c.def_ 50 (d := dfd "_law_are_keys_right" 65) rfl
  have g65 := He.glo_ok X G (c.fact 50 (f := .glo "_law_are_keys_right") rfl)
  have b65 := FunD.bindsN (ps := ["own", "schema", "state", "keys"]) F65 fun _ _ _ _ _ _ us hl => match us, hl with | [_, _, _, _], _ => rfl
  obtain ⟨fd66, F66⟩ := c.def_ 51 (d := dfd "_law_scene" 66) rfl
  have g66 := He.glo_ok X G (c.fact 51 (f := .glo "_law_scene") rfl)
  have b66 := FunD.bindsN (ps := ["pot", "keys"]) F66 fun _ _ _ _ _ _ us hl => match us, hl with | [_, _], _ => rfl
  obtain ⟨fd67, F67⟩ := c.def_ 52 (d := dfd "_law_right" 67) rfl
  have g67 := He.glo_ok X G (c.fact 52 (f := .glo "_law_right") rfl)
  have b67 := FunD.bindsN (ps := ["pot"]) F67 fun _ _ _ _ _ _ us hl => match us, hl with | [_], _ => rfl
  obtain ⟨fd68, F68⟩ := c.def_ 53 (d := dfd "law" 68) rfl
  have g68 := He.glo_ok X G (c.fact 53 (f := .glo "law") rfl)
  have b68 := FunD.bindsN (ps := ["script"]) F68 fun _ _ _ _ _ _ us hl => match us, hl with | [_], _ => rfl
  have hB : Bns mg := fun x hx => by
    have hm : He.Fa.free x ∈ faK := List.mem_append_right _ (List.mem_append_left _ (List.mem_map.mpr ⟨x, hx, rfl⟩))
    exact He.free_ok X G (c.facts hm)
  have hc : Cns mg := ⟨He.int_ok X G (c.fact 71 (f := .int "MOST_PARTS" 6) rfl), He.int_ok X G (c.fact 72 (f := .int "MOST_LETTERS" 6) rfl), He.int_ok X G (c.fact 73 (f := .int "MOST_SIGNS" 12) rfl), He.int_ok X G (c.fact 74 (f := .int "GREATEST_KEY" 999999) rfl), He.int_ok X G (c.fact 75 (f := .int "GREATEST_VALUE" 99999999999) rfl)⟩
  have e := hfa.symm.trans g68
  cases e
  have ba := FunD.bindsA (ps := ["script"]) F68 fun _ _ _ _ _ _ us hl => match us, hl with | [_], _ => rfl
  refine ⟨fd68, fun s v => ba s [v] rfl, fun base _ _ hTB => ?_⟩
  have TB : LamX.TabB base mg (He.cT K ("sorted_rows", none)).1 (He.cT K ("sorted_rows", none)).2 := hTB _ (List.mem_singleton.mpr rfl)
  have c13 : Cal P w K mg base 1 "is_integer" ["value"] 0 (SQ1 (fun _ => True) fun d => .bl (intD d)) := cal_of g13 F13.kp b13 (ok13 hB F13)
  have c14 : Cal P w K mg base 1 "is_short" ["value", "most"] 0 SShort := cal_of g14 F14.kp b14 (ok14 hB F14)
  have c15 : Cal P w K mg base 1 "is_pair" ["value"] 0 SPair := cal_of g15 F15.kp b15 (ok15 hB F15)
  have c16 : Cal P w K mg base 1 "is_ascending" ["parts"] 0 (SQ1 ascP fun d => .bl (ascD d)) := cal_of g16 F16.kp b16 (ok16 hB F16)
  have c17 : Cal P w K mg base 1 "is_name" ["value"] 0 (SQ1 nmP fun _ => .bl true) := cal_of g17 F17.kp b17 ((ok17 hB hc F17).imp (spF_imp fun W as φ ⟨a, e, ⟨z, ez, hz⟩, q⟩ => ⟨a, e, by subst ez; exact name_fits hz, by subst ez; show φ (D.bl (nameD (.str z))); rw [show nameD (.str z) = true from hz]; exact q⟩))
  have c18 : Cal P w K mg base 2 "are_names" ["value"] 0 (SQ1 nmsP fun _ => .bl true) := cal_of g18 F18.kp b18 (ok18 hB hc c14 c17 F18)
  have c19 : Cal P w K mg base 2 "is_key" ["value"] 0 (SQ1 keyP fun _ => .bl true) := cal_of g19 F19.kp b19 (ok19 hB hc c13 F19)
  have c20 : Cal P w K mg base 1 "is_kind" ["value"] 0 (SQ1 kindP fun _ => .bl true) := cal_of g20 F20.kp b20 (ok20 hB F20)
  have c21 : Cal P w K mg base 1 "is_signs" ["value", "most"] 0 (SQ2 (fun a b => ∃ z i, a = .str z ∧ b = .int i ∧ (z.length : Int) ≤ i ∧ z.length ≤ 4000 ∧ (sgns z).all (signOk "!" "~") = true) fun _ _ => .bl true) := cal_of g21 F21.kp b21 (ok21 hB F21)
  have c22 : Cal P w K mg base 2 "is_of_kind" ["value", "kind"] 0 (SQ2 valP fun _ _ => .bl true) := cal_of g22 F22.kp b22 (ok22 hB hc c13 c21 F22)
  have c23 : Cal P w K mg base 3 "is_columns" ["value"] 0 (SQ1 colsP fun _ => .bl true) := cal_of g23 F23.kp b23 (ok23 hB hc c14 c15 c18 c20 F23)
  have c24 : Cal P w K mg base 3 "are_values_of" ["columns", "value"] 0 (SQ2 valsP fun _ _ => .bl true) := cal_of g24 F24.kp b24 (ok24 hB c22 F24)
  have c25 : Cal P w K mg base 4 "is_schema" ["value"] 0 (SQ1 schP fun _ => .bl true) := cal_of g25 F25.kp b25 (ok25 hB hc c14 c15 c18 c16 c23 F25)
  have c26 : Cal P w K mg base 4 "are_rows" ["columns", "value"] 0 (SQ2 rowsP fun _ _ => .bl true) := cal_of g26 F26.kp b26 (ok26 hB c15 c19 c24 c16 F26)
  have c27 : Cal P w K mg base 5 "is_state" ["schema", "value"] 0 (SQ2 sttP fun _ _ => .bl true) := cal_of g27 F27.kp b27 (ok27 hB c15 c26 F27)
  have c28 : Cal P w K mg base 4 "is_key_rows" ["schema", "value"] 0 (SQ2 krsP fun _ _ => .bl true) := cal_of g28 F28.kp b28 (ok28 hB c15 c24 F28)
  have c29 : Cal P w K mg base 5 "want_schema" ["value"] 0 (SQ1 schP fun _ => .non) := cal_of g29 F29.kp b29 (ok29 c25 F29)
  have c30 : Cal P w K mg base 3 "want_key" ["value"] 0 (SQ1 keyP fun _ => .non) := cal_of g30 F30.kp b30 (ok30 c19 F30)
  have c32 : Cal P w K mg base 6 "empty_state" ["schema"] 0 SEmp := cal_of g32 F32.kp b32 (ok32 hB c29 F32)
  have c33 : Cal P w K mg base 6 "fits" ["schema", "value"] 0 (SQ2 sttP fun _ _ => .bl true) := cal_of g33 F33.kp b33 (ok33 c29 c27 F33)
  have c38 : Cal P w K mg base 7 "want_state" ["schema", "value"] 0 (SQ2 sttP fun _ _ => .non) := cal_of g38 F38.kp b38 (ok38 c33 F38)
  have c36 : Cal P w K mg base 4 "key_rows" ["state", "key"] 0 SKR := cal_of g36 F36.kp b36 (ok36 hB c30 F36)
  have k36 : CalK P w K mg base 4 "key_rows" ["state", "key"] ["key", "state"] reo2 0 SKR := ⟨_, _, g36, F36.kp, kbn_of reo2 F36 fun _ _ _ _ _ _ ws hl => match ws, hl with | [_, _], _ => rfl, ok36 hB c30 F36⟩
  have k35 : CalK P w K mg base 4 "row_in" ["state", "table", "key"] ["table", "state", "key"] reo3 0 SRI := ⟨_, _, g35, F35.kp, kbn_of reo3 F35 fun _ _ _ _ _ _ ws hl => match ws, hl with | [_, _, _], _ => rfl, ok35 hB c30 F35⟩
  have k34 : CalK P w K mg base 1 "keys_of" ["state"] ["state"] reo1 0 SKeysOf := ⟨_, _, g34, F34.kp, kbn_of reo1 F34 fun _ _ _ _ _ _ ws hl => match ws, hl with | [_], _ => rfl, ok34 hB F34⟩
  have c40 : Cal P w K mg base 3 "sorted_rows" ["rows"] 0 (SSrt (He.cT K ("sorted_rows", none)).2) := cal_of g40 F40.kp b40 (ok40 hB (code_of (st := top 40) F40) TB F40)
  have c39 : Cal P w K mg base 4 "rows_with" ["rows", "key", "values"] 0 (SWith (He.cT K ("sorted_rows", none)).2) := cal_of g39 F39.kp b39 (ok39 hB c40 F39)
  have c37 : Cal P w K mg base 8 "with_key_rows" ["schema", "state", "key", "rows"] 0 (SWK (He.cT K ("sorted_rows", none)).2) := cal_of g37 F37.kp b37 (ok37 hB c38 c30 c28 c39 F37)
  have k37 : CalK P w K mg base 8 "with_key_rows" ["schema", "state", "key", "rows"] ["rows", "key", "state", "schema"] reo4 0 (SWK (He.cT K ("sorted_rows", none)).2) := ⟨_, _, g37, F37.kp, kbn_of reo4 F37 fun _ _ _ _ _ _ ws hl => match ws, hl with | [_, _, _, _], _ => rfl, ok37 hB c38 c30 c28 c39 F37⟩
  have c42 : CalG P w K mg base 1 "_law_pot" ["script", "place"] (spG K 0 SPot) := ⟨_, _, g42, F42.kp, b42, ok42 hB F42⟩
  have c43 : Cal P w K mg base 1 "_law_take" ["pot", "upto"] 1 STake := cal_of g43 F43.kp b43 (ok43 hB F43)
  have c44 : Cal P w K mg base 2 "_law_of" ["pot", "some"] 1 SOf := cal_of g44 F44.kp b44 (ok44 hB c43 F44)
  have c45 : Cal P w K mg base 2 "_law_some" ["pot", "pool", "many"] 64 SSome := cal_of g45 F45.kp b45 (ok45 hB c43 F45)
  have c46 : Cal P w K mg base 1 "_law_cells" ["script", "most"] 0 SCells2 := cal_of g46 F46.kp b46 (ok46b hB F46)
  have c47 : Cal P w K mg base 1 "_law_is_int" ["value", "low", "high"] 0 SIsInt := cal_of g47 F47.kp b47 (ok47 hB F47)
  have c48 : Cal P w K mg base 1 "_law_state_is_text" ["value"] 0 SIsText := cal_of g48 F48.kp b48 (ok48 hB F48)
  have c49 : Cal P w K mg base 2 "_law_state_is_of" ["value", "kind"] 0 (SQ2 valP fun _ _ => .bl true) := cal_of g49 F49.kp b49 (ok49 c47 c48 F49)
  have c50 : Cal P w K mg base 3 "_law_state_are_values" ["columns", "value"] 0 SAreVals := cal_of g50 F50.kp b50 (ok50 hB c49 F50)
  have c51 : CalG P w K mg base 1 "_law_state_copy" ["own"] (spG K 0 (SCopy K)) := ⟨_, _, g51, F51.kp, b51, ok51 hB F51⟩
  have c52 : Cal P w K mg base 1 "_law_state_schema" ["own"] 0 SSch := cal_of g52 F52.kp b52 (ok52 hB F52)
  have c53 : Cal P w K mg base 3 "_law_state_told" ["own"] 0 STold := cal_of g53 F53.kp b53 (ok53 hB F53)
  have c54 : Cal P w K mg base 3 "_law_state_keyed" ["own", "key"] 0 SKeyed := cal_of g54 F54.kp b54 (ok54 hB F54)
  have c55 : Cal P w K mg base 4 "_law_state_changed" ["own", "change"] 0 SChg := cal_of g55 F55.kp b55 (ok55 hB c51 c50 F55)
  have c56 : Cal P w K mg base 5 "_law_state_dealt" ["own", "changes"] 0 SDealt := cal_of g56 F56.kp b56 (ok56 hB c55 F56)
  have c57 : Cal P w K mg base 1 "_law_state_keys" ["own"] 0 SKeysO := cal_of g57 F57.kp b57 (ok57 hB F57)
  have c58 : Cal P w K mg base 3 "_law_state_value_drawn" ["pot", "kind"] 3 SVal := cal_of g58 F58.kp b58 (ok58 hB c43 c44 F58)
  have c59 : Cal P w K mg base 4 "_law_state_values_drawn" ["pot", "columns"] 18 SVals := cal_of g59 F59.kp b59 (ok59 hB c58 F59)
  have c60 : Cal P w K mg base 3 "_law_state_columns_drawn" ["pot"] 70 SCols := cal_of g60 F60.kp b60 (ok60 hB c43 c44 c45 F60)
  have c61 : Cal P w K mg base 5 "_law_state_changes_drawn" ["pot", "own", "keys", "most"] 250 SChgs := cal_of g61 F61.kp b61 (ok61 hB c43 c44 c59 c55 F61)
  have c62 : Cal P w K mg base 7 "_law_same" ["one", "other"] 0 SSame6 := cal_of g62 F62.kp b62 (ok62 hB F62 (fun h => cal_of g62 F62.kp b62 h) 6)
  have c63 : Cal P w K mg base 5 "_law_rows_drawn" ["pot", "own"] 120 SRows := cal_of g63 F63.kp b63 (ok63 hB c43 c52 c59 F63)
  have c64 : Cal P w K mg base 2 "_law_laid" ["own", "key", "rows"] 0 SLaid := cal_of g64 F64.kp b64 (ok64 hB c51 F64)
  have c65 : Cal P w K mg base 8 "_law_are_keys_right" ["own", "schema", "state", "keys"] 0 SRight := cal_of g65 F65.kp b65 (ok65 hB c62 k34 c57 k36 c54 k35 F65)
  have c66 : Cal P w K mg base 6 "_law_scene" ["pot", "keys"] 1000 SScene := cal_of g66 F66.kp b66 (ok66 hB c43 c44 c45 c60 c61 c56 F66)
  have c67 : Cal P w K mg base 9 "_law_right" ["pot"] 1500 (SLawR (He.cT K ("sorted_rows", none)).2) := cal_of g67 F67.kp b67 (ok67 hB c44 c45 c66 c52 c53 c65 c63 k37 c37 c62 c64 c32 c57 c36 F67)
  exact ok68 hB c46 c42 c67 F68
end K5
namespace K5
open PySem PySem.Spec PyProof.Rows L2 Qq
abbrev RR : PySem.W.OpenRow := PySem.W.OpenLaw.row PySem.Challenge.rw_toldmoment_k05_whole_what_lies_under_key
abbrev hkK : PySem.W.Hook := He.hookX 4 faK fnK [] tfK (fun _ => true)
def obK (s : PySem.W.SharedT) : He.AlX := He.obsX 4 faK fnK [] tfK (fun _ => true) (HandSHeadRun.getT s)
theorem obK_eq (s : PySem.W.SharedT) : obK s = hkK.obs s.abs := He.obsX_eq (HandSHeadRun.getT_eq s)
theorem runK (w : World) : HandSHeadRun.RunEq RR (PySem.W.view RR.prog [68]) hkK obK 3000 looseK w := by
  intro os
  kernel_rfl
end K5
namespace K5
open PySem PySem.Spec PyProof.Rows L2 Qq
theorem ints_rpL {K : PySem.W.Frag} {R : Hp} : ∀ ns : List Int, RpL K R (ns.map V.int) (ns.map D.int)
  | [] => .nil
  | i :: t => .cons (.int i) (ints_rpL t)
theorem law_asked {K : PySem.W.Frag} {Pt a : Addr} {H : Hp} {ns : List Int} (hT : H Pt = some (.tbl #[])) (hS : SqL K H a (ns.map V.int)) : spF K 0 (SLaw Pt) [.ref a] H (fun v _ => v = .bl true) fun _ _ _ => False := by
  have hsame : Same (fun b => if b = Pt then none else H b) H := fun b u e => by
    by_cases q : b = Pt
    · have z : (if b = Pt then none else H b) = some u := e
      rw [if_pos q] at z; cases z
    · exact (if_neg q).symm.trans e
  have hR : SqL K (fun b => if b = Pt then none else H b) a (ns.map V.int) := by
    rcases hS with (h | ⟨o, h⟩) | h
    · exact .inl (.inl ((if_neg (fun q => by rw [q, hT] at h; cases h)).trans h))
    · exact .inl (.inr ⟨o, (if_neg (fun q => by rw [q, hT] at h; cases h)).trans h⟩)
    · exact .inr h
  refine ⟨WT Pt lamQ, fun b => if b = Pt then none else H b, 0, [.dat (.lst (ns.map .int))], Is (.bl true), hsame, fun b hb => if_pos hb, ⟨#[], hT, ?_, fun _ _ e => ?_⟩, by decide, .cons (.dat (.lst hR (ints_rpL ns))) .nil, ⟨ns, rfl, rfl, rfl⟩, ?_⟩
  · exact trivial
  · cases e
  · intro v R' H' d _ _ f r
    obtain rfl : d = .bl true := f
    cases r
    rfl
end K5
open PySem PySem.W PySem.Calls PyProof.Rows
theorem PySem.Challenge.cw_toldmoment_k05_whole_what_lies_under_key_holds : PySem.Challenge.rw_toldmoment_k05_whole_what_lies_under_key.Holds := by
  w_on; o_law
  refine HandSHeadRun.head_any (r := OpenLaw.row PySem.Challenge.rw_toldmoment_k05_whole_what_lies_under_key) (q := view (OpenLaw.row PySem.Challenge.rw_toldmoment_k05_whole_what_lies_under_key).prog [68]) (H := K5.hkK) (ob := K5.obK) (M := 3000) (loose := K5.looseK) (d := HandSHeadRun.topDef (OpenLaw.row PySem.Challenge.rw_toldmoment_k05_whole_what_lies_under_key).prog 68) (kwd := []) K5.obK_eq
    (by kernel_rfl) (fun s => by kernel_rfl) K5.runK (by kernel_rfl) (by kernel_rfl) (by kernel_rfl) (by rfl) (by first | assumption | decide +kernel) (by decide +kernel) ⟨rfl, rfl, rfl, rfl, rfl, by decide +kernel⟩ ?hw ?hc
  case hw => w_witness2
  case hc =>
    refine LamX.walk_ofTsE (l := PySem.Challenge.rw_toldmoment_k05_whole_what_lies_under_key) (n := 63) (k := 10) (x := "script") (CX := fun _ => L2.CX0) rfl (by decide) (by kernel_rfl) ⟨rfl, by decide, by decide⟩ ?F (fun _ _ _ _ _ z => z)
    intro w mg fa h Y G hmg0
    obtain ⟨K, KX, c⟩ := Y
    have hmg : mg ("law" : PySem.Str) = some (.ref fa) := by
      have e : (HandSHeadRun.topDef (OpenLaw.row PySem.Challenge.rw_toldmoment_k05_whole_what_lies_under_key).prog 68).name = ("law" : PySem.Str) := by kernel_rfl
      rw [← e]
      exact hmg0
    obtain ⟨fd, hb, hF⟩ := K5.facts (P := (PySem.Challenge.rw_toldmoment_k05_whole_what_lies_under_key).prog) (w := w) KX G hmg c.t.d
    have ms : ∀ {p : Addr × Addr}, p ∈ [He.cT K ("sorted_rows", none)] → p = He.cT K ("sorted_rows", none) := fun hp => List.mem_singleton.mp hp
    have mt : (("sorted_rows" : PySem.Str), (none : Option PySem.Str)) ∈ K5.tfK := List.mem_singleton.mpr rfl
    refine ⟨K, KX, fd, [He.cT K ("sorted_rows", none)], Qq.spF K 0 (K5.SLaw (He.cT K ("sorted_rows", none)).2), fun p hp => by rw [ms hp]; exact c.empty _ mt, fun p hp => by rw [ms hp]; exact c.out _ mt, fun p hp => by rw [ms hp]; exact codeHd_of_K KX (c.hd _ mt), hb, fun H a ns hl hbits hT hS => K5.law_asked (hT _ (List.mem_singleton.mpr rfl)) hS, hF⟩
