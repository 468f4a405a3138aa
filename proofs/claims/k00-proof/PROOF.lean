import PyProof.Rows.All
import Wide.All
import OpenK.AllK
import Wide.FinOn
import HandS.ForMost
import HandS.ForExc
import HandS.AnyAll
import HandS.Deep
import HandS.IsInst
import HandS.Zip
import HandS.Style
import HandS.TupLe
import HandS.Replace
import HandS.Conv
import HandS.TryMany
import HandS.GenOver
import KE.GoesNew
import KE.GoesMore
import HandS.Iter
import HandS.Defaults
import HandS.TryOnly
import HandS.ExcOwn
import HandS.WordsExc
import HandS.TupSets
import KE.KeyNested
import PyProof.Rows.RegReprOcc
import PyProof.StrLawsIn
import HandS.Head0
import HandS.Head1
import HandS.Head2
import HandS.HeadEnd
import HandS.HeadHook1
import HandS.HeadHook2
import HandS.HeadHook3
import HandS.HeadHook4
import HandS.EndTab
import HandS.HeadWalk
import KE.KStateDown
import Lean
import PySem.Challenge.RW_meetfolk_k00_whole_meetings
set_option Elab.async false
set_option linter.all false
set_option maxRecDepth 100000
set_option maxHeartbeats 1000000
namespace Pd
open PySem PySem.Spec PyProof.Rows L2
abbrev St := L2.St

/-! ### values: data that never changes, or a list that may (by its number in the store) -/
inductive W where
  | d (x : PyData)
  | loc (n : Nat)
/-- what a changing list holds -/
inductive Cell where
  | lst (ws : List W)
abbrev Sto := List Cell
abbrev Env := List (Option W)
inductive R (α : Type) where
  | ok (a : α) (m : Sto)
  | exc (x : Str) (m : Sto)
  | bad
@[simp] def R.bind {α β : Type} : R α → (α → Sto → R β) → R β
  | .ok a m, f => f a m
  | .exc x m, _ => .exc x m
  | .bad, _ => .bad

structure Ct where
  K : PySem.W.Frag
  T : List Addr
  xa : Str → Addr

/-! ### what stands for what -/
/-- the changing lists' addresses, by number; and addresses that are being filled, which no value is to lean on -/
structure Ad where
  loc : List Addr
  hid : List Addr
def Ad.free (M : Ad) (a : Addr) : Prop := a ∉ M.loc ∧ a ∉ M.hid
def FzL (K : PySem.W.Frag) (H : Hp) (M : Ad) (a : Addr) (xs : List V) : Prop :=
  (Rd H a (.lst xs) ∧ M.free a) ∨ ∃ (o : Obj) (its : Array Value) (n : Nat), K.lookup a = some o ∧ o.cls = .type "list" ∧ o.dict = none ∧ o.data = .seq its n ∧ its.size ≤ sizeLine ∧ Vals xs its.toList
def FzT (K : PySem.W.Frag) (H : Hp) (M : Ad) (a : Addr) (xs : List V) : Prop :=
  (Rd H a (.tup xs) ∧ M.free a) ∨ ∃ (o : Obj) (its : Array Value) (n : Nat), K.lookup a = some o ∧ o.cls = .type "tuple" ∧ o.data = .seq its n ∧ its.size ≤ sizeLine ∧ Vals xs its.toList
theorem FzL.sq {K : PySem.W.Frag} {H : Hp} {M : Ad} {a : Addr} {xs : List V} (h : FzL K H M a xs) : SqL K H a xs := h.imp (·.1) id
theorem FzT.sq {K : PySem.W.Frag} {H : Hp} {M : Ad} {a : Addr} {xs : List V} (h : FzT K H M a xs) : SqT K H a xs := h.imp (·.1) id
mutual
inductive Rp (K : PySem.W.Frag) (H : Hp) (M : Ad) : V → PyData → Prop
  | non : Rp K H M .non .none
  | bl (b : Bool) : Rp K H M (.bl b) (.bool b)
  | int (i : Int) : Rp K H M (.int i) (.int i)
  | str (x : Str) : Rp K H M (.str x) (.str x)
  | lst {a : Addr} {xs : List V} {ds : List PyData} : FzL K H M a xs → RpA K H M xs ds → Rp K H M (.ref a) (.list ds)
  | tup {a : Addr} {xs : List V} {ds : List PyData} : FzT K H M a xs → RpA K H M xs ds → Rp K H M (.ref a) (.tuple ds)
inductive RpA (K : PySem.W.Frag) (H : Hp) (M : Ad) : List V → List PyData → Prop
  | nil : RpA K H M [] []
  | cons {v : V} {vs : List V} {d : PyData} {ds : List PyData} : Rp K H M v d → RpA K H M vs ds → RpA K H M (v :: vs) (d :: ds)
end
mutual
theorem Rp.dp {K : PySem.W.Frag} {H : Hp} {M : Ad} : ∀ {d : PyData} {v : V}, Rp K H M v d → Dp K H v d
  | .none, _, h => by cases h; exact .non
  | .bool _, _, h => by cases h; exact .bl _
  | .int _, _, h => by cases h; exact .int _
  | .str _, _, h => by cases h; exact .str _
  | .list ds, _, h => by cases h with | lst a b => exact .lst a.sq b.dp
  | .tuple ds, _, h => by cases h with | tup a b => exact .tup a.sq b.dp
  | .dict _, _, h => by cases h
theorem RpA.dp {K : PySem.W.Frag} {H : Hp} {M : Ad} : ∀ {ds : List PyData} {vs : List V}, RpA K H M vs ds → DpAll K H vs ds
  | [], _, h => by cases h; exact .nil
  | _ :: _, _, h => by cases h with | cons a b => exact .cons a.dp b.dp
end
theorem RpA.len {K : PySem.W.Frag} {H : Hp} {M : Ad} : ∀ {ds : List PyData} {vs : List V}, RpA K H M vs ds → vs.length = ds.length
  | [], _, h => by cases h; rfl
  | _ :: _, _, h => by cases h with | cons a b => simp [RpA.len b]
theorem RpA.get {K : PySem.W.Frag} {H : Hp} {M : Ad} : ∀ {ds : List PyData} {vs : List V} {i : Nat} {d : PyData}, RpA K H M vs ds → ds[i]? = some d → ∃ v, vs[i]? = some v ∧ Rp K H M v d
  | [], _, _, _, h, e => by simp at e
  | _ :: _, _, 0, _, h, e => by cases h with | cons a b => simp at e; subst e; exact ⟨_, rfl, a⟩
  | _ :: _, _, i + 1, _, h, e => by cases h with | cons a b => obtain ⟨v, e1, e2⟩ := RpA.get (i := i) b (by simpa using e); exact ⟨v, by simpa using e1, e2⟩
theorem RpA.app {K : PySem.W.Frag} {H : Hp} {M : Ad} : ∀ {ds es : List PyData} {vs ws : List V}, RpA K H M vs ds → RpA K H M ws es → RpA K H M (vs ++ ws) (ds ++ es)
  | [], _, _, _, h, g => by cases h; exact g
  | _ :: _, _, _, _, h, g => by cases h with | cons a b => exact .cons a (RpA.app b g)
theorem RpA.take {K : PySem.W.Frag} {H : Hp} {M : Ad} : ∀ {ds : List PyData} {vs : List V} (n : Nat), RpA K H M vs ds → RpA K H M (vs.take n) (ds.take n)
  | _, _, 0, _ => .nil
  | [], _, n + 1, h => by cases h; exact .nil
  | _ :: _, _, n + 1, h => by cases h with | cons a b => exact .cons a (RpA.take n b)
theorem RpA.drop {K : PySem.W.Frag} {H : Hp} {M : Ad} : ∀ {ds : List PyData} {vs : List V} (n : Nat), RpA K H M vs ds → RpA K H M (vs.drop n) (ds.drop n)
  | _, _, 0, h => h
  | [], _, n + 1, h => by cases h; exact .nil
  | _ :: _, _, n + 1, h => by cases h with | cons a b => exact RpA.drop n b

def RW (K : PySem.W.Frag) (H : Hp) (M : Ad) (v : V) : W → Prop
  | .d x => Rp K H M v x
  | .loc n => ∃ a, v = .ref a ∧ M.loc[n]? = some a
inductive RWs (K : PySem.W.Frag) (H : Hp) (M : Ad) : List V → List W → Prop
  | nil : RWs K H M [] []
  | cons {v : V} {vs : List V} {w : W} {ws : List W} : RW K H M v w → RWs K H M vs ws → RWs K H M (v :: vs) (w :: ws)
def CellOk (K : PySem.W.Frag) (H : Hp) (M : Ad) (a : Addr) : Cell → Prop
  | .lst ws => ∃ vs, H a = some (.lst vs) ∧ RWs K H M vs ws
structure Ok (C : Ct) (M : Ad) (m : Sto) (H : Hp) : Prop where
  tab : ∀ P ∈ C.T, GxR.TabG H P
  len : M.loc.length = m.length
  cell : ∀ (n : Nat) (a : Addr) (c : Cell), M.loc[n]? = some a → m[n]? = some c → CellOk C.K H M a c
  nd : M.loc.Nodup
  hid : ∀ a ∈ M.hid, H a ≠ none
structure RS (K : PySem.W.Frag) (H : Hp) (M : Ad) (σ : St) (e : Env) : Prop where
  len : σ.length = e.length
  at_ : ∀ (i : Nat) (w : W), e[i]? = some (some w) → ∃ v, σ[i]? = some (some v) ∧ RW K H M v w

/-! ### how the heap goes on -/
structure Go (M : Ad) (H : Hp) (M' : Ad) (H' : Hp) : Prop where
  ext : ∃ nw, M'.loc = M.loc ++ nw ∧ ∀ a ∈ nw, H a = none
  hid : M'.hid = M.hid
  st : ∀ a o, H a = some o → a ∉ M.loc → (∀ ps, o ≠ .tbl ps) → H' a = some o
  dom : ∀ a, H' a = none → H a = none
section
variable {K : PySem.W.Frag} {C : Ct} {M M' M2 : Ad} {H H' H2 : Hp} {m m' : Sto} {σ : St} {e : Env} {v : V} {w : W} {a : Addr} {o : HO} {xs : List V}
theorem Go.refl : Go M H M H := ⟨⟨[], by simp, by simp⟩, rfl, fun _ _ h _ _ => h, fun _ h => h⟩
theorem Go.notin (g : Go M H M' H') (h : H a = some o) (n : a ∉ M.loc) : a ∉ M'.loc := by
  obtain ⟨nw, e, hn⟩ := g.ext
  rw [e]
  intro z
  rcases List.mem_append.mp z with z | z
  · exact n z
  · rw [hn a z] at h; cases h
theorem Go.free (g : Go M H M' H') (h : H a = some o) (n : M.free a) : M'.free a := ⟨g.notin h n.1, by rw [g.hid]; exact n.2⟩
theorem Go.trans (g : Go M H M' H') (k : Go M' H' M2 H2) : Go M H M2 H2 := by
  refine ⟨?_, k.hid.trans g.hid, fun a o h n t => k.st a o (g.st a o h n t) (g.notin h n) t, fun a h => g.dom a (k.dom a h)⟩
  obtain ⟨nw, e1, hn⟩ := id g.ext
  obtain ⟨nw2, e2, hn2⟩ := k.ext
  refine ⟨nw ++ nw2, by rw [e2, e1, List.append_assoc], fun a ha => ?_⟩
  rcases List.mem_append.mp ha with z | z
  · exact hn a z
  · exact g.dom a (hn2 a z)
theorem Go.at_ (g : Go M H M' H') {n : Nat} (h : M.loc[n]? = some a) : M'.loc[n]? = some a := by
  obtain ⟨nw, e, _⟩ := g.ext
  rw [e, List.getElem?_append_left (List.getElem?_eq_some_iff.mp h).1]; exact h
theorem Go.rdl (g : Go M H M' H') (h : Rd H a (.lst xs)) (n : M.free a) : Rd H' a (.lst xs) ∧ M'.free a := by
  rcases h with h | ⟨o, h⟩
  · exact ⟨.inl (g.st _ _ h n.1 (by intro ps z; cases z)), g.free h n⟩
  · exact ⟨.inr ⟨o, g.st _ _ h n.1 (by intro ps z; cases z)⟩, g.free h n⟩
theorem Go.rdt (g : Go M H M' H') (h : Rd H a (.tup xs)) (n : M.free a) : Rd H' a (.tup xs) ∧ M'.free a := by
  rcases h with h | ⟨o, h⟩
  · exact ⟨.inl (g.st _ _ h n.1 (by intro ps z; cases z)), g.free h n⟩
  · exact ⟨.inr ⟨o, g.st _ _ h n.1 (by intro ps z; cases z)⟩, g.free h n⟩
theorem FzL.go (h : FzL K H M a xs) (g : Go M H M' H') : FzL K H' M' a xs := h.imp (fun z => g.rdl z.1 z.2) id
theorem FzT.go (h : FzT K H M a xs) (g : Go M H M' H') : FzT K H' M' a xs := h.imp (fun z => g.rdt z.1 z.2) id
mutual
theorem Rp.go (g : Go M H M' H') : ∀ {d : PyData} {v : V}, Rp K H M v d → Rp K H' M' v d
  | .none, _, h => by cases h; exact .non
  | .bool _, _, h => by cases h; exact .bl _
  | .int _, _, h => by cases h; exact .int _
  | .str _, _, h => by cases h; exact .str _
  | .list ds, _, h => by cases h with | lst a b => exact .lst (a.go g) (RpA.go g b)
  | .tuple ds, _, h => by cases h with | tup a b => exact .tup (a.go g) (RpA.go g b)
  | .dict _, _, h => by cases h
theorem RpA.go (g : Go M H M' H') : ∀ {ds : List PyData} {vs : List V}, RpA K H M vs ds → RpA K H' M' vs ds
  | [], _, h => by cases h; exact .nil
  | _ :: _, _, h => by cases h with | cons a b => exact .cons (Rp.go g a) (RpA.go g b)
end
theorem RW.go (g : Go M H M' H') (h : RW K H M v w) : RW K H' M' v w := by
  cases w with
  | d x => exact Rp.go g h
  | loc n => obtain ⟨a, e, h⟩ := h; exact ⟨a, e, g.at_ h⟩
theorem RWs.go (g : Go M H M' H') {vs : List V} {ws : List W} (h : RWs K H M vs ws) : RWs K H' M' vs ws := by
  induction h with
  | nil => exact .nil
  | cons a _ ih => exact .cons (a.go g) ih
theorem RWs.len {vs : List V} {ws : List W} (h : RWs K H M vs ws) : vs.length = ws.length := by
  induction h with
  | nil => rfl
  | cons _ _ ih => simp [ih]
theorem RWs.get {vs : List V} {ws : List W} (h : RWs K H M vs ws) : ∀ {i : Nat} {w : W}, ws[i]? = some w → ∃ v, vs[i]? = some v ∧ RW K H M v w := by
  induction h with
  | nil => intro i w e; simp at e
  | cons a _ ih =>
    intro i w e
    cases i with
    | zero => simp at e; subst e; exact ⟨_, rfl, a⟩
    | succ i => obtain ⟨v, e1, e2⟩ := ih (i := i) (by simpa using e); exact ⟨v, by simpa using e1, e2⟩
theorem RWs.app {vs us : List V} {ws zs : List W} (h : RWs K H M vs ws) (k : RWs K H M us zs) : RWs K H M (vs ++ us) (ws ++ zs) := by
  induction h with
  | nil => exact k
  | cons a _ ih => exact .cons a ih
theorem RWs.set {vs : List V} {ws : List W} {v : V} {w : W} (h : RWs K H M vs ws) (r : RW K H M v w) : ∀ (i : Nat), RWs K H M (vs.set i v) (ws.set i w) := by
  induction h with
  | nil => intro i; exact .nil
  | cons a t ih =>
    intro i
    cases i with
    | zero => exact .cons r t
    | succ i => exact .cons a (ih i)
theorem RS.go (g : Go M H M' H') (h : RS K H M σ e) : RS K H' M' σ e := ⟨h.len, fun i w q => let ⟨v, e, r⟩ := h.at_ i w q; ⟨v, e, r.go g⟩⟩
theorem RS.set (h : RS K H M σ e) (r : RW K H M v w) (i : Nat) : RS K H M (σ.set i (some v)) (e.set i (some w)) := by
  refine ⟨by simp [h.len], fun j w' q => ?_⟩
  by_cases hj : i = j
  · subst hj
    by_cases hl : i < e.length
    · rw [List.getElem?_set_self hl] at q
      cases q
      exact ⟨v, by rw [List.getElem?_set_self (by rw [h.len]; exact hl)], r⟩
    · rw [List.getElem?_eq_none (by simpa using hl)] at q; cases q
  · rw [List.getElem?_set_ne hj] at q ⊢
    exact h.at_ j w' q
theorem CellOk.go (g : Go M H M' H') {c : Cell} (hc : CellOk K H M a c) (hs : H' a = H a) : CellOk K H' M' a c := by
  cases c with
  | lst ws => obtain ⟨vs, h1, h2⟩ := hc; exact ⟨vs, by rw [hs]; exact h1, h2.go g⟩

/-! ### the ends of a computation -/
def Post {α : Type} (C : Ct) (Ex : Str → Sto → Ad → Hp → Prop) (M : Ad) (H : Hp) (r : R α) (Kk : α → Ad → Sto → Hp → Prop) : Prop :=
  match r with
  | .ok x m => ∀ M' H', Go M H M' H' → Ok C M' m H' → Kk x M' m H'
  | .exc x m => ∀ M' H', Go M H M' H' → Ok C M' m H' → Ex x m M' H'
  | .bad => False
theorem Post.go {α : Type} {Ex : Str → Sto → Ad → Hp → Prop} {r : R α} {Kk : α → Ad → Sto → Hp → Prop} (g : Go M H M' H') (h : Post C Ex M H r Kk) : Post C Ex M' H' r Kk := by
  cases r with
  | ok x m => exact fun M2 H2 k o => h M2 H2 (g.trans k) o
  | exc x m => exact fun M2 H2 k o => h M2 H2 (g.trans k) o
  | bad => exact h
theorem Post.bind {α β : Type} {Ex : Str → Sto → Ad → Hp → Prop} {r : R α} {f : α → Sto → R β} {Kk : β → Ad → Sto → Hp → Prop} (h : Post C Ex M H (r.bind f) Kk) :
    Post C Ex M H r fun x M1 m1 H1 => Post C Ex M1 H1 (f x m1) Kk := by
  cases r with
  | ok x m => exact fun M1 H1 g _ => Post.go g h
  | exc x m => exact h
  | bad => exact h
theorem Post.mono {α : Type} {Ex : Str → Sto → Ad → Hp → Prop} {r : R α} {Kk Kk' : α → Ad → Sto → Hp → Prop} (h : Post C Ex M H r Kk) (k : ∀ x M1 m1 H1, Go M H M1 H1 → Ok C M1 m1 H1 → Kk x M1 m1 H1 → Kk' x M1 m1 H1) : Post C Ex M H r Kk' := by
  cases r with
  | ok x m => exact fun M1 H1 g o => k _ _ _ _ g o (h M1 H1 g o)
  | exc x m => exact h
  | bad => exact h
end
/-- what an exception wishes, from a context's wish -/
abbrev ExW (C : Ct) (Wx : WX) (σ : St) : Str → Sto → Ad → Hp → Prop := fun x _ _ H' => Wx (.ref (C.xa x)) none σ H'
/-- an expression, a test, an argument list -/
abbrev FE := Env → Sto → R W
abbrev FT := Env → Sto → R Bool
abbrev FA := Env → Sto → R (List W)
def tE (C : Ct) (Wx : WX) (f : FE) : TE := fun σ H Q => ∃ M m e, Ok C M m H ∧ RS C.K H M σ e ∧ Post C (ExW C Wx σ) M H (f e m) fun w M' m' H' => ∀ v, RW C.K H' M' v w → Q v H'
def tT (C : Ct) (Wx : WX) (f : FT) : TT := fun σ H Q => ∃ M m e, Ok C M m H ∧ RS C.K H M σ e ∧ Post C (ExW C Wx σ) M H (f e m) fun b M' m' H' => Q b H'
def tA (C : Ct) (Wx : WX) (f : FA) : TA := fun σ H Q => ∃ M m e, Ok C M m H ∧ RS C.K H M σ e ∧ Post C (ExW C Wx σ) M H (f e m) fun ws M' m' H' => ∀ vs, RWs C.K H' M' vs ws → Q vs H'
structure DE (X : Cx) (C : Ct) (Wx : WX) (e : Expr) (f : FE) : Prop where
  pe : PE X e (tE C Wx f)
structure DT (X : Cx) (C : Ct) (Wx : WX) (e : Expr) (f : FT) : Prop where
  pt : PT X e (tT C Wx f)
structure DW (X : Cx) (C : Ct) (Wx : WX) (e : Expr) (f : FT) : Prop where
  pw : PW X e (tT C Wx f)
structure DA (X : Cx) (C : Ct) (Wx : WX) (es : List Expr) (f : FA) : Prop where
  pa : PA X es (tA C Wx f)
theorem PE_imp {X : Cx} {e : Expr} {t t' : TE} (h : PE X e t) (i : ∀ σ H Q, t' σ H Q → t σ H Q) : PE X e t' := ⟨fun pins s σ H Q I q => h.run pins s σ H Q I (i _ _ _ q)⟩
theorem PT_imp {X : Cx} {e : Expr} {t t' : TT} (h : PT X e t) (i : ∀ σ H Q, t' σ H Q → t σ H Q) : PT X e t' := ⟨fun pins s σ H Q I q => h.run pins s σ H Q I (i _ _ _ q)⟩
theorem PW_imp {X : Cx} {e : Expr} {t t' : TT} (h : PW X e t) (i : ∀ σ H Q, t' σ H Q → t σ H Q) : PW X e t' := ⟨fun wh pins s σ H Q I q => h.run wh pins s σ H Q I (i _ _ _ q)⟩
theorem PA_imp {X : Cx} {es : List Expr} {t t' : TA} (h : PA X es t) (i : ∀ σ H Q, t' σ H Q → t σ H Q) : PA X es t' := ⟨fun pos pins s σ H Q I q => h.run pos pins s σ H Q I (i _ _ _ q)⟩
theorem PS_imp {X : Cx} {st : Stmt} {t t' : TS} (h : PS X st t) (i : ∀ D σ H, t' D σ H → t D σ H) : PS X st t' := ⟨fun pins s σ H D I q => h.run pins s σ H D I (i _ _ _ q)⟩
theorem PSs_imp {X : Cx} {st : List Stmt} {t t' : TS} (h : PSs X st t) (i : ∀ D σ H, t' D σ H → t D σ H) : PSs X st t' := ⟨fun pins s σ H D I q => h.run pins s σ H D I (i _ _ _ q)⟩
/-- from a reading on, at a later heap -/
theorem tE_at {C : Ct} {Wx : WX} {f : FE} {σ : St} {H : Hp} {Q : VK} {M : Ad} {m : Sto} {e : Env} (o : Ok C M m H) (r : RS C.K H M σ e)
    (h : Post C (ExW C Wx σ) M H (f e m) fun w M' m' H' => ∀ v, RW C.K H' M' v w → Q v H') : tE C Wx f σ H Q := ⟨M, m, e, o, r, h⟩
theorem tT_at {C : Ct} {Wx : WX} {f : FT} {σ : St} {H : Hp} {Q : Bool → Hp → Prop} {M : Ad} {m : Sto} {e : Env} (o : Ok C M m H) (r : RS C.K H M σ e)
    (h : Post C (ExW C Wx σ) M H (f e m) fun b M' m' H' => Q b H') : tT C Wx f σ H Q := ⟨M, m, e, o, r, h⟩
theorem tA_at {C : Ct} {Wx : WX} {f : FA} {σ : St} {H : Hp} {Q : List V → Hp → Prop} {M : Ad} {m : Sto} {e : Env} (o : Ok C M m H) (r : RS C.K H M σ e)
    (h : Post C (ExW C Wx σ) M H (f e m) fun ws M' m' H' => ∀ vs, RWs C.K H' M' vs ws → Q vs H') : tA C Wx f σ H Q := ⟨M, m, e, o, r, h⟩
/-- the common step: a sub-expression's result, then the rest -/
theorem tE_bind {C : Ct} {Wx : WX} {f : FE} {σ : St} {H : Hp} {M : Ad} {m : Sto} {e : Env} {β : Type} {g : W → Sto → R β} {Kk : β → Ad → Sto → Hp → Prop} {Q : VK} (o : Ok C M m H) (r : RS C.K H M σ e)
    (h : Post C (ExW C Wx σ) M H ((f e m).bind g) Kk) (k : ∀ v w M' m' H', Go M H M' H' → Ok C M' m' H' → RS C.K H' M' σ e → RW C.K H' M' v w → Post C (ExW C Wx σ) M' H' (g w m') Kk → Q v H') : tE C Wx f σ H Q :=
  tE_at o r (Post.mono h.bind fun w M1 m1 H1 gg oo q v rv => k v w M1 m1 H1 gg oo (r.go gg) rv q)
theorem tT_bind {C : Ct} {Wx : WX} {f : FT} {σ : St} {H : Hp} {M : Ad} {m : Sto} {e : Env} {β : Type} {g : Bool → Sto → R β} {Kk : β → Ad → Sto → Hp → Prop} {Q : Bool → Hp → Prop} (o : Ok C M m H) (r : RS C.K H M σ e)
    (h : Post C (ExW C Wx σ) M H ((f e m).bind g) Kk) (k : ∀ b M' m' H', Go M H M' H' → Ok C M' m' H' → RS C.K H' M' σ e → Post C (ExW C Wx σ) M' H' (g b m') Kk → Q b H') : tT C Wx f σ H Q :=
  tT_at o r (Post.mono h.bind fun b M1 m1 H1 gg oo q => k b M1 m1 H1 gg oo (r.go gg) q)
theorem tA_bind {C : Ct} {Wx : WX} {f : FA} {σ : St} {H : Hp} {M : Ad} {m : Sto} {e : Env} {β : Type} {g : List W → Sto → R β} {Kk : β → Ad → Sto → Hp → Prop} {Q : List V → Hp → Prop} (o : Ok C M m H) (r : RS C.K H M σ e)
    (h : Post C (ExW C Wx σ) M H ((f e m).bind g) Kk) (k : ∀ vs ws M' m' H', Go M H M' H' → Ok C M' m' H' → RS C.K H' M' σ e → RWs C.K H' M' vs ws → Post C (ExW C Wx σ) M' H' (g ws m') Kk → Q vs H') : tA C Wx f σ H Q :=
  tA_at o r (Post.mono h.bind fun w M1 m1 H1 gg oo q v rv => k v w M1 m1 H1 gg oo (r.go gg) rv q)
/-- an immediate end -/
theorem Post.now {α : Type} {C : Ct} {Ex : Str → Sto → Ad → Hp → Prop} {M : Ad} {H : Hp} {x : α} {m : Sto} {Kk : α → Ad → Sto → Hp → Prop} (h : Post C Ex M H (.ok x m) Kk) (o : Ok C M m H) : Kk x M m H := h M H Go.refl o
theorem Ok.mo {C : Ct} {M : Ad} {m : Sto} {H H' : Hp} (o : Ok C M m H) (g : Go M H M H') (k : ∀ a ∈ M.loc, H' a = H a) (t : ∀ P ∈ C.T, GxR.TabG H' P) : Ok C M m H' :=
  ⟨t, o.len, fun n a c e1 e2 => CellOk.go g (o.cell n a c e1 e2) (k a (List.mem_of_getElem? e1)), o.nd, fun a ha z => o.hid a ha (g.dom a z)⟩
/-- a cell's address is tracked -/
theorem Ok.there {C : Ct} {M : Ad} {m : Sto} {H : Hp} (o : Ok C M m H) {a : Addr} (h : a ∈ M.loc) : H a ≠ none := by
  obtain ⟨n, hn, e⟩ := List.getElem_of_mem h
  have e1 : M.loc[n]? = some a := by rw [List.getElem?_eq_getElem hn, e]
  have hm : n < m.length := by rw [← o.len]; exact hn
  have := o.cell n a _ e1 (List.getElem?_eq_getElem hm)
  cases hc : m[n] with
  | lst ws => rw [hc] at this; obtain ⟨vs, h1, _⟩ := this; rw [h1]; simp
/-- a new object laid that is no changing one -/
theorem Go.new {M : Ad} {H : Hp} {p : Addr} {o : HO} (h : H p = none) : Go M H M (upd H p o) :=
  ⟨⟨[], by simp, by simp⟩, rfl, fun a u e _ _ => by rw [upd_ne (ne_of_none e h)]; exact e, fun a e => by
    by_cases z : a = p
    · subst z; exact h
    · rw [upd_ne z] at e; exact e⟩
theorem Ok.new {C : Ct} {M : Ad} {m : Sto} {H : Hp} (o : Ok C M m H) {p : Addr} {u : HO} (h : H p = none) : Ok C M m (upd H p u) :=
  o.mo (Go.new h) (fun a ha => upd_ne fun z => o.there ha (by rw [z]; exact h)) fun P hP => by
    obtain ⟨ps, e, t⟩ := o.tab P hP
    exact ⟨ps, by rw [upd_ne (ne_of_none e h)]; exact e, t⟩
theorem Ok.free {C : Ct} {M : Ad} {m : Sto} {H : Hp} (o : Ok C M m H) {p : Addr} (h : H p = none) : M.free p := ⟨fun z => o.there z h, fun z => o.hid p z h⟩
end Pd

set_option Elab.async false
set_option linter.all false
set_option maxRecDepth 100000
set_option maxHeartbeats 1000000
namespace Pd
open PySem PySem.Spec PyProof.Rows L2
section
variable {X : Cx} {C : Ct} {Wx : WX} {a b c : Expr} {f g h : FE} {t u : FT} {pos : Pos}
/-! ### names, constants -/
def eVar (i : Nat) : FE := fun e m => match e[i]? with
  | some (some w) => .ok w m
  | _ => .bad
def eC (d : PyData) : FE := fun _ m => .ok (.d d) m
theorem de_var (i : Nat) {x : Str} (hN : X.N[i]? = some x := by rfl) (hv : Vis X.env.scope x := by first | exact Or.inl rfl | exact Or.inr (Or.inl rfl) | exact Or.inr (Or.inr rfl)) (hd : (x == ("__debug__" : Str)) = false := by decide)
    (hcd : (x == ("__classdict__" : Str)) = false := by decide) : DE X C Wx (.Name x pos) (eVar i) := ⟨PE_imp (pv i hN hv hd hcd) fun σ H Q ⟨M, m, e, o, r, q⟩ => by
  unfold eVar at q
  cases hx : e[i]? with
  | none => rw [hx] at q; exact q.elim
  | some ow =>
    cases ow with
    | none => rw [hx] at q; exact q.elim
    | some w =>
      rw [hx] at q
      obtain ⟨v, e1, e2⟩ := r.at_ i w hx
      exact ⟨v, e1, q.now o v e2⟩⟩
theorem de_c {d : PyData} {v : V} {e : Expr} (hp : PE X e (tC v)) (r : ∀ H M, Rp C.K H M v d) : DE X C Wx e (eC d) := ⟨PE_imp hp fun σ H Q ⟨M, m, e, o, _, q⟩ => q.now o v (r H M)⟩
theorem de_int {i : Int} {j : Nat} : DE X C Wx (.Constant (.int i) j pos) (eC (.int i)) := de_c pe_int fun _ _ => .int i
theorem de_bl {k : Bool} {j : Nat} : DE X C Wx (.Constant (.bool k) j pos) (eC (.bool k)) := de_c pe_bl fun _ _ => .bl k
theorem de_non {j : Nat} : DE X C Wx (.Constant .none j pos) (eC .none) := de_c pe_non fun _ _ => .non
theorem de_str {x : Str} {j : Nat} : DE X C Wx (.Constant (.str x) j pos) (eC (.str x)) := de_c pe_str fun _ _ => .str x
theorem de_globI {x : Str} {i : Int} {tk : Tok} (hm : X.mg x = some (.int i tk)) (hg : Gl X x := by rfl) (hd : (x == ("__debug__" : Str)) = false := by decide) : DE X C Wx (.Name x pos) (eC (.int i)) :=
  de_c (pe_glob hg hm (v := .int i) ⟨tk, rfl⟩ hd) fun _ _ => .int i
/-! ### two-place operations -/
def OpD (C : Ct) (Wx : WX) (r : R2) (p : W → W → Sto → R W) : Prop := ∀ {σ : St} {M : Ad} {m : Sto} {H : Hp} {x y : V} {w z : W} {Q : VK}, Ok C M m H → RW C.K H M x w → RW C.K H M y z →
  Post C (ExW C Wx σ) M H (p w z m) (fun w' M' m' H' => ∀ v, RW C.K H' M' v w' → Q v H') → r x y H Q
def eBin (p : W → W → Sto → R W) (f g : FE) : FE := fun e m => (f e m).bind fun x m1 => (g e m1).bind fun y m2 => p x y m2
theorem tOp_of {r : R2} {p : W → W → Sto → R W} (hd : OpD C Wx r p) : ∀ σ H Q, tE C Wx (eBin p f g) σ H Q → tOp r (tE C Wx f) (tE C Wx g) σ H Q := fun σ H Q ⟨M, m, e, o, rs, q⟩ =>
  tE_bind o rs q fun v w M1 m1 H1 g1 o1 r1 rv q1 => tE_bind o1 r1 q1 fun v2 w2 M2 m2 H2 g2 o2 r2 rv2 q2 => hd o2 (rv.go g2) rv2 q2
theorem de_bin {op : Operator} {r : R2} {p : W → W → Sto → R W} (ho : OpR X (binaryOp op) r) (hd : OpD C Wx r p) (ha : DE X C Wx a f) (hb : DE X C Wx b g) : DE X C Wx (.BinOp a op b pos) (eBin p f g) :=
  ⟨PE_imp (pe_op ho ha.pe hb.pe) (tOp_of hd)⟩
theorem de_cmp {op : CmpOp} {r : R2} {p : W → W → Sto → R W} (ho : OpR X (compareOp op) r) (hd : OpD C Wx r p) (ha : DE X C Wx a f) (hb : DE X C Wx b g) (hm : behindInMarks op b = false := by with_unfolding_all rfl) : DE X C Wx (.Compare a [op] [b] pos) (eBin p f g) :=
  ⟨PE_imp (pe_cmpR ho ha.pe hb.pe hm) (tOp_of hd)⟩
theorem de_ix {r : R2} {p : W → W → Sto → R W} (ho : IxR X r) (hd : OpD C Wx r p) (ha : DE X C Wx a f) (hb : DE X C Wx b g) (hs : PlainIx b := by exact fun _ _ => rfl) : DE X C Wx (.Subscript a b pos) (eBin p f g) :=
  ⟨PE_imp (pe_ix ho ha.pe hb.pe hs) (tOp_of hd)⟩
/-- by two rules -/
theorem OpD.or {r r' : R2} {p p' : W → W → Sto → R W} (h : OpD C Wx r p) (h' : OpD C Wx r' p') : OpD C Wx (fun x y H Q => r x y H Q ∨ r' x y H Q) (fun w z m => match p w z m with | .bad => p' w z m | z => z) := by
  intro σ M m H x y w z Q o rx ry q
  simp only at q
  cases e : p w z m with
  | bad => rw [e] at q; exact .inr (h' o rx ry q)
  | ok k m' => rw [e] at q; refine .inl (h (σ := σ) o rx ry ?_); rw [e]; exact q
  | exc k m' => rw [e] at q; refine .inl (h (σ := σ) o rx ry ?_); rw [e]; exact q
/-- ints -/
def oI (gd : Int → Int → Option PyData) : W → W → Sto → R W
  | .d (.int i), .d (.int j), m => match gd i j with
    | some d => .ok (.d d) m
    | none => .bad
  | _, _, _ => .bad
theorem opd_rI {Cn : Int → Int → Prop} {gv : Int → Int → V} {gd : Int → Int → Option PyData} (hg : ∀ i j d, gd i j = some d → Cn i j ∧ ∀ H M, Rp C.K H M (gv i j) d) : OpD C Wx (rI Cn gv) (oI gd) := by
  intro σ M m H x y w z Q o rx ry q
  unfold oI at q
  split at q
  · rename_i i j
    cases rx; cases ry
    cases e : gd i j with
    | none => rw [e] at q; exact q.elim
    | some d =>
      rw [e] at q
      obtain ⟨h1, h2⟩ := hg i j d e
      exact ⟨i, j, rfl, rfl, h1, q.now o _ (h2 H M)⟩
  · exact q.elim
theorem opd_rI0 {gv : Int → Int → V} {gd : Int → Int → Option PyData} (hg : ∀ i j d, gd i j = some d → ∀ H M, Rp C.K H M (gv i j) d) : OpD C Wx (rI0 gv) (oI gd) := by
  intro σ M m H x y w z Q o rx ry q
  obtain ⟨i, j, h1, h2, _, h3⟩ := opd_rI (C := C) (Wx := Wx) (Cn := fun _ _ => True) (gv := gv) (fun i j d e => ⟨trivial, hg i j d e⟩) o rx ry q
  exact ⟨i, j, h1, h2, h3⟩
def pAdd := oI fun i j => some (.int (i + j))
def pSub := oI fun i j => some (.int (i - j))
def pMul := oI fun i j => if (-(2 ^ 64) < i ∧ i < 2 ^ 64) ∨ (-(2 ^ 64) < j ∧ j < 2 ^ 64) then some (.int (i * j)) else none
def pDiv := oI fun i j => if 0 < j ∧ j < 1073741824 then some (.int (i / j)) else none
def pMod := oI fun i j => if 0 < j then some (.int (i % j)) else none
def pPow := oI fun i j => if 0 ≤ j ∧ j ≤ 1000000 ∧ i.natAbs < 2 ^ 64 then some (.int (i ^ j.toNat)) else none
theorem od_add : OpD C Wx (rI0 fun i j => .int (i + j)) pAdd := opd_rI0 fun i j d e H M => by cases e; exact .int _
theorem od_sub : OpD C Wx (rI0 fun i j => .int (i - j)) pSub := opd_rI0 fun i j d e H M => by cases e; exact .int _
theorem ite_some {p : Prop} [Decidable p] {α : Type} {x y : α} (e : (if p then some x else none) = some y) : p ∧ x = y := by
  by_cases h : p
  · rw [if_pos h] at e; exact ⟨h, Option.some.inj e⟩
  · rw [if_neg h] at e; cases e
theorem od_mul : OpD C Wx (rI CMul fun i j => .int (i * j)) pMul := opd_rI fun i j d e => by obtain ⟨h, rfl⟩ := ite_some e; exact ⟨h, fun _ _ => .int _⟩
theorem od_div : OpD C Wx (rI CDiv fun i j => .int (i / j)) pDiv := opd_rI fun i j d e => by obtain ⟨h, rfl⟩ := ite_some e; exact ⟨h, fun _ _ => .int _⟩
theorem od_mod : OpD C Wx (rI (fun _ j => 0 < j) fun i j => .int (i % j)) pMod := opd_rI fun i j d e => by obtain ⟨h, rfl⟩ := ite_some e; exact ⟨h, fun _ _ => .int _⟩
theorem od_pow : OpD C Wx (rI CPow fun i j => .int (i ^ j.toNat)) pPow := opd_rI fun i j d e => by obtain ⟨h, rfl⟩ := ite_some e; exact ⟨h, fun _ _ => .int _⟩
theorem de_add (ha : DE X C Wx a f) (hb : DE X C Wx b g) : DE X C Wx (.BinOp a .Add b pos) (eBin pAdd f g) := de_bin op_add od_add ha hb
theorem de_sub (ha : DE X C Wx a f) (hb : DE X C Wx b g) : DE X C Wx (.BinOp a .Sub b pos) (eBin pSub f g) := de_bin op_sub od_sub ha hb
theorem de_mul (ha : DE X C Wx a f) (hb : DE X C Wx b g) : DE X C Wx (.BinOp a .Mult b pos) (eBin pMul f g) := de_bin op_mul od_mul ha hb
theorem de_div (ha : DE X C Wx a f) (hb : DE X C Wx b g) : DE X C Wx (.BinOp a .FloorDiv b pos) (eBin pDiv f g) := de_bin op_fdiv od_div ha hb
theorem de_mod (ha : DE X C Wx a f) (hb : DE X C Wx b g) : DE X C Wx (.BinOp a .Mod b pos) (eBin pMod f g) := de_bin op_mod od_mod ha hb
theorem de_pow (ha : DE X C Wx a f) (hb : DE X C Wx b g) : DE X C Wx (.BinOp a .Pow b pos) (eBin pPow f g) := de_bin op_pow od_pow ha hb
/-- texts, tuples, lists put together -/
def pCatS : W → W → Sto → R W
  | .d (.str x), .d (.str y), m => if x.length + y.length ≤ sizeLine then .ok (.d (.str (x ++ y))) m else .bad
  | _, _, _ => .bad
theorem od_catS : OpD C Wx (fun x y H Q => ∃ i j, x = .str i ∧ y = .str j ∧ i.length + j.length ≤ sizeLine ∧ Q (.str (i ++ j)) H) pCatS := by
  intro σ M m H x y w z Q o rx ry q
  unfold pCatS at q
  split at q
  · rename_i i j
    cases rx; cases ry
    split at q
    · rename_i h; exact ⟨_, _, rfl, rfl, h, q.now o _ (.str _)⟩
    · exact q.elim
  · exact q.elim
def pCatT : W → W → Sto → R W
  | .d (.tuple xs), .d (.tuple ys), m => if xs ≠ [] ∧ xs.length + ys.length ≤ sizeLine then .ok (.d (.tuple (xs ++ ys))) m else .bad
  | _, _, _ => .bad
theorem RpA.ne {K : PySem.W.Frag} {H : Hp} {M : Ad} {ds : List PyData} {vs : List V} (h : RpA K H M vs ds) : vs = [] ↔ ds = [] := by
  cases h <;> simp
theorem Rp.newT {C : Ct} {M : Ad} {m : Sto} {H : Hp} {p : Addr} {vs : List V} {ds : List PyData} (o : Ok C M m H) (hp : H p = none) (r : RpA C.K H M vs ds) : Rp C.K (upd H p (.tup vs)) M (.ref p) (.tuple ds) :=
  .tup (.inl ⟨.inl upd_same, o.free hp⟩) (RpA.go (Go.new hp) r)
theorem Rp.newL {C : Ct} {M : Ad} {m : Sto} {H : Hp} {p : Addr} {vs : List V} {ds : List PyData} (o : Ok C M m H) (hp : H p = none) (r : RpA C.K H M vs ds) : Rp C.K (upd H p (.lst vs)) M (.ref p) (.list ds) :=
  .lst (.inl ⟨.inl upd_same, o.free hp⟩) (RpA.go (Go.new hp) r)
theorem od_catT : OpD C Wx (rCatT C.K) pCatT := by
  intro σ M m H x y w z Q o rx ry q
  unfold pCatT at q
  split at q
  · rename_i xs ys
    cases rx with | tup h1 h2 =>
    cases ry with | tup h3 h4 =>
    split at q
    · rename_i h
      refine ⟨_, _, _, _, rfl, rfl, h1.sq, h3.sq, fun z => h.1 (h2.ne.mp z), by rw [h2.len, h4.len]; exact h.2, fun z => ?_, fun z p hp => ?_⟩
      · have e : ys = [] := h4.ne.mp z
        subst e
        rw [List.append_nil] at q
        exact q.now o _ (Rp.tup h1 h2)
      · exact q _ _ (Go.new hp) (o.new hp) _ (Rp.newT o hp (h2.app h4))
    · exact q.elim
  · exact q.elim
/-- two frozen lists; the rule of the layer wants tracked ones: here any -/
def rCatL (K : PySem.W.Frag) : R2 := fun x y H Q => ∃ l b xs zs, x = .ref l ∧ y = .ref b ∧ SqL K H l xs ∧ SqL K H b zs ∧ xs.length + zs.length ≤ sizeLine ∧ ∀ p, H p = none → Q (.ref p) (upd H p (.lst (xs ++ zs)))
theorem op_catL : OpR X (binaryOp .Add) (rCatL X.K) := by
  intro pins s σ H x y v u Q I rx ry h
  obtain ⟨l, b, xs, zs, rfl, rfl, hH, hB, hz, q⟩ := h
  cases rx
  cases ry
  obtain ⟨its, r, ⟨⟨oc, od, odt, osl⟩, n, e, c1, c2, c3⟩, _⟩ := I.list hH
  obtain ⟨its2, r2, ⟨⟨oc2, od2, odt2, osl2⟩, n2, e2, d1, d2, d3⟩, _⟩ := I.list hB
  simp only at c1 c2 c3 d1 d2 d3
  subst c1 c2 c3 d1 d2 d3
  have e1l := r.length
  have e2l := r2.length
  have ea : its.toArray ++ its2.toArray = (its ++ its2).toArray := by simp
  refine concat_meets ⟨_, e, rfl⟩ ⟨_, e2, rfl⟩ noFill_list_add seq_list_add PySem.F.slot_list_add PySem.F.entry_list_add (PySem.F.args_list_add_2 _ _) (list_addW l b its.toArray its2.toArray n n2 none none osl osl2 (by rw [List.size_toArray, List.size_toArray]; omega)) ⟨e, e2, ?_⟩
  rw [ea]
  exact ⟨.ref _, _, I.lnew (t' := s.toks) (r.append r2) (by rw [List.length_append]; omega), rfl, q _ I.fresh⟩
def pCatL : W → W → Sto → R W
  | .d (.list xs), .d (.list ys), m => if xs.length + ys.length ≤ sizeLine then .ok (.d (.list (xs ++ ys))) m else .bad
  | _, _, _ => .bad
theorem od_catL : OpD C Wx (rCatL C.K) pCatL := by
  intro σ M m H x y w z Q o rx ry q
  unfold pCatL at q
  split at q
  · rename_i xs ys
    cases rx with | lst h1 h2 =>
    cases ry with | lst h3 h4 =>
    split at q
    · rename_i h
      exact ⟨_, _, _, _, rfl, rfl, h1.sq, h3.sq, by rw [h2.len, h4.len]; exact h, fun p hp => q _ _ (Go.new hp) (o.new hp) _ (Rp.newL o hp (h2.app h4))⟩
    · exact q.elim
  · exact q.elim
theorem de_catS (ha : DE X C Wx a f) (hb : DE X C Wx b g) : DE X C Wx (.BinOp a .Add b pos) (eBin pCatS f g) := de_bin op_add_str od_catS ha hb
theorem de_catT (ha : DE X C Wx a f) (hb : DE X C Wx b g) (hK : X.K = C.K := by rfl) : DE X C Wx (.BinOp a .Add b pos) (eBin pCatT f g) := de_bin op_catT (by rw [hK]; exact od_catT) ha hb
theorem de_catL (ha : DE X C Wx a f) (hb : DE X C Wx b g) (hK : X.K = C.K := by rfl) : DE X C Wx (.BinOp a .Add b pos) (eBin pCatL f g) := de_bin op_catL (by rw [hK]; exact od_catL) ha hb
/-! ### comparisons -/
def pEq : W → W → Sto → R W
  | .d x, .d y, m => if SeqAt.shaped x = true ∧ SeqAt.shaped y = true then .ok (.d (.bool (PyData.eqv x y))) m else .bad
  | _, _, _ => .bad
def pNe : W → W → Sto → R W
  | .d x, .d y, m => if SeqAt.shaped x = true ∧ SeqAt.shaped y = true then .ok (.d (.bool (!PyData.eqv x y))) m else .bad
  | _, _, _ => .bad
theorem od_eq : OpD C Wx (rEqD C.K) pEq := by
  intro σ M m H x y w z Q o rx ry q
  unfold pEq at q
  split at q
  · split at q
    · rename_i h; exact ⟨_, _, rx.dp, ry.dp, h.1, h.2, q.now o _ (.bl _)⟩
    · exact q.elim
  · exact q.elim
theorem od_ne : OpD C Wx (rNeD C.K) pNe := by
  intro σ M m H x y w z Q o rx ry q
  unfold pNe at q
  split at q
  · split at q
    · rename_i h; exact ⟨_, _, rx.dp, ry.dp, h.1, h.2, q.now o _ (.bl _)⟩
    · exact q.elim
  · exact q.elim
theorem de_eq (hu : X.A.units + 65 < cLine) (ha : DE X C Wx a f) (hb : DE X C Wx b g) (hK : X.K = C.K := by rfl) : DE X C Wx (.Compare a [.Eq] [b] pos) (eBin pEq f g) := de_cmp (op_eqD (by omega)) (by rw [hK]; exact od_eq) ha hb (nomark _)
theorem de_ne (hu : X.A.units + 65 < cLine) (ha : DE X C Wx a f) (hb : DE X C Wx b g) (hK : X.K = C.K := by rfl) : DE X C Wx (.Compare a [.NotEq] [b] pos) (eBin pNe f g) := de_cmp (op_neD (by omega)) (by rw [hK]; exact od_ne) ha hb (nomark _)
/-- order: ints or texts -/
def pOrd (gi : Int → Int → Bool) (gs : Str → Str → Bool) : W → W → Sto → R W
  | .d (.int i), .d (.int j), m => .ok (.d (.bool (gi i j))) m
  | .d (.str i), .d (.str j), m => .ok (.d (.bool (gs i j))) m
  | _, _, _ => .bad
theorem od_ord {gi : Int → Int → Bool} {gs : Str → Str → Bool} : OpD C Wx (fun x y H Q => rI0 (fun i j => .bl (gi i j)) x y H Q ∨ ∃ i j, x = .str i ∧ y = .str j ∧ Q (.bl (gs i j)) H) (pOrd gi gs) := by
  intro σ M m H x y w z Q o rx ry q
  unfold pOrd at q
  split at q
  · cases rx; cases ry; exact .inl ⟨_, _, rfl, rfl, q.now o _ (.bl _)⟩
  · cases rx; cases ry; exact .inr ⟨_, _, rfl, rfl, q.now o _ (.bl _)⟩
  · exact q.elim
def sLt (i j : Str) : Bool := decide (i.cps.toList < j.cps.toList)
def pLt := pOrd (fun i j => decide (i < j)) fun i j => sLt i j
def pLe := pOrd (fun i j => decide (i ≤ j)) fun i j => !sLt j i
def pGt := pOrd (fun i j => decide (j < i)) fun i j => sLt j i
def pGe := pOrd (fun i j => decide (j ≤ i)) fun i j => !sLt i j
theorem de_lt (ha : DE X C Wx a f) (hb : DE X C Wx b g) : DE X C Wx (.Compare a [.Lt] [b] pos) (eBin pLt f g) := de_cmp (op_lt.or op_lt_str) od_ord ha hb (nomark _)
theorem de_le (ha : DE X C Wx a f) (hb : DE X C Wx b g) : DE X C Wx (.Compare a [.LtE] [b] pos) (eBin pLe f g) := de_cmp (op_le.or op_le_str) od_ord ha hb (nomark _)
theorem de_gt (ha : DE X C Wx a f) (hb : DE X C Wx b g) : DE X C Wx (.Compare a [.Gt] [b] pos) (eBin pGt f g) := de_cmp (op_gt.or op_gt_str) od_ord ha hb (nomark _)
theorem de_ge (ha : DE X C Wx a f) (hb : DE X C Wx b g) : DE X C Wx (.Compare a [.GtE] [b] pos) (eBin pGe f g) := de_cmp (op_ge.or op_ge_str) od_ord ha hb (nomark _)
/-- a <= b <= c -/
def eChain (p p' : W → W → Sto → R W) (f g h : FE) : FE := fun e m => (f e m).bind fun x m1 => (g e m1).bind fun y m2 => (p x y m2).bind fun z m3 => match z with
  | .d (.bool true) => (h e m3).bind fun w m4 => p' y w m4
  | .d (.bool false) => .ok (.d (.bool false)) m3
  | _ => .bad
theorem de_chain {op op' : CmpOp} {r r' : R2} {p p' : W → W → Sto → R W} (ho : OpR X (compareOp op) r) (ho' : OpR X (compareOp op') r') (hd : OpD C Wx r p) (hd' : OpD C Wx r' p') (ha : DE X C Wx a f) (hb : DE X C Wx b g) (hc : DE X C Wx c h)
    (hm : lastMarks [op, op'] [b, c] = false := by with_unfolding_all rfl) : DE X C Wx (.Compare a [op, op'] [b, c] pos) (eChain p p' f g h) :=
  ⟨PE_imp (pe_chain ho ho' ha.pe hb.pe hc.pe hm) fun σ H Q ⟨M, m, e, o, rs, q⟩ =>
    tE_bind o rs q fun v w M1 m1 H1 g1 o1 r1 rv q1 => tE_bind o1 r1 q1 fun v2 w2 M2 m2 H2 g2 o2 r2 rv2 q2 => hd (σ := σ) o2 (rv.go g2) rv2 (Post.mono q2.bind fun z M3 m3 H3 g3 o3 q3 v3 rv3 => by
      cases z with
      | loc n => exact q3.elim
      | d z =>
        cases z with
        | bool k =>
          cases rv3
          refine ⟨k, rfl, ?_⟩
          cases k with
          | true => exact tE_bind o3 (r2.go g3) q3 fun v4 w4 M4 m4 H4 g4 o4 r4 rv4 q4 => hd' o4 ((rv2.go g3).go g4) rv4 q4
          | false => exact q3.now o3 _ (Rp.bl false)
        | _ => exact q3.elim)⟩
/-- is None, is True -/
def pIs (k : Bool) : W → W → Sto → R W
  | .d .none, .d .none, m => .ok (.d (.bool k)) m
  | _, .d .none, m => .ok (.d (.bool (!k))) m
  | .d (.bool x), .d (.bool y), m => .ok (.d (.bool (decide (x = y) == k))) m
  | _, _, _ => .bad
theorem od_is : OpD C Wx (fun x y H Q => (y = .non ∧ Q (.bl (decide (x = .non))) H) ∨ rIsB x y H Q) (pIs true) := by
  intro σ M m H x y w z Q o rx ry q
  unfold pIs at q
  split at q
  · cases rx; cases ry; exact .inl ⟨rfl, q.now o _ (Rp.bl true)⟩
  · rename_i hn
    cases ry
    refine .inl ⟨rfl, ?_⟩
    have : decide (x = .non) = false := decide_eq_false fun e => by
      subst e
      cases w with
      | loc n => obtain ⟨_, e, _⟩ := rx; cases e
      | d x => cases rx; exact hn rfl
    rw [this]
    exact q.now o _ (Rp.bl false)
  · rename_i a b
    cases rx; cases ry
    refine .inr ⟨_, _, rfl, rfl, q.now o _ ?_⟩
    show Rp _ _ _ _ _
    rw [show (decide (a = b) == true) = decide (a = b) by cases decide (a = b) <;> rfl]
    exact Rp.bl _
  · exact q.elim
theorem od_isnt : OpD C Wx (fun x y H Q => (y = .non ∧ Q (.bl (!decide (x = .non))) H) ∨ rNotB x y H Q) (pIs false) := by
  intro σ M m H x y w z Q o rx ry q
  unfold pIs at q
  split at q
  · cases rx; cases ry; exact .inl ⟨rfl, q.now o _ (Rp.bl false)⟩
  · rename_i hn
    cases ry
    refine .inl ⟨rfl, ?_⟩
    have : decide (x = .non) = false := decide_eq_false fun e => by
      subst e
      cases w with
      | loc n => obtain ⟨_, e, _⟩ := rx; cases e
      | d x => cases rx; exact hn rfl
    rw [this]
    exact q.now o _ (Rp.bl true)
  · rename_i a b
    cases rx; cases ry
    refine .inr ⟨_, _, rfl, rfl, q.now o _ ?_⟩
    show Rp _ _ _ _ _
    rw [show (decide (a = b) == false) = !decide (a = b) by cases decide (a = b) <;> rfl]
    exact Rp.bl _
  · exact q.elim
theorem de_is (ha : DE X C Wx a f) (hb : DE X C Wx b g) : DE X C Wx (.Compare a [.Is] [b] pos) (eBin (pIs true) f g) := de_cmp (op_isN.or op_isBl) od_is ha hb (nomark _)
theorem de_isnt (ha : DE X C Wx a f) (hb : DE X C Wx b g) : DE X C Wx (.Compare a [.IsNot] [b] pos) (eBin (pIs false) f g) := de_cmp (op_notN.or op_notBl) od_isnt ha hb (nomark _)
/-- in, not in: a text in a text; data in a list or a tuple -/
def rInT (K : PySem.W.Frag) (k : Bool) : R2 := fun x y H Q => ∃ d ds, Dp K H x d ∧ (Dp K H y (.list ds) ∨ Dp K H y (.tuple ds)) ∧ SeqAt.shaped d = true ∧ SeqAt.shaped (.list ds) = true ∧ Q (.bl ((ds.any fun z => PyData.eqv z d) == k)) H
theorem shaped_lt {ds : List PyData} (h : SeqAt.shaped (.list ds) = true) : PyData.canLayAll0 ds = true := SeqAt.canLay_of_shaped h
theorem op_inT (hu : X.A.units + 65 < cLine) : OpR X (compareOp .In) (rInT X.K true) := by
  intro pins s σ H x y v u Q I rx ry h
  obtain ⟨d, ds, hd, he, sd, se, q⟩ := h
  obtain ⟨as, r1⟩ := Dp.reads I d x v hd rx
  rcases he with he | he
  · obtain ⟨bs, r2⟩ := Dp.reads I (.list ds) y u he ry
    exact SeqAt.in_list_reads r2 r1 (SeqAt.canLay_of_shaped se) (SeqAt.canLay_of_shaped sd) (room_in_shaped sd hu) ⟨.bl _, H, I, rfl, by simpa using q⟩
  · obtain ⟨bs, r2⟩ := Dp.reads I (.tuple ds) y u he ry
    exact SeqAt.in_tuple_reads r2 r1 (SeqAt.canLay_of_shaped se) (SeqAt.canLay_of_shaped sd) (room_in_shaped sd hu) ⟨.bl _, H, I, rfl, by simpa using q⟩
theorem op_notInT (hu : X.A.units + 65 < cLine) : OpR X (compareOp .NotIn) (rInT X.K false) := by
  intro pins s σ H x y v u Q I rx ry h
  obtain ⟨d, ds, hd, he, sd, se, q⟩ := h
  obtain ⟨as, r1⟩ := Dp.reads I d x v hd rx
  have e : (!(ds.any fun z => PyData.eqv z d)) = ((ds.any fun z => PyData.eqv z d) == false) := by cases (ds.any fun z => PyData.eqv z d) <;> rfl
  rcases he with he | he
  · obtain ⟨bs, r2⟩ := Dp.reads I (.list ds) y u he ry
    exact SeqAt.notIn_list_reads r2 r1 (SeqAt.canLay_of_shaped se) (SeqAt.canLay_of_shaped sd) (room_in_shaped sd hu) ⟨.bl _, H, I, rfl, by rw [e]; exact q⟩
  · obtain ⟨bs, r2⟩ := Dp.reads I (.tuple ds) y u he ry
    exact SeqAt.notIn_tuple_reads r2 r1 (SeqAt.canLay_of_shaped se) (SeqAt.canLay_of_shaped sd) (room_in_shaped sd hu) ⟨.bl _, H, I, rfl, by rw [e]; exact q⟩
def unW : W → Option PyData
  | .d x => some x
  | .loc _ => none
def unWs : List W → Option (List PyData)
  | [] => some []
  | w :: ws => match unW w, unWs ws with
    | some d, some ds => some (d :: ds)
    | _, _ => none
theorem RWs.un {K : PySem.W.Frag} {H : Hp} {M : Ad} {vs : List V} {ws : List W} (h : RWs K H M vs ws) : ∀ {ds : List PyData}, unWs ws = some ds → RpA K H M vs ds := by
  induction h with
  | nil => intro ds e; cases e; exact .nil
  | @cons v vs w ws a _ ih =>
    intro ds e
    unfold unWs at e
    split at e
    · rename_i d ds' e1 e2
      cases e
      cases w with
      | d x => cases e1; exact .cons a (ih e2)
      | loc n => cases e1
    · cases e
def pIn (k : Bool) : W → W → Sto → R W
  | .d (.str x), .d (.str y), m => .ok (.d (.bool ((!(Builtin.Str.occurrences y x 0 y.length 1).isEmpty) == k))) m
  | .d x, .d (.list ds), m => if SeqAt.shaped x = true ∧ SeqAt.shaped (.list ds) = true then .ok (.d (.bool ((ds.any fun z => PyData.eqv z x) == k))) m else .bad
  | .d x, .d (.tuple ds), m => if SeqAt.shaped x = true ∧ SeqAt.shaped (.list ds) = true then .ok (.d (.bool ((ds.any fun z => PyData.eqv z x) == k))) m else .bad
  | .d x, .loc n, m => match m[n]? with
    | some (.lst ws) => match unWs ws with
      | some ds => if SeqAt.shaped x = true ∧ SeqAt.shaped (.list ds) = true then .ok (.d (.bool ((ds.any fun z => PyData.eqv z x) == k))) m else .bad
      | none => .bad
    | _ => .bad
  | _, _, _ => .bad
theorem RpA.dps {K : PySem.W.Frag} {H : Hp} {M : Ad} {a : Addr} {vs : List V} {ds : List PyData} (h : H a = some (.lst vs)) (r : RpA K H M vs ds) : Dp K H (.ref a) (.list ds) := .lst (SqL.of h) r.dp
theorem Ok.lst {C : Ct} {M : Ad} {m : Sto} {H : Hp} (o : Ok C M m H) {n : Nat} {a : Addr} {ws : List W} (h1 : M.loc[n]? = some a) (h2 : m[n]? = some (.lst ws)) : ∃ vs, H a = some (.lst vs) ∧ RWs C.K H M vs ws := o.cell n a _ h1 h2
theorem od_in (k : Bool) : OpD C Wx (fun x y H Q => (∃ i j, x = .str i ∧ y = .str j ∧ Q (.bl ((!(Builtin.Str.occurrences j i 0 j.length 1).isEmpty) == k)) H) ∨ rInT C.K k x y H Q) (pIn k) := by
  intro σ M m H x y w z Q o rx ry q
  unfold pIn at q
  split at q
  · cases rx; cases ry; exact .inl ⟨_, _, rfl, rfl, q.now o _ (Rp.bl _)⟩
  · split at q
    · rename_i h; exact .inr ⟨_, _, rx.dp, .inl ry.dp, h.1, h.2, q.now o _ (Rp.bl _)⟩
    · exact q.elim
  · split at q
    · rename_i h; exact .inr ⟨_, _, rx.dp, .inr ry.dp, h.1, h.2, q.now o _ (Rp.bl _)⟩
    · exact q.elim
  · split at q
    · rename_i e
      split at q
      · rename_i ds e2
        split at q
        · rename_i h
          obtain ⟨a, rfl, hM⟩ := ry
          obtain ⟨vs, h1, h2⟩ := o.lst hM e
          exact .inr ⟨_, _, rx.dp, .inl (RpA.dps h1 (h2.un e2)), h.1, h.2, q.now o _ (Rp.bl _)⟩
        · exact q.elim
      · exact q.elim
    · exact q.elim
  · exact q.elim
theorem op_in_str' : OpR X (compareOp .In) (fun x y H Q => ∃ i j, x = .str i ∧ y = .str j ∧ Q (.bl ((!(Builtin.Str.occurrences j i 0 j.length 1).isEmpty) == true)) H) := fun pins s σ H x y v u Q I rx ry ⟨i, j, h1, h2, q⟩ => op_in_str pins s σ H x y v u Q I rx ry ⟨i, j, h1, h2, by simpa using q⟩
theorem op_notin_str' : OpR X (compareOp .NotIn) (fun x y H Q => ∃ i j, x = .str i ∧ y = .str j ∧ Q (.bl ((!(Builtin.Str.occurrences j i 0 j.length 1).isEmpty) == false)) H) := fun pins s σ H x y v u Q I rx ry ⟨i, j, h1, h2, q⟩ => op_notin_str pins s σ H x y v u Q I rx ry ⟨i, j, h1, h2, by simpa using q⟩
theorem room_u65 {k : Nat} {A : Around} (r : Room k A) : A.units + 65 < cLine := by have := r.un; omega
theorem de_in (hu : X.A.units + 65 < cLine) (ha : DE X C Wx a f) (hb : DE X C Wx b g) (hK : X.K = C.K := by rfl) (hm : behindInMarks .In b = false := by with_unfolding_all rfl) : DE X C Wx (.Compare a [.In] [b] pos) (eBin (pIn true) f g) := de_cmp (op_in_str'.or (op_inT hu)) (by rw [hK]; exact od_in true) ha hb hm
theorem de_notIn (hu : X.A.units + 65 < cLine) (ha : DE X C Wx a f) (hb : DE X C Wx b g) (hK : X.K = C.K := by rfl) (hm : behindInMarks .NotIn b = false := by with_unfolding_all rfl) : DE X C Wx (.Compare a [.NotIn] [b] pos) (eBin (pIn false) f g) := de_cmp (op_notin_str'.or (op_notInT hu)) (by rw [hK]; exact od_in false) ha hb hm
/-! ### tests, and, or, not -/
def toB : W → Sto → R Bool
  | .d (.bool k), m => .ok k m
  | _, _ => .bad
def tV (f : FE) : FT := fun e m => (f e m).bind toB
theorem tV_of : ∀ σ H Q, tT C Wx (tV f) σ H Q → tB (tE C Wx f) σ H Q := fun σ H Q ⟨M, m, e, o, rs, q⟩ => tE_bind o rs q fun v w M1 m1 H1 g1 o1 r1 rv q1 => by
  cases w with
  | loc n => exact q1.elim
  | d x =>
    cases x with
    | bool k => cases rv; exact ⟨k, rfl, q1.now o1⟩
    | _ => exact q1.elim
theorem dt_val (ha : DE X C Wx a f) (he : ∀ whole, isTrue a X.env whole = (do let v ← whole; standAt a.pos; holding [v] (truthy v)) := by intro _; rfl) : DT X C Wx a (tV f) := ⟨PT_imp (pt_val ha.pe he) tV_of⟩
theorem dt_cmp1 {op : CmpOp} {r : R2} (ho : OpR X (compareOp op) r) {p : W → W → Sto → R W} (hd : OpD C Wx r p) (ha : DE X C Wx a f) (hb : DE X C Wx b g) (hm : behindInMarks op b = false) : DT X C Wx (.Compare a [op] [b] pos) (tV (eBin p f g)) :=
  ⟨PT_imp (pt_cmpR ho ha.pe hb.pe hm) fun σ H Q h => by
    obtain ⟨M, m, e, o, rs, q⟩ := h
    refine tOp_of hd σ H _ (tE_at o rs (Post.mono (Post.bind q) fun w M1 m1 H1 g1 o1 q1 v rv => ?_))
    cases w with
    | loc n => exact q1.elim
    | d x =>
      cases x with
      | bool k => cases rv; exact ⟨k, rfl, q1.now o1⟩
      | _ => exact q1.elim⟩
def tNot (t : FT) : FT := fun e m => (t e m).bind fun k m1 => .ok (!k) m1
def tAnd (t u : FT) : FT := fun e m => (t e m).bind fun k m1 => if k then u e m1 else .ok false m1
def tOr (t u : FT) : FT := fun e m => (t e m).bind fun k m1 => if k then .ok true m1 else u e m1
theorem dt_not (ha : DT X C Wx a t) : DT X C Wx (.UnaryOp .Not a pos) (tNot t) := ⟨PT_imp (pt_not ha.pt) fun σ H Q ⟨M, m, e, o, rs, q⟩ => tT_bind o rs q fun k M1 m1 H1 g1 o1 r1 q1 => q1.now o1⟩
theorem dw_and1 (ha : DT X C Wx a t) : DW X C Wx (.BoolOp .And [a] pos) t := ⟨pw_and1 ha.pt⟩
theorem dw_or1 (ha : DT X C Wx a t) : DW X C Wx (.BoolOp .Or [a] pos) t := ⟨pw_or1 ha.pt⟩
theorem dw_and {rest : List Expr} (ha : DT X C Wx a t) (hb : DW X C Wx (.BoolOp .And (b :: rest) pos) u) : DW X C Wx (.BoolOp .And (a :: b :: rest) pos) (tAnd t u) := ⟨PW_imp (pw_and ha.pt hb.pw) fun σ H Q ⟨M, m, e, o, rs, q⟩ => tT_bind o rs q fun k M1 m1 H1 g1 o1 r1 q1 => by
  cases k with
  | true => exact tT_at o1 r1 q1
  | false => exact q1.now o1⟩
theorem dw_or {rest : List Expr} (ha : DT X C Wx a t) (hb : DW X C Wx (.BoolOp .Or (b :: rest) pos) u) : DW X C Wx (.BoolOp .Or (a :: b :: rest) pos) (tOr t u) := ⟨PW_imp (pw_or ha.pt hb.pw) fun σ H Q ⟨M, m, e, o, rs, q⟩ => tT_bind o rs q fun k M1 m1 H1 g1 o1 r1 q1 => by
  cases k with
  | true => exact q1.now o1
  | false => exact tT_at o1 r1 q1⟩
theorem DW.dt (h : DW X C Wx a t) : DT X C Wx a t := ⟨h.pw.pt⟩
/-- as values: all but the last one bools -/
def eAnd (f g : FE) : FE := fun e m => (f e m).bind fun w m1 => (toB w m1).bind fun k m2 => if k then g e m2 else .ok (.d (.bool false)) m2
def eOr (f g : FE) : FE := fun e m => (f e m).bind fun w m1 => (toB w m1).bind fun k m2 => if k then .ok (.d (.bool true)) m2 else g e m2
def eNot (f : FE) : FE := fun e m => (f e m).bind fun w m1 => (toB w m1).bind fun k m2 => .ok (.d (.bool (!k))) m2
theorem de_one {op : BoolOp} (ha : DE X C Wx a f) : DE X C Wx (.BoolOp op [a] pos) f := ⟨pe_one ha.pe⟩
theorem toB_ok {w : W} {m : Sto} {v : V} {H : Hp} {M : Ad} {Ex : Str → Sto → Ad → Hp → Prop} {α : Type} {k : Bool → Sto → R α} {Kk : α → Ad → Sto → Hp → Prop} (rv : RW C.K H M v w) (q : Post C Ex M H ((toB w m).bind k) Kk) : ∃ c, v = .bl c ∧ w = .d (.bool c) ∧ Post C Ex M H (k c m) Kk := by
  cases w with
  | loc n => exact q.elim
  | d x =>
    cases x with
    | bool c => cases rv; exact ⟨c, rfl, rfl, q⟩
    | _ => exact q.elim
theorem de_and {rest : List Expr} (ha : DE X C Wx a f) (hb : DE X C Wx (.BoolOp .And (b :: rest) pos) g) : DE X C Wx (.BoolOp .And (a :: b :: rest) pos) (eAnd f g) := ⟨PE_imp (pe_and ha.pe hb.pe) fun σ H Q ⟨M, m, e, o, rs, q⟩ =>
  tE_bind o rs q fun v w M1 m1 H1 g1 o1 r1 rv q1 => by
    obtain ⟨c, rfl, rfl, q1⟩ := toB_ok rv q1
    refine ⟨c, rfl, ?_⟩
    cases c with
    | true => exact tE_at o1 r1 q1
    | false => exact q1.now o1 _ (Rp.bl false)⟩
theorem de_or {rest : List Expr} (ha : DE X C Wx a f) (hb : DE X C Wx (.BoolOp .Or (b :: rest) pos) g) : DE X C Wx (.BoolOp .Or (a :: b :: rest) pos) (eOr f g) := ⟨PE_imp (pe_or ha.pe hb.pe) fun σ H Q ⟨M, m, e, o, rs, q⟩ =>
  tE_bind o rs q fun v w M1 m1 H1 g1 o1 r1 rv q1 => by
    obtain ⟨c, rfl, rfl, q1⟩ := toB_ok rv q1
    refine ⟨c, rfl, ?_⟩
    cases c with
    | true => exact q1.now o1 _ (Rp.bl true)
    | false => exact tE_at o1 r1 q1⟩
theorem de_not (ha : DE X C Wx a f) : DE X C Wx (.UnaryOp .Not a pos) (eNot f) := ⟨PE_imp (pe_not ha.pe) fun σ H Q ⟨M, m, e, o, rs, q⟩ =>
  tE_bind o rs q fun v w M1 m1 H1 g1 o1 r1 rv q1 => by
    obtain ⟨c, rfl, rfl, q1⟩ := toB_ok rv q1
    exact ⟨c, rfl, q1.now o1 _ (Rp.bl _)⟩⟩
def eIf (t : FT) (f g : FE) : FE := fun e m => (t e m).bind fun k m1 => if k then f e m1 else g e m1
theorem de_if (ht : DT X C Wx c t) (ha : DE X C Wx a f) (hb : DE X C Wx b g) : DE X C Wx (.IfExp c a b pos) (eIf t f g) := ⟨PE_imp (pe_ifExp ht.pt ha.pe hb.pe) fun σ H Q ⟨M, m, e, o, rs, q⟩ =>
  tT_bind o rs q fun k M1 m1 H1 g1 o1 r1 q1 => by
    cases k with
    | true => exact tE_at o1 r1 q1
    | false => exact tE_at o1 r1 q1⟩
/-! ### argument lists, displays -/
def aNil : FA := fun _ m => .ok [] m
def aCons (f : FE) (r : FA) : FA := fun e m => (f e m).bind fun w m1 => (r e m1).bind fun ws m2 => .ok (w :: ws) m2
theorem da_nil : DA X C Wx [] aNil := ⟨PA_imp pa_nil fun σ H Q ⟨M, m, e, o, rs, q⟩ => q.now o _ .nil⟩
theorem da_cons {es : List Expr} {r : FA} (ha : DE X C Wx a f) (hr : DA X C Wx es r) (hs : starEach (a :: es) X.env = (false, eval a X.env) :: starEach es X.env := by rfl) : DA X C Wx (a :: es) (aCons f r) :=
  ⟨PA_imp (pa_cons ha.pe hr.pa hs) fun σ H Q ⟨M, m, e, o, rs, q⟩ => tE_bind o rs q fun v w M1 m1 H1 g1 o1 r1 rv q1 => tA_bind o1 r1 q1 fun vs ws M2 m2 H2 g2 o2 r2 rvs q2 => q2.now o2 _ (.cons (rv.go g2) rvs)⟩
def eTup (r : FA) : FE := fun e m => (r e m).bind fun ws m1 => match unWs ws with
  | some ds => if ds.length ≤ sizeLine then .ok (.d (.tuple ds)) m1 else .bad
  | none => .bad
def eLst (r : FA) : FE := fun e m => (r e m).bind fun ws m1 => match unWs ws with
  | some ds => if ds.length ≤ sizeLine then .ok (.d (.list ds)) m1 else .bad
  | none => .bad
/-- a list that may change: a new number in the store -/
def eLstM (r : FA) : FE := fun e m => (r e m).bind fun ws m1 => if ws.length ≤ sizeLine then .ok (.loc m1.length) (m1 ++ [.lst ws]) else .bad
theorem de_tup {es : List Expr} {r : FA} {k : Nat} (hr : DA X C Wx es r) : DE X C Wx (.Tuple es k pos) (eTup r) := ⟨PE_imp (pe_tup hr.pa) fun σ H Q ⟨M, m, e, o, rs, q⟩ =>
  tA_bind o rs q fun vs ws M1 m1 H1 g1 o1 r1 rv q1 => by
    cases e1 : unWs ws with
    | none => rw [e1] at q1; exact q1.elim
    | some ds =>
      rw [e1] at q1
      simp only at q1
      split at q1
      · rename_i hz
        have ra := rv.un e1
        exact ⟨by rw [ra.len]; exact hz, fun p hp => q1 _ _ (Go.new hp) (o1.new hp) _ (Rp.newT o1 hp ra)⟩
      · exact q1.elim⟩
theorem de_lst {es : List Expr} {r : FA} (hr : DA X C Wx es r) : DE X C Wx (.List es pos) (eLst r) := ⟨PE_imp (pe_lst hr.pa) fun σ H Q ⟨M, m, e, o, rs, q⟩ =>
  tA_bind o rs q fun vs ws M1 m1 H1 g1 o1 r1 rv q1 => by
    cases e1 : unWs ws with
    | none => rw [e1] at q1; exact q1.elim
    | some ds =>
      rw [e1] at q1
      simp only at q1
      split at q1
      · rename_i hz
        have ra := rv.un e1
        exact ⟨by rw [ra.len]; exact hz, fun p hp => q1 _ _ (Go.new hp) (o1.new hp) _ (Rp.newL o1 hp ra)⟩
      · exact q1.elim⟩
theorem RpA.rep {K : PySem.W.Frag} {H : Hp} {M : Ad} {ds : List PyData} {vs : List V} (h : RpA K H M vs ds) : ∀ k : Nat, RpA K H M (List.replicate k vs).flatten (List.replicate k ds).flatten
  | 0 => .nil
  | k + 1 => by
    rw [List.replicate_succ, List.replicate_succ, List.flatten_cons, List.flatten_cons]
    exact h.app (RpA.rep h k)
/-- [x, ..] * n, the list written there -/
def eRep (r : FA) (g : FE) : FE := fun e m => (eLst r e m).bind fun w m1 => (g e m1).bind fun z m2 => match w, z with
  | .d (.list xs), .d (.int k) => if -(2 ^ 63) ≤ k ∧ k < 2 ^ 63 ∧ xs.length * k.toNat ≤ sizeLine then .ok (.d (.list (List.replicate k.toNat xs).flatten)) m2 else .bad
  | _, _ => .bad
theorem de_rep {es : List Expr} {r : FA} {p2 : Pos} (hr : DA X C Wx es r) (hb : DE X C Wx b g) : DE X C Wx (.BinOp (.List es p2) .Mult b pos) (eRep r g) := ⟨PE_imp (pe_op op_rep (pe_lst hr.pa) hb.pe) fun σ H Q ⟨M, m, e, o, rs, q⟩ => by
  unfold eRep eLst at q
  have q' : Post C (ExW C Wx σ) M H ((r e m).bind fun ws m1 => (match unWs ws with | some ds => if ds.length ≤ sizeLine then (R.ok (W.d (.list ds)) m1) else .bad | none => .bad).bind fun w m1 => (g e m1).bind fun z m2 => match w, z with
    | .d (.list xs), .d (.int k) => if -(2 ^ 63) ≤ k ∧ k < 2 ^ 63 ∧ xs.length * k.toNat ≤ sizeLine then .ok (.d (.list (List.replicate k.toNat xs).flatten)) m2 else .bad
    | _, _ => .bad) fun w M' m' H' => ∀ v, RW C.K H' M' v w → Q v H' := by
    cases hr2 : r e m with
    | ok ws m1 => rw [hr2] at q; exact q
    | exc x m1 => rw [hr2] at q; exact q
    | bad => rw [hr2] at q; exact q
  exact tA_bind o rs q' fun vs ws M1 m1 H1 g1 o1 r1 rv q1 => by
    cases e1 : unWs ws with
    | none => rw [e1] at q1; exact q1.elim
    | some ds =>
      rw [e1] at q1
      simp only at q1
      split at q1
      · rename_i hz
        have ra := rv.un e1
        refine ⟨by rw [ra.len]; exact hz, fun p hp => ?_⟩
        have gp : Go M1 H1 M1 (upd H1 p (.lst vs)) := Go.new hp
        refine tE_bind (o1.new hp) (r1.go gp) (Post.go gp q1) fun v w M2 m2 H2 g2 o2 r2 rv2 q2 => ?_
        have hp2 : H2 p = some (.lst vs) := g2.st p _ upd_same (o1.free hp).1 (by intro ps z; cases z)
        split at q2
        · rename_i xs k ew
          cases ew
          cases rv2
          split at q2
          · rename_i hh
            exact ⟨p, _, vs, rfl, rfl, hp2, hh.1, hh.2.1, by rw [ra.len]; exact hh.2.2, fun p2 hp2' => q2 _ _ (Go.new hp2') (o2.new hp2') _ (Rp.newL o2 hp2' (((ra.go gp).go g2).rep _))⟩
          · exact q2.elim
        · exact q2.elim
      · exact q1.elim⟩
def Ad.add (M : Ad) (p : Addr) : Ad := ⟨M.loc ++ [p], M.hid⟩
theorem Go.newM {M : Ad} {H : Hp} {p : Addr} {o : HO} (h : H p = none) : Go M H (M.add p) (upd H p o) :=
  ⟨⟨[p], rfl, fun a ha => by simp at ha; subst ha; exact h⟩, rfl, (Go.new (M := M) h).st, (Go.new (M := M) h).dom⟩
theorem Ok.newM {M : Ad} {m : Sto} {H : Hp} (o : Ok C M m H) {p : Addr} (h : H p = none) {vs : List V} {ws : List W} (r : RWs C.K H M vs ws) : Ok C (M.add p) (m ++ [.lst ws]) (upd H p (.lst vs)) := by
  have g : Go M H (M.add p) (upd H p (.lst vs)) := Go.newM h
  refine ⟨(o.new h).tab, by simp [Ad.add, o.len], fun n a c e1 e2 => ?_, ?_, fun a ha z => o.hid a ha (g.dom a z)⟩
  · have e1 : (M.loc ++ [p])[n]? = some a := e1
    by_cases hn : n < M.loc.length
    · rw [List.getElem?_append_left hn] at e1
      rw [List.getElem?_append_left (by rw [← o.len]; exact hn)] at e2
      exact CellOk.go g (o.cell n a c e1 e2) (upd_ne fun z => o.there (List.mem_of_getElem? e1) (by rw [z]; exact h))
    · rw [List.getElem?_append_right (by omega)] at e1
      rw [List.getElem?_append_right (by rw [← o.len]; omega), ← o.len] at e2
      cases hk : n - M.loc.length with
      | zero =>
        rw [hk] at e1 e2
        simp at e1 e2
        subst e1 e2
        exact ⟨vs, upd_same, r.go g⟩
      | succ k => rw [hk] at e1; simp at e1
  · refine List.nodup_append.mpr ⟨o.nd, by simp, fun a ha b hb z => ?_⟩
    simp at hb
    subst hb
    subst z
    exact o.there ha h
theorem de_lstM {es : List Expr} {r : FA} (hr : DA X C Wx es r) : DE X C Wx (.List es pos) (eLstM r) := ⟨PE_imp (pe_lst hr.pa) fun σ H Q ⟨M, m, e, o, rs, q⟩ =>
  tA_bind o rs q fun vs ws M1 m1 H1 g1 o1 r1 rv q1 => by
    split at q1
    · rename_i hz
      refine ⟨by rw [rv.len]; exact hz, fun p hp => q1 _ _ (Go.newM hp) (o1.newM hp rv) _ ⟨p, rfl, ?_⟩⟩
      show (M1.loc ++ [p])[m1.length]? = some p
      rw [← o1.len]
      simp
    · exact q1.elim⟩
end
end Pd

set_option Elab.async false
set_option linter.all false
set_option maxRecDepth 100000
set_option maxHeartbeats 1000000
namespace Pd
open PySem PySem.Spec PyProof.Rows L2
section
variable {X : Cx} {C : Ct} {Wx : WX} {a b c : Expr} {es : List Expr} {f g h : FE} {r : FA} {t u : FT} {pos p : Pos}
/-! ### calls of defs -/
def spD (C : Ct) (n : Nat) (F : List W → Sto → R W) : Sp := fun vs H Q E => vs.length = n ∧ ∃ M m ws, Ok C M m H ∧ RWs C.K H M vs ws ∧
  Post C (fun x _ _ H' => E (.ref (C.xa x)) none H') M H (F ws m) fun w M' m' H' => ∀ v, RW C.K H' M' v w → Q v H'
def eCall (n : Nat) (F : List W → Sto → R W) (r : FA) : FE := fun e m => (r e m).bind fun ws m1 => if ws.length = n then F ws m1 else .bad
theorem de_call {k n : Nat} {fa : Addr} {fd : FuncData} {ps : List Str} {x : Str} {F : List W → Sto → R W} (Fk : FnOk X.prog X.w X.K X.mg X.base (L2.CX X.prog X.w) k fa fd ps (spD C n F)) (hr : Room k X.A) (hm : X.mg x = some (.ref fa)) (hk : PySem.W.keepIn X.K (.ref fa) = true)
    (hb : Binds X.K fd ps []) (tk : Takes X Wx) (ha : DA X C Wx (a :: es) r) (hg : Gl X x := by rfl) (hdb : (x == ("__debug__" : Str)) = false := by decide) (he : starEach (a :: es) X.env = (false, eval a X.env) :: starEach es X.env := by rfl)
    (hpl : (backTo pos (starEach es X.env)).any (·.1) = false := by rfl) : DE X C Wx (.Call (.Name x p) (a :: es) [] pos) (eCall n F r) :=
  ⟨PE_imp (pe_callS Fk hr hg hm hk hb (fun σ => passAt tk σ) ha.pa hdb he hpl) fun σ H Q ⟨M, m, e, o, rs, q⟩ => tA_bind o rs q fun vs ws M1 m1 H1 g1 o1 r1 rv q1 => by
    split at q1
    · rename_i hl
      exact ⟨by rw [rv.len]; exact hl, M1, m1, ws, o1, rv, q1⟩
    · exact q1.elim⟩
/-! ### built-ins -/
def CallD (C : Ct) (Wx : WX) (r : List V → Hp → VK → Prop) (q : List W → Sto → R W) : Prop := ∀ {σ : St} {M : Ad} {m : Sto} {H : Hp} {vs : List V} {ws : List W} {Q : VK}, Ok C M m H → RWs C.K H M vs ws →
  Post C (ExW C Wx σ) M H (q ws m) (fun w' M' m' H' => ∀ v, RW C.K H' M' v w' → Q v H') → r vs H Q
def eB (q : List W → Sto → R W) (r : FA) : FE := fun e m => (r e m).bind q
theorem tCB_of {rr : List V → Hp → VK → Prop} {q : List W → Sto → R W} (hd : CallD C Wx rr q) : ∀ σ H Q, tE C Wx (eB q r) σ H Q → tCB rr (tA C Wx r) σ H Q := fun σ H Q ⟨M, m, e, o, rs, q⟩ =>
  tA_bind o rs q fun vs ws M1 m1 H1 g1 o1 r1 rv q1 => hd o1 rv q1
theorem de_callB {id : String} {x : Str} {rr : List V → Hp → VK → Prop} {q : List W → Sto → R W} (hc : CallR X (.builtin id) rr) (hd : CallD C Wx rr q) (hm : X.mg x = none) (hv : bootBuiltins x = some (.builtin id)) (ha : DA X C Wx (a :: es) r) (hg : Gl X x := by rfl)
    (hn : x ≠ "__name__" := by decide) (hdb : (x == ("__debug__" : Str)) = false := by decide) (he : starEach (a :: es) X.env = (false, eval a X.env) :: starEach es X.env := by rfl) (hpl : (backTo pos (starEach es X.env)).any (·.1) = false := by rfl) :
    DE X C Wx (.Call (.Name x p) (a :: es) [] pos) (eB q r) := ⟨PE_imp (pe_callB hc hg hm hv ha.pa hn hdb he hpl) (tCB_of hd)⟩
theorem de_callT {id : String} {x : Str} {rr : List V → Hp → VK → Prop} {q : List W → Sto → R W} (hc : CallR X (.type id) rr) (hd : CallD C Wx rr q) (hm : X.mg x = none) (hv : bootBuiltins x = some (.type id)) (ha : DA X C Wx (a :: es) r) (hg : Gl X x := by rfl)
    (hn : x ≠ "__name__" := by decide) (hdb : (x == ("__debug__" : Str)) = false := by decide) (he : starEach (a :: es) X.env = (false, eval a X.env) :: starEach es X.env := by rfl) (hpl : (backTo pos (starEach es X.env)).any (·.1) = false := by rfl) :
    DE X C Wx (.Call (.Name x p) (a :: es) [] pos) (eB q r) := ⟨PE_imp (pe_callTy hc hg hm hv ha.pa hn hdb he hpl) (tCB_of hd)⟩
theorem RWs.one {K : PySem.W.Frag} {H : Hp} {M : Ad} {vs : List V} {w : W} (h : RWs K H M vs [w]) : ∃ v, vs = [v] ∧ RW K H M v w := by
  cases h with | cons a b => cases b; exact ⟨_, rfl, a⟩
theorem RWs.two {K : PySem.W.Frag} {H : Hp} {M : Ad} {vs : List V} {w z : W} (h : RWs K H M vs [w, z]) : ∃ v u, vs = [v, u] ∧ RW K H M v w ∧ RW K H M u z := by
  cases h with | cons a b => obtain ⟨u, rfl, r⟩ := RWs.one b; exact ⟨_, _, rfl, a, r⟩
theorem CallR_or {fv : Value} {r1 r2 : List V → Hp → VK → Prop} (h : CallR X fv r1) (h' : CallR X fv r2) : CallR X fv (fun xs H Q => r1 xs H Q ∨ r2 xs H Q) := h.or h'
/-- len -/
def qLen : List W → Sto → R W
  | [.d (.str s)], m => if s.length ≤ sizeLine then .ok (.d (.int s.length)) m else .bad
  | [.d (.list ds)], m => .ok (.d (.int ds.length)) m
  | [.d (.tuple ds)], m => .ok (.d (.int ds.length)) m
  | [.loc n], m => match m[n]? with
    | some (.lst ws) => .ok (.d (.int ws.length)) m
    | _ => .bad
  | _, _ => .bad
theorem cd_len : CallD C Wx (fun xs H Q => ∃ x n, xs = [x] ∧ LenV C.K x H n ∧ Q (.int n) H) qLen := by
  intro σ M m H vs ws Q o rv q
  unfold qLen at q
  split at q
  · split at q
    · rename_i hz
      obtain ⟨v, rfl, r1⟩ := rv.one
      cases r1
      exact ⟨_, _, rfl, ⟨hz, rfl⟩, q.now o _ (Rp.int _)⟩
    · exact q.elim
  · obtain ⟨v, rfl, r1⟩ := rv.one
    cases r1 with | lst h1 h2 => exact ⟨_, _, rfl, .inl ⟨_, h1.sq, rfl⟩, q.now o _ (by rw [h2.len]; exact Rp.int _)⟩
  · obtain ⟨v, rfl, r1⟩ := rv.one
    cases r1 with | tup h1 h2 => exact ⟨_, _, rfl, .inr ⟨_, h1.sq, rfl⟩, q.now o _ (by rw [h2.len]; exact Rp.int _)⟩
  · split at q
    · rename_i e
      obtain ⟨v, rfl, a, rfl, hM⟩ := rv.one
      obtain ⟨vs, h1, h2⟩ := o.lst hM e
      exact ⟨_, _, rfl, .inl ⟨_, SqL.of h1, rfl⟩, q.now o _ (by rw [h2.len]; exact Rp.int _)⟩
    · exact q.elim
  · exact q.elim
theorem de_len {x : Str} (hx : x = "len") (hm : X.mg x = none) (ha : DA X C Wx [a] r) (hg : Gl X x := by rfl) (hK : X.K = C.K := by rfl) (he : starEach [a] X.env = (false, eval a X.env) :: starEach [] X.env := by rfl) (hpl : (backTo pos (starEach [] X.env)).any (·.1) = false := by rfl) :
    DE X C Wx (.Call (.Name x p) [a] [] pos) (eB qLen r) := by
  subst hx
  exact de_callB (id := "len") (by exact call_len) (by rw [hK]; exact cd_len) hm PySem.boot_len ha hg (by decide) (by decide) he hpl
/-- int(n), int(True) -/
def qInt : List W → Sto → R W
  | [.d (.int i)], m => .ok (.d (.int i)) m
  | [.d (.bool k)], m => .ok (.d (.int (if k then 1 else 0))) m
  | _, _ => .bad
theorem cd_int : CallD C Wx (fun xs H Q => (∃ i, xs = [.int i] ∧ Q (.int i) H) ∨ ∃ k, xs = [.bl k] ∧ Q (.int (if k then 1 else 0)) H) qInt := by
  intro σ M m H vs ws Q o rv q
  unfold qInt at q
  split at q
  · obtain ⟨v, rfl, r1⟩ := rv.one; cases r1; exact .inl ⟨_, rfl, q.now o _ (Rp.int _)⟩
  · obtain ⟨v, rfl, r1⟩ := rv.one; cases r1; exact .inr ⟨_, rfl, q.now o _ (Rp.int _)⟩
  · exact q.elim
/-- tuple(xs) -/
def qTup : List W → Sto → R W
  | [.d (.list ds)], m => .ok (.d (.tuple ds)) m
  | [.d (.tuple ds)], m => .ok (.d (.tuple ds)) m
  | [.loc n], m => match m[n]? with
    | some (.lst ws) => match unWs ws with
      | some ds => .ok (.d (.tuple ds)) m
      | none => .bad
    | _ => .bad
  | _, _ => .bad
theorem cd_tup : CallD C Wx (fun xs H Q => ∃ p ys, xs = [.ref p] ∧ ((SqL C.K H p ys ∧ ∀ l, H l = none → Q (.ref l) (upd H l (.tup ys))) ∨ (SqT C.K H p ys ∧ Q (.ref p) H))) qTup := by
  intro σ M m H vs ws Q o rv q
  unfold qTup at q
  split at q
  · obtain ⟨v, rfl, r1⟩ := rv.one
    cases r1 with | lst h1 h2 => exact ⟨_, _, rfl, .inl ⟨h1.sq, fun l hl => q _ _ (Go.new hl) (o.new hl) _ (Rp.newT o hl h2)⟩⟩
  · obtain ⟨v, rfl, r1⟩ := rv.one
    cases r1 with | tup h1 h2 => exact ⟨_, _, rfl, .inr ⟨h1.sq, q.now o _ (Rp.tup h1 h2)⟩⟩
  · split at q
    · rename_i e
      split at q
      · rename_i ds e2
        obtain ⟨v, rfl, a, rfl, hM⟩ := rv.one
        obtain ⟨vs, h1, h2⟩ := o.lst hM e
        exact ⟨_, _, rfl, .inl ⟨SqL.of h1, fun l hl => q _ _ (Go.new hl) (o.new hl) _ (Rp.newT o hl (h2.un e2))⟩⟩
      · exact q.elim
    · exact q.elim
  · exact q.elim
/-- list(xs): of a list, a tuple, a text -/
def signs (s : Str) : List PyData := s.cps.toList.map fun c => .str ⟨#[c]⟩
def qList : List W → Sto → R W
  | [.d (.list ds)], m => .ok (.d (.list ds)) m
  | [.d (.tuple ds)], m => .ok (.d (.list ds)) m
  | [.d (.str s)], m => if s.cps.size ≤ sizeLine then .ok (.d (.list (signs s))) m else .bad
  | [.loc n], m => match m[n]? with
    | some (.lst ws) => match unWs ws with
      | some ds => .ok (.d (.list ds)) m
      | none => .bad
    | _ => .bad
  | _, _ => .bad
theorem RpA.signs {K : PySem.W.Frag} {H : Hp} {M : Ad} : ∀ l : List Nat, RpA K H M (l.map fun c => V.str ⟨#[c]⟩) (l.map fun c => PyData.str ⟨#[c]⟩)
  | [] => .nil
  | c :: r => .cons (.str _) (RpA.signs r)
def rListS : List V → Hp → VK → Prop := fun xs H Q => ∃ s, xs = [.str s] ∧ s.cps.size ≤ sizeLine ∧ ∀ l, H l = none → Q (.ref l) (upd H l (.lst (s.cps.toList.map fun c => V.str ⟨#[c]⟩)))
theorem vals_signs {s : Str} {acc : List Value} (h : ItemsOf (SignAt s) acc.toArray s.cps.size) : Vals (s.cps.toList.map fun c => V.str ⟨#[c]⟩) acc := by
  have hl : acc.length = s.cps.toList.length := by have := h.1; simpa using this
  have key : ∀ (l : List Nat) (acc : List Value) (hl : acc.length = l.length), (∀ (j : Nat) (v : Value), acc[j]? = some v → ∃ (c : Nat) (u : Tok), l[j]? = some c ∧ v = Value.str ⟨#[c]⟩ u) → Vals (l.map fun c => V.str ⟨#[c]⟩) acc := by
    intro l
    induction l with
    | nil => intro acc hl _; cases acc with | nil => exact .nil | cons _ _ => simp at hl
    | cons c r ih =>
      intro acc hl hh
      cases acc with
      | nil => simp at hl
      | cons v vs =>
        obtain ⟨c', u, e1, e2⟩ := hh 0 v rfl
        simp at e1
        subst e1 e2
        exact .cons ⟨u, rfl⟩ (ih vs (by simpa using hl) fun j v e => by simpa using hh (j + 1) v (by simpa using e))
  refine key _ _ hl fun j v e => ?_
  obtain ⟨c, u, e1, e2⟩ := h.2 j v (by simpa using e)
  exact ⟨c, u, by rw [Array.getElem?_toList]; exact e1, e2⟩
theorem call_listS (hc : X.calm = true) : CallR X (.type "list") rListS := by
  intro pins s σ H xs us Q I r h
  obtain ⟨z, rfl, hz, q⟩ := h
  obtain ⟨u, rfl, t, rfl⟩ := vals1 r
  refine call_list_str (I.ok.hd hc) z t (fun h' tk acc' c' kp e hi => ?_) hz
  have hv : Vals (z.cps.toList.map fun c => V.str ⟨#[c]⟩) acc'.toList := vals_signs (by simpa using hi)
  refine ⟨.ref s.heap.objs.size, _, I.laid (t' := tk) kp (Nat.le_refl _) (show ObjOk X.prog X.w _ h' _ (.lst (z.cps.toList.map fun c => V.str ⟨#[c]⟩)) from ⟨by simpa using hz, acc'.toList, c', hv, by rw [e]⟩), rfl, q _ (I.hok.fresh (Nat.le_refl _))⟩
theorem cd_list : CallD C Wx (fun xs H Q => (∃ p ys, xs = [.ref p] ∧ (SqL C.K H p ys ∨ SqT C.K H p ys) ∧ ∀ l, H l = none → Q (.ref l) (upd H l (.lst ys))) ∨ rListS xs H Q) qList := by
  intro σ M m H vs ws Q o rv q
  unfold qList at q
  split at q
  · obtain ⟨v, rfl, r1⟩ := rv.one
    cases r1 with | lst h1 h2 => exact .inl ⟨_, _, rfl, .inl h1.sq, fun l hl => q _ _ (Go.new hl) (o.new hl) _ (Rp.newL o hl h2)⟩
  · obtain ⟨v, rfl, r1⟩ := rv.one
    cases r1 with | tup h1 h2 => exact .inl ⟨_, _, rfl, .inr h1.sq, fun l hl => q _ _ (Go.new hl) (o.new hl) _ (Rp.newL o hl h2)⟩
  · split at q
    · rename_i hz
      obtain ⟨v, rfl, r1⟩ := rv.one
      cases r1
      exact .inr ⟨_, rfl, hz, fun l hl => q _ _ (Go.new hl) (o.new hl) _ (Rp.newL o hl (RpA.signs _))⟩
    · exact q.elim
  · split at q
    · rename_i e
      split at q
      · rename_i ds e2
        obtain ⟨v, rfl, a, rfl, hM⟩ := rv.one
        obtain ⟨vs, h1, h2⟩ := o.lst hM e
        exact .inl ⟨_, _, rfl, .inl (SqL.of h1), fun l hl => q _ _ (Go.new hl) (o.new hl) _ (Rp.newL o hl (h2.un e2))⟩
      · exact q.elim
    · exact q.elim
  · exact q.elim
/-- sum of ints -/
def unI : PyData → Option Int
  | .int i => some i
  | _ => none
def unIs : List PyData → Option (List Int)
  | [] => some []
  | d :: ds => match unI d, unIs ds with
    | some i, some is => some (i :: is)
    | _, _ => none
theorem RpA.ints {K : PySem.W.Frag} {H : Hp} {M : Ad} : ∀ {ds : List PyData} {vs : List V} {is : List Int}, RpA K H M vs ds → unIs ds = some is → vs = is.map V.int
  | [], _, _, h, e => by cases h; cases e; rfl
  | d :: ds, _, is, h, e => by
    cases h with | cons x y =>
    unfold unIs at e
    split at e
    · rename_i i is' e1 e2
      cases e
      cases d <;> cases e1
      cases x
      rw [RpA.ints y e2]
      rfl
    · cases e
def qSum : List W → Sto → R W
  | [.d (.list ds)], m => match unIs ds with
    | some is => .ok (.d (.int is.sum)) m
    | none => .bad
  | _, _ => .bad
theorem cd_sum : CallD C Wx (rSum C.K) qSum := by
  intro σ M m H vs ws Q o rv q
  unfold qSum at q
  split at q
  · split at q
    · rename_i is e
      obtain ⟨v, rfl, r1⟩ := rv.one
      cases r1 with | lst h1 h2 => exact ⟨_, is, rfl, by rw [← h2.ints e]; exact h1.sq, q.now o _ (Rp.int _)⟩
    · exact q.elim
  · exact q.elim
/-- sorted, of texts -/
def unS : PyData → Option Str
  | .str i => some i
  | _ => none
def unSs : List PyData → Option (List Str)
  | [] => some []
  | d :: ds => match unS d, unSs ds with
    | some i, some is => some (i :: is)
    | _, _ => none
theorem RpA.strs {K : PySem.W.Frag} {H : Hp} {M : Ad} : ∀ {ds : List PyData} {vs : List V} {is : List Str}, RpA K H M vs ds → unSs ds = some is → vs = is.map V.str
  | [], _, _, h, e => by cases h; cases e; rfl
  | d :: ds, _, is, h, e => by
    cases h with | cons x y =>
    unfold unSs at e
    split at e
    · rename_i i is' e1 e2
      cases e
      cases d <;> cases e1
      cases x
      rw [RpA.strs y e2]
      rfl
    · cases e
theorem RpA.ofS {K : PySem.W.Frag} {H : Hp} {M : Ad} : ∀ l : List Str, RpA K H M (l.map V.str) (l.map PyData.str)
  | [] => .nil
  | c :: r => .cons (.str _) (RpA.ofS r)
theorem RpA.ofI {K : PySem.W.Frag} {H : Hp} {M : Ad} : ∀ l : List Int, RpA K H M (l.map V.int) (l.map PyData.int)
  | [] => .nil
  | c :: r => .cons (.int _) (RpA.ofI r)
def sortS (xs : List Str) : List Str := xs.mergeSort fun x y => !sLt y x
theorem sLt_trans {x y z : Str} (h1 : (!sLt y x) = true) (h2 : (!sLt z y) = true) : (!sLt z x) = true := by
  unfold sLt at *
  simp only [Bool.not_eq_true', decide_eq_false_iff_not] at *
  exact List.not_lt.mpr (List.le_trans (List.not_lt.mp h1) (List.not_lt.mp h2))
theorem sLt_total (x y : Str) : ((!sLt y x) || !sLt x y) = true := by
  unfold sLt
  by_cases h : y.cps.toList < x.cps.toList
  · have : ¬ x.cps.toList < y.cps.toList := List.lt_asymm h
    simp [this]
  · simp [h]
theorem sLt_anti {x y : Str} (h1 : (!sLt y x) = true) (h2 : (!sLt x y) = true) : x = y := by
  unfold sLt at *
  simp only [Bool.not_eq_true', decide_eq_false_iff_not] at *
  have : x.cps.toList = y.cps.toList := List.le_antisymm (List.not_lt.mp h1) (List.not_lt.mp h2)
  cases x; cases y
  simpa using this
theorem pw_rising : ∀ (q : Str) (l : List Str), risingS q l = true → (q :: l).Pairwise fun x y => (!sLt y x) = true
  | q, [], _ => by simp
  | q, x :: l, h => by
    unfold risingS at h
    rw [Bool.and_eq_true, ltCps_eq] at h
    have ih := pw_rising x l h.2
    refine List.pairwise_cons.mpr ⟨fun y hy => ?_, ih⟩
    rcases List.mem_cons.mp hy with rfl | hy
    · exact h.1
    · exact sLt_trans h.1 ((List.pairwise_cons.mp ih).1 y hy)
theorem sortS_eq {xs ys : List Str} (hp : ys.Perm xs) (hs : sortedS ys = true) : ys = sortS xs := by
  refine List.Perm.eq_of_pairwise (le := fun x y => (!sLt y x) = true) (fun a b _ _ h1 h2 => sLt_anti h1 h2) ?_ ?_ (hp.trans (List.mergeSort_perm xs _).symm)
  · cases ys with
    | nil => exact .nil
    | cons y l => exact pw_rising y l hs
  · exact List.pairwise_mergeSort (le := fun x y => !sLt y x) (fun a b c h1 h2 => sLt_trans h1 h2) (fun a b => sLt_total a b) xs
def qSortS : List W → Sto → R W
  | [.d (.list ds)], m => match unSs ds with
    | some ss => if ss.length < 64 then .ok (.d (.list ((sortS ss).map .str))) m else .bad
    | none => .bad
  | _, _ => .bad
theorem cd_sortS : CallD C Wx (rSortedS C.K) qSortS := by
  intro σ M m H vs ws Q o rv q
  unfold qSortS at q
  split at q
  · split at q
    · rename_i ss e
      split at q
      · rename_i hz
        obtain ⟨v, rfl, r1⟩ := rv.one
        cases r1 with | lst h1 h2 =>
        refine ⟨_, ss, rfl, by rw [← h2.strs e]; exact h1.sq, hz, fun ys p hp hs hn => ?_⟩
        have e2 := sortS_eq hp hs
        subst e2
        exact q _ _ (Go.new hn) (o.new hn) _ (Rp.newL o hn (RpA.ofS _))
      · exact q.elim
    · exact q.elim
  · exact q.elim
/-- isinstance(x, T), isinstance(x, (T, U)) -/
def isT (T : String) : PyData → Bool
  | .none => T == "NoneType"
  | .bool _ => T == "bool" || T == "int"
  | .int _ => T == "int"
  | .str _ => T == "str"
  | .list _ => T == "list"
  | .tuple _ => T == "tuple"
  | .dict _ => T == "dict"
def isTW (T : String) : W → Bool
  | .d x => isT T x
  | .loc _ => T == "list"
def okT (T : String) : Bool := T == "int" || T == "str" || T == "bool" || T == "list" || T == "tuple" || T == "dict"
theorem FzL.ty {K : PySem.W.Frag} {H : Hp} {M : Ad} {a : Addr} {xs : List V} (h : FzL K H M a xs) : TyX K H (.ref a) (.type "list") := by
  rcases h with ⟨h | ⟨o, h⟩, _⟩ | ⟨o, its, n, h, hc, _⟩
  · exact .base (.lst h)
  · exact .base (.frz h)
  · exact .kList h hc
theorem FzT.ty {K : PySem.W.Frag} {H : Hp} {M : Ad} {a : Addr} {xs : List V} (h : FzT K H M a xs) : TyX K H (.ref a) (.type "tuple") := by
  rcases h with ⟨h | ⟨o, h⟩, _⟩ | ⟨o, its, n, h, hc, _⟩
  · exact .base (.tup h)
  · exact .fTuple h
  · exact .kTuple h hc
theorem okT_cases {T : String} (h : okT T = true) : T = "int" ∨ T = "str" ∨ T = "bool" ∨ T = "list" ∨ T = "tuple" ∨ T = "dict" := by
  unfold okT at h
  simp only [Bool.or_eq_true, beq_iff_eq] at h
  rcases h with ((((h | h) | h) | h) | h) | h <;> simp [h]
def tyN : W → String
  | .d .none => "NoneType"
  | .d (.bool _) => "bool"
  | .d (.int _) => "int"
  | .d (.str _) => "str"
  | .d (.list _) => "list"
  | .d (.tuple _) => "tuple"
  | .d (.dict _) => "dict"
  | .loc _ => "list"
theorem kit_of' {T : String} (hT : okT T = true) (w : W) : kitB (tyN w) T = some (isTW T w) := by
  have hc := okT_cases hT
  cases w with
  | loc n => show kitB "list" T = some (T == "list"); rcases hc with rfl | rfl | rfl | rfl | rfl | rfl <;> decide +kernel
  | d x =>
    cases x with
    | none => show kitB "NoneType" T = some (T == "NoneType"); rcases hc with rfl | rfl | rfl | rfl | rfl | rfl <;> decide +kernel
    | bool k => show kitB "bool" T = some (T == "bool" || T == "int"); rcases hc with rfl | rfl | rfl | rfl | rfl | rfl <;> decide +kernel
    | int k => show kitB "int" T = some (T == "int"); rcases hc with rfl | rfl | rfl | rfl | rfl | rfl <;> decide +kernel
    | str k => show kitB "str" T = some (T == "str"); rcases hc with rfl | rfl | rfl | rfl | rfl | rfl <;> decide +kernel
    | list k => show kitB "list" T = some (T == "list"); rcases hc with rfl | rfl | rfl | rfl | rfl | rfl <;> decide +kernel
    | tuple k => show kitB "tuple" T = some (T == "tuple"); rcases hc with rfl | rfl | rfl | rfl | rfl | rfl <;> decide +kernel
    | dict k => show kitB "dict" T = some (T == "dict"); rcases hc with rfl | rfl | rfl | rfl | rfl | rfl <;> decide +kernel
theorem ty_of {M : Ad} {m : Sto} {H : Hp} {v : V} {w : W} (o : Ok C M m H) (hl : ∀ n, w = .loc n → ∃ ws, m[n]? = some (.lst ws)) (r : RW C.K H M v w) : TyX C.K H v (.type (tyN w)) := by
  cases w with
  | loc n =>
    obtain ⟨a, rfl, hM⟩ := r
    obtain ⟨ws, e⟩ := hl n rfl
    obtain ⟨vs, h1, _⟩ := o.lst hM e
    exact .base (.lst h1)
  | d x =>
    cases x with
    | none => cases r; exact .base .non
    | bool k => cases r; exact .base (.bl k)
    | int k => cases r; exact .base (.int k)
    | str k => cases r; exact .base (.str k)
    | list k => cases r with | lst h1 h2 => exact h1.ty
    | tuple k => cases r with | tup h1 h2 => exact h1.ty
    | dict k => cases r
def locOk (m : Sto) : W → Bool
  | .d _ => true
  | .loc n => match m[n]? with
    | some (.lst _) => true
    | none => false
def eIsi (Ts : List String) (f : FE) : FE := fun e m => (f e m).bind fun w m1 => if locOk m1 w = true then .ok (.d (.bool (Ts.any fun T => isTW T w))) m1 else .bad
theorem locOk_of {m : Sto} {w : W} (h : locOk m w = true) : ∀ n, w = .loc n → ∃ ws, m[n]? = some (.lst ws) := by
  rintro n rfl
  unfold locOk at h
  split at h
  · rename_i e; cases e
  · rename_i e; cases e
    split at h
    · rename_i ws e; exact ⟨_, e⟩
    · cases h
theorem de_isi {x T : Str} {Tn : String} {pT : Pos} (hx : x = "isinstance") (hm : X.mg x = none) (hT : X.mg T = none) (hv : bootBuiltins T = some (.type Tn)) (ok : okT Tn = true) (ha : DE X C Wx a f) (hg : Gl X x := by rfl) (hgT : Gl X T := by rfl) (hK : X.K = C.K := by rfl)
    (hnT : T ≠ "__name__" := by decide) (hdT : (T == ("__debug__" : Str)) = false := by decide)
    (he : starEach [a, .Name T pT] X.env = (false, eval a X.env) :: starEach [.Name T pT] X.env := by rfl) (he2 : starEach [.Name T pT] X.env = (false, eval (.Name T pT) X.env) :: starEach [] X.env := by rfl) (hpl : (backTo pos (starEach [.Name T pT] X.env)).any (·.1) = false := by rfl) :
    DE X C Wx (.Call (.Name x p) [a, .Name T pT] [] pos) (eIsi [Tn] f) := by
  subst hx
  refine ⟨PE_imp (pe_callB call_isi hg hm (by decide +kernel) (pa_cons ha.pe (pa_cons (pe_bltn (v := .ty Tn) hgT hT hv rfl hnT hdT) pa_nil he2) he) (by decide) (by decide) he hpl) fun σ H Q ⟨M, m, e, o, rs, q⟩ => ?_⟩
  refine tE_bind o rs q fun v w M1 m1 H1 g1 o1 r1 rv q1 => ?_
  split at q1
  · rename_i hl
    have h1 := ty_of (C := C) o1 (locOk_of hl) rv
    rw [← hK] at h1
    exact ⟨v, _, _, _, _, rfl, .ty Tn, h1, kit_ty (kit_of' ok w), q1.now o1 _ (by simp only [List.any_cons, List.any_nil, Bool.or_false]; exact Rp.bl _)⟩
  · exact q1.elim
theorem de_isi2 {x T U : Str} {Tn Un : String} {pT pU pp : Pos} {k : Nat} (hx : x = "isinstance") (hm : X.mg x = none) (hT : X.mg T = none) (hv : bootBuiltins T = some (.type Tn)) (ok : okT Tn = true) (hU : X.mg U = none) (hvU : bootBuiltins U = some (.type Un)) (okU : okT Un = true)
    (ha : DE X C Wx a f) (hg : Gl X x := by rfl) (hgT : Gl X T := by rfl) (hgU : Gl X U := by rfl) (hK : X.K = C.K := by rfl)
    (hnT : T ≠ "__name__" := by decide) (hdT : (T == ("__debug__" : Str)) = false := by decide) (hnU : U ≠ "__name__" := by decide) (hdU : (U == ("__debug__" : Str)) = false := by decide)
    (he : starEach [a, .Tuple [.Name T pT, .Name U pU] k pp] X.env = (false, eval a X.env) :: starEach [.Tuple [.Name T pT, .Name U pU] k pp] X.env := by rfl) (he2 : starEach [.Tuple [.Name T pT, .Name U pU] k pp] X.env = (false, eval (.Tuple [.Name T pT, .Name U pU] k pp) X.env) :: starEach [] X.env := by rfl)
    (he3 : starEach [.Name T pT, .Name U pU] X.env = (false, eval (.Name T pT) X.env) :: starEach [.Name U pU] X.env := by rfl) (he4 : starEach [.Name U pU] X.env = (false, eval (.Name U pU) X.env) :: starEach [] X.env := by rfl)
    (hpl : (backTo pos (starEach [.Tuple [.Name T pT, .Name U pU] k pp] X.env)).any (·.1) = false := by rfl) :
    DE X C Wx (.Call (.Name x p) [a, .Tuple [.Name T pT, .Name U pU] k pp] [] pos) (eIsi [Tn, Un] f) := by
  subst hx
  refine ⟨PE_imp (pe_callB call_isiT hg hm (by decide +kernel) (pa_cons ha.pe (pa_cons (pe_tup (pa_cons (pe_bltn (v := .ty Tn) hgT hT hv rfl hnT hdT) (pa_cons (pe_bltn (v := .ty Un) hgU hU hvU rfl hnU hdU) pa_nil he4) he3)) pa_nil he2) he) (by decide) (by decide) he hpl) fun σ H Q ⟨M, m, e, o, rs, q⟩ => ?_⟩
  refine tE_bind o rs q fun v w M1 m1 H1 g1 o1 r1 rv q1 => ?_
  split at q1
  · rename_i hl
    refine ⟨by show 2 ≤ sizeLine; decide, fun tp htp => ?_⟩
    have gn : Go M1 H1 M1 (upd H1 tp (.tup [.ty Tn, .ty Un])) := Go.new htp
    have on := o1.new (u := .tup [.ty Tn, .ty Un]) htp
    have h1 := ty_of (C := C) on (locOk_of hl) (rv.go gn)
    rw [← hK] at h1
    have h2 := kit_ty (K := X.K) (kit_of' ok w)
    have h2' := kit_ty (K := X.K) (kit_of' okU w)
    refine ⟨v, tp, _, _, [.type Tn, .type Un], isTW Tn w || isTW Un w, rfl, upd_same, .cons (.ty Tn) (.cons (.ty Un) .nil), h1, ?_, q1 _ _ gn on _ (by simp only [List.any_cons, List.any_nil, Bool.or_false]; exact Rp.bl _)⟩
    refine kitAny_cons h2 (fun e => ?_) (fun e => by rw [e]; rfl)
    rw [e, Bool.false_or]
    exact kitAny_cons h2' (fun e => by rw [e]; exact kitAny_nil) (fun e => e)
  · exact q1.elim
end
end Pd

set_option Elab.async false
set_option linter.all false
set_option maxRecDepth 100000
set_option maxHeartbeats 1000000
namespace Pd
open PySem PySem.Spec PyProof.Rows L2
section
variable {X : Cx} {C : Ct} {Wx : WX} {a b c o e : Expr} {es : List Expr} {f g h : FE} {r : FA} {t u : FT} {pos p apos cpos : Pos}
/-! ### methods -/
def stSet (m : Sto) (n : Nat) (ws : List W) : Sto := m.set n (.lst ws)
theorem Ok.put {M : Ad} {m : Sto} {H : Hp} (ok : Ok C M m H) {n : Nat} {l : Addr} {ws ws' : List W} {vs' : List V} (h1 : M.loc[n]? = some l) (h2 : m[n]? = some (.lst ws)) (r : RWs C.K H M vs' ws') :
    Go M H M (upd H l (.lst vs')) ∧ Ok C M (stSet m n ws') (upd H l (.lst vs')) := by
  have hl : l ∈ M.loc := List.mem_of_getElem? h1
  obtain ⟨vs, hv, _⟩ := ok.lst h1 h2
  have gg : Go M H M (upd H l (.lst vs')) := ⟨⟨[], by simp, by simp⟩, rfl, fun a u e1 e2 _ => by rw [upd_ne (fun z => e2 (by rw [z]; exact hl))]; exact e1, fun a e1 => by
    by_cases z : a = l
    · subst z; rw [upd_same] at e1; cases e1
    · rw [upd_ne z] at e1; exact e1⟩
  refine ⟨gg, fun P hP => ?_, by simp [stSet, ok.len], fun k a c e1 e2 => ?_, ok.nd, fun a ha z => ok.hid a ha (gg.dom a z)⟩
  · obtain ⟨ps, e, t⟩ := ok.tab P hP
    exact ⟨ps, by rw [upd_ne (fun z => by rw [z, hv] at e; cases e)]; exact e, t⟩
  · by_cases hk : n = k
    · subst hk
      have e3 : a = l := Option.some.inj (e1.symm.trans h1)
      subst e3
      have hn : n < m.length := (List.getElem?_eq_some_iff.mp h2).1
      unfold stSet at e2
      rw [List.getElem?_set_self hn] at e2
      cases e2
      exact ⟨vs', upd_same, r.go gg⟩
    · unfold stSet at e2
      rw [List.getElem?_set_ne hk] at e2
      have ne : a ≠ l := fun z => by
        subst z
        exact hk ((List.getElem?_inj (List.getElem?_eq_some_iff.mp h1).1 ok.nd).mp (h1.trans e1.symm))
      exact CellOk.go gg (ok.cell k a c e1 e2) (upd_ne ne)
def MtD (C : Ct) (Wx : WX) (T : String) (rr : V → List V → Hp → VK → Prop) (q : W → List W → Sto → R W) : Prop := ∀ {σ : St} {M : Ad} {m : Sto} {H : Hp} {v : V} {w : W} {vs : List V} {ws : List W} {Q : VK}, Ok C M m H → RW C.K H M v w → RWs C.K H M vs ws →
  Post C (ExW C Wx σ) M H (q w ws m) (fun w' M' m' H' => ∀ v, RW C.K H' M' v w' → Q v H') → rr v vs H Q
/-- the receiver is a changing list -/
def eMl (q : W → List W → Sto → R W) (f : FE) (r : FA) : FE := fun e m => (f e m).bind fun w m1 => match w with
  | .loc n => match m1[n]? with
    | some (.lst _) => (r e m1).bind fun ws m2 => q (.loc n) ws m2
    | none => .bad
  | _ => .bad
theorem de_ml {name : Str} {id : String} {rr : V → List V → Hp → VK → Prop} {q : W → List W → Sto → R W} (slot : Slot "list" name id) (hty : typeOf (.builtin id) = pure (.type "method_descriptor")) (hm : MtR X id rr) (hd : MtD C Wx "list" rr q) (ho : DE X C Wx o f) (ha : DA X C Wx (a :: es) r)
    (hbase : attributeBase o name X.env (eval o X.env) = eval o X.env := by rfl)
    (hfew : ((backTo cpos (starEach (a :: es) X.env)).all (fun x => !x.1) && (backToKw cpos (keywordEach [] X.env)).all (fun x => x.1.isSome)
      && decide ((a :: es).length + ([] : List Keyword).length + (if ([] : List Keyword).isEmpty then 0 else 1) < 30)) = true := by rfl)
    (hline : (apos.endLine == cpos.line) = true := by rfl) (hs : starEach (a :: es) X.env = (false, eval a X.env) :: starEach es X.env := by rfl) (hplain : (backTo cpos (starEach es X.env)).any (·.1) = false := by rfl) :
    DE X C Wx (.Call (.Attribute o name apos) (a :: es) [] cpos) (eMl q f r) := ⟨PE_imp (pe_bm PySem.F.plainAttrs_list slot hty hm ho.pe ha.pa hbase hfew hline hs hplain) fun σ H Q ⟨M, m, e, ok, rs, q1⟩ =>
  tE_bind ok rs q1 fun v w M1 m1 H1 g1 o1 r1 rv q2 => by
    cases w with
    | d x => exact q2.elim
    | loc n =>
      simp only at q2
      split at q2
      · rename_i ws0 e0
        obtain ⟨l, rfl, hM⟩ := rv
        obtain ⟨vs0, hv0, _⟩ := o1.lst hM e0
        refine ⟨.inl ⟨rfl, _, SqL.of hv0⟩, tA_bind o1 r1 q2 fun vs ws M2 m2 H2 g2 o2 r2 rvs q3 => hd (σ := σ) o2 (show RW C.K H2 M2 (.ref l) (.loc n) from ⟨l, rfl, g2.at_ hM⟩) rvs q3⟩
      · exact q2.elim⟩
def qApp : W → List W → Sto → R W
  | .loc n, [w], m => match m[n]? with
    | some (.lst ws) => if ws.length < sizeLine then .ok (.d .none) (stSet m n (ws ++ [w])) else .bad
    | _ => .bad
  | _, _, _ => .bad
theorem md_app : MtD C Wx "list" rAppend qApp := by
  intro σ M m H v w vs ws Q ok rv rvs q
  unfold qApp at q
  split at q
  · split at q
    · rename_i ws0 e0
      split at q
      · rename_i hz
        obtain ⟨l, rfl, hM⟩ := rv
        obtain ⟨y, rfl, ry⟩ := rvs.one
        obtain ⟨vs0, hv0, rv0⟩ := ok.lst hM e0
        obtain ⟨gg, ok2⟩ := ok.put hM e0 (rv0.app (.cons ry .nil))
        exact ⟨l, vs0, y, rfl, rfl, hv0, by rw [rv0.len]; exact hz, q _ _ gg ok2 _ Rp.non⟩
      · exact q.elim
    · exact q.elim
  · exact q.elim
theorem de_append {name : Str} (hx : name = "append") (ho : DE X C Wx o f) (ha : DA X C Wx [a] r) (hbase : attributeBase o name X.env (eval o X.env) = eval o X.env := by rfl)
    (hfew : ((backTo cpos (starEach [a] X.env)).all (fun x => !x.1) && (backToKw cpos (keywordEach [] X.env)).all (fun x => x.1.isSome)
      && decide ([a].length + ([] : List Keyword).length + (if ([] : List Keyword).isEmpty then 0 else 1) < 30)) = true := by rfl)
    (hline : (apos.endLine == cpos.line) = true := by rfl) (hs : starEach [a] X.env = (false, eval a X.env) :: starEach [] X.env := by rfl) (hplain : (backTo cpos (starEach [] X.env)).any (·.1) = false := by rfl) :
    DE X C Wx (.Call (.Attribute o name apos) [a] [] cpos) (eMl qApp f r) := by
  subst hx
  exact de_ml PySem.F.slot_list_append PySem.F.type_list_append (fun pins s σ H x xs v us Q I rx rs h => mt_append pins s σ H x xs v us Q I rx rs h) md_app ho ha hbase hfew hline hs hplain
/-- the receiver is a text -/
def eMs (q : W → List W → Sto → R W) (f g : FE) : FE := fun e m => (f e m).bind fun w m1 => match w with
  | .d (.str z) => (g e m1).bind fun z2 m2 => q (.d (.str z)) [z2] m2
  | _ => .bad
theorem de_ms {name : Str} {id : String} {rr : V → List V → Hp → VK → Prop} {q : W → List W → Sto → R W} (slot : Slot "str" name id) (hty : typeOf (.builtin id) = pure (.type "method_descriptor")) (hm : MtR X id rr) (hd : MtD C Wx "str" rr q) (ho : DE X C Wx o f) (ha : DE X C Wx a g)
    (hs : starEach [a] X.env = [(false, eval a X.env)] := by rfl) (hbase : attributeBase o name X.env (eval o X.env) = eval o X.env := by rfl) (hline : (apos.endLine == cpos.line) = true := by rfl) :
    DE X C Wx (.Call (.Attribute o name apos) [a] [] cpos) (eMs q f g) := ⟨PE_imp (pe_m1 slot hty hm ho.pe ha.pe hs hbase hline) fun σ H Q ⟨M, m, e, ok, rs, q1⟩ =>
  tE_bind ok rs q1 fun v w M1 m1 H1 g1 o1 r1 rv q2 => by
    split at q2
    · cases rv
      exact ⟨⟨_, rfl⟩, tE_bind o1 r1 q2 fun v2 w2 M2 m2 H2 g2 o2 r2 rv2 q3 => hd (σ := σ) o2 (show RW C.K H2 M2 (.str _) (.d (.str _)) from Rp.str _) (.cons rv2 .nil) q3⟩
    · exact q2.elim⟩
def qJoin : W → List W → Sto → R W
  | .d (.str s), [.d (.list ds)], m => match unSs ds with
    | some ss => if (ss.map (·.length)).sum + ss.length * s.length ≤ 16777216 then .ok (.d (.str (Txt.join s ss))) m else .bad
    | none => .bad
  | _, _, _ => .bad
theorem md_join : MtD C Wx "str" (fun x xs H Q => ∃ a p, ∃ ys : List Str, x = .str a ∧ xs = [.ref p] ∧ (SqL C.K H p (ys.map V.str) ∨ SqT C.K H p (ys.map V.str)) ∧ (ys.map (·.length)).sum + ys.length * a.length ≤ 16777216 ∧ Q (.str (Txt.join a ys)) H) qJoin := by
  intro σ M m H v w vs ws Q ok rv rvs q
  unfold qJoin at q
  split at q
  · split at q
    · rename_i ss e
      split at q
      · rename_i hz
        cases rv
        obtain ⟨y, rfl, ry⟩ := rvs.one
        cases ry with | lst h1 h2 => exact ⟨_, _, ss, rfl, rfl, .inl (by rw [← h2.strs e]; exact h1.sq), hz, q.now ok _ (Rp.str _)⟩
      · exact q.elim
    · exact q.elim
  · exact q.elim
theorem de_join {name : Str} (hx : name = "join") (ho : DE X C Wx o f) (ha : DE X C Wx a g) (hK : X.K = C.K := by rfl) (hs : starEach [a] X.env = [(false, eval a X.env)] := by rfl) (hbase : attributeBase o name X.env (eval o X.env) = eval o X.env := by rfl) (hline : (apos.endLine == cpos.line) = true := by rfl) :
    DE X C Wx (.Call (.Attribute o name apos) [a] [] cpos) (eMs qJoin f g) := by
  subst hx
  exact de_ms F.slot_str_join F.type_str_join mt_join (by rw [hK]; exact md_join) ho ha hs hbase hline
def qCount : W → List W → Sto → R W
  | .d (.str s), [.d (.str z)], m => .ok (.d (.int (Txt.count s z))) m
  | _, _, _ => .bad
theorem md_count : MtD C Wx "str" (fun x xs H Q => ∃ a b, x = .str a ∧ xs = [.str b] ∧ Q (.int (Txt.count a b)) H) qCount := by
  intro σ M m H v w vs ws Q ok rv rvs q
  unfold qCount at q
  split at q
  · cases rv
    obtain ⟨y, rfl, ry⟩ := rvs.one
    cases ry
    exact ⟨_, _, rfl, rfl, q.now ok _ (Rp.int _)⟩
  · exact q.elim
theorem de_count {name : Str} (hx : name = "count") (ho : DE X C Wx o f) (ha : DE X C Wx a g) (hs : starEach [a] X.env = [(false, eval a X.env)] := by rfl) (hbase : attributeBase o name X.env (eval o X.env) = eval o X.env := by rfl) (hline : (apos.endLine == cpos.line) = true := by rfl) :
    DE X C Wx (.Call (.Attribute o name apos) [a] [] cpos) (eMs qCount f g) := by
  subst hx
  exact de_ms F.slot_str_count F.type_str_count mt_count md_count ho ha hs hbase hline
def qIndex : W → List W → Sto → R W
  | .d (.str s), [.d (.str z)], m => match Builtin.Str.occurrences s z 0 s.length 1 with
    | i :: _ => .ok (.d (.int (i : Nat))) m
    | [] => .bad
  | _, _, _ => .bad
theorem md_index : MtD C Wx "str" (fun x xs H Q => ∃ a b i rest, x = .str a ∧ xs = [.str b] ∧ Builtin.Str.occurrences a b 0 a.length 1 = i :: rest ∧ Q (.int (i : Nat)) H) qIndex := by
  intro σ M m H v w vs ws Q ok rv rvs q
  unfold qIndex at q
  split at q
  · split at q
    · rename_i e
      cases rv
      obtain ⟨y, rfl, ry⟩ := rvs.one
      cases ry
      exact ⟨_, _, _, _, rfl, rfl, e, q.now ok _ (Rp.int _)⟩
    · exact q.elim
  · exact q.elim
theorem de_index {name : Str} (hx : name = "index") (ho : DE X C Wx o f) (ha : DE X C Wx a g) (hs : starEach [a] X.env = [(false, eval a X.env)] := by rfl) (hbase : attributeBase o name X.env (eval o X.env) = eval o X.env := by rfl) (hline : (apos.endLine == cpos.line) = true := by rfl) :
    DE X C Wx (.Call (.Attribute o name apos) [a] [] cpos) (eMs qIndex f g) := by
  subst hx
  exact de_ms F.slot_str_index F.type_str_index mt_sindex md_index ho ha hs hbase hline
/-! ### items, slices -/
def pIx : W → W → Sto → R W
  | .d (.list ds), .d (.int i), m => match atI ds i with
    | some d => .ok (.d d) m
    | none => .bad
  | .d (.tuple ds), .d (.int i), m => match atI ds i with
    | some d => .ok (.d d) m
    | none => .bad
  | .d (.str s), .d (.int i), m => if s.length ≤ sizeLine then match atI s.cps.toList i with
      | some c => .ok (.d (.str ⟨#[c]⟩)) m
      | none => .bad
    else .bad
  | .loc n, .d (.int i), m => match m[n]? with
    | some (.lst ws) => match atI ws i with
      | some w => .ok w m
      | none => .bad
    | _ => .bad
  | _, _, _ => .bad
theorem atI_rel {α β : Type} {P : α → β → Prop} {xs : List α} {ds : List β} {i : Int} {d : β} (hl : xs.length = ds.length) (hg : ∀ (j : Nat) (d : β), ds[j]? = some d → ∃ v, xs[j]? = some v ∧ P v d) (h : atI ds i = some d) : ∃ v, atI xs i = some v ∧ P v d := by
  unfold atI at h ⊢
  rw [hl]
  cases e : ixN ds.length i with
  | none => rw [e] at h; cases h
  | some j => rw [e] at h; exact hg j d h
theorem od_ix : OpD C Wx (rIx C.K) pIx := by
  intro σ M m H x y w z Q ok rx ry q
  unfold pIx at q
  split at q
  · split at q
    · rename_i e
      cases rx with | lst h1 h2 =>
      cases ry
      obtain ⟨v, e1, r1⟩ := atI_rel (P := Rp C.K H M) h2.len (fun j d e => h2.get e) e
      exact .inl ⟨_, _, _, v, rfl, rfl, h1.sq, e1, q.now ok _ r1⟩
    · exact q.elim
  · split at q
    · rename_i e
      cases rx with | tup h1 h2 =>
      cases ry
      obtain ⟨v, e1, r1⟩ := atI_rel (P := Rp C.K H M) h2.len (fun j d e => h2.get e) e
      exact .inr (.inl ⟨_, _, _, v, rfl, rfl, h1.sq, e1, q.now ok _ r1⟩)
    · exact q.elim
  · split at q
    · rename_i hz
      split at q
      · rename_i e
        cases rx; cases ry
        exact .inr (.inr ⟨_, _, _, rfl, rfl, hz, e, q.now ok _ (Rp.str _)⟩)
      · exact q.elim
    · exact q.elim
  · split at q
    · rename_i e0
      split at q
      · rename_i e
        obtain ⟨l, rfl, hM⟩ := rx
        cases ry
        obtain ⟨vs, h1, h2⟩ := ok.lst hM e0
        obtain ⟨v, e1, r1⟩ := atI_rel (P := RW C.K H M) h2.len (fun j d e => h2.get e) e
        exact .inl ⟨_, _, _, v, rfl, rfl, SqL.of h1, e1, q.now ok _ r1⟩
      · exact q.elim
    · exact q.elim
  · exact q.elim
theorem de_item (ha : DE X C Wx a f) (hb : DE X C Wx b g) (hK : X.K = C.K := by rfl) (hs : PlainIx b := by exact fun _ _ => rfl) : DE X C Wx (.Subscript a b pos) (eBin pIx f g) := de_ix ix_seq (by rw [hK]; exact od_ix) ha hb hs
/-- a slice's part -/
abbrev FO := Env → Sto → R (Option Int)
def oNone : FO := fun _ m => .ok none m
def oSome (f : FE) : FO := fun e m => (f e m).bind fun w m1 => match w with
  | .d (.int i) => .ok (some i) m1
  | _ => .bad
def tO (C : Ct) (Wx : WX) (f : FO) : TO := fun σ H Q => ∃ M m e, Ok C M m H ∧ RS C.K H M σ e ∧ Post C (ExW C Wx σ) M H (f e m) fun oi M' m' H' => Q oi H'
structure DO (X : Cx) (C : Ct) (Wx : WX) (e : Option Expr) (f : FO) : Prop where
  po : PO X e (tO C Wx f)
theorem PO_imp {e : Option Expr} {t t' : TO} (h : PO X e t) (i : ∀ σ H Q, t' σ H Q → t σ H Q) : PO X e t' := ⟨fun pins s σ H Q I q => h.run pins s σ H Q I (i _ _ _ q)⟩
theorem do_none : DO X C Wx none oNone := ⟨PO_imp po_none fun σ H Q ⟨M, m, e, ok, rs, q⟩ => q.now ok⟩
theorem do_some (ha : DE X C Wx a f) : DO X C Wx (some a) (oSome f) := ⟨PO_imp (po_some ha.pe) fun σ H Q ⟨M, m, e, ok, rs, q⟩ => tE_bind ok rs q fun v w M1 m1 H1 g1 o1 r1 rv q1 => by
  split at q1
  · cases rv; exact ⟨_, rfl, q1.now o1⟩
  · exact q1.elim⟩
def cutD {α : Type} (xs : List α) (lo hi : Option Int) : List α := (xs.drop (HT.sIx xs.length 0 lo)).take (HT.sIx xs.length xs.length hi - HT.sIx xs.length 0 lo)
def eSl (f : FE) (lo hi : FO) : FE := fun e m => (f e m).bind fun w m1 => (lo e m1).bind fun i m2 => (hi e m2).bind fun j m3 => match w with
  | .d (.list ds) => .ok (.d (.list (cutD ds i j))) m3
  | .d (.tuple ds) => if ¬ (HT.sIx ds.length 0 i = 0 ∧ HT.sIx ds.length ds.length j = ds.length) then .ok (.d (.tuple (cutD ds i j))) m3 else .bad
  | .d (.str s) => if s.length ≤ sizeLine then .ok (.d (.str (cutS s i j))) m3 else .bad
  | _ => .bad
theorem RpA.cut {K : PySem.W.Frag} {H : Hp} {M : Ad} {ds : List PyData} {vs : List V} (h : RpA K H M vs ds) (lo hi : Option Int) : RpA K H M (cutV vs lo hi) (cutD ds lo hi) := by
  unfold cutV cutD
  rw [h.len]
  exact (h.drop _).take _
theorem de_slice {lo hi : Option Expr} {fl fh : FO} {p2 : Pos} (ha : DE X C Wx a f) (hl : DO X C Wx lo fl) (hh : DO X C Wx hi fh) (hK : X.K = C.K := by rfl) : DE X C Wx (.Subscript a (.Slice lo hi none p2) pos) (eSl f fl fh) :=
  ⟨PE_imp (pe_slice (sl_list.or (sl_tup.or sl_str)) ha.pe hl.po hh.po) fun σ H Q ⟨M, m, e, ok, rs, q⟩ => tE_bind ok rs q fun v w M1 m1 H1 g1 o1 r1 rv q1 => by
    refine ⟨M1, m1, e, o1, r1, Post.mono q1.bind fun i M2 m2 H2 g2 o2 q2 => ?_⟩
    refine ⟨M2, m2, e, o2, r1.go g2, Post.mono q2.bind fun j M3 m3 H3 g3 o3 q3 => ?_⟩
    have rv3 := (rv.go g2).go g3
    split at q3
    · cases rv3 with | lst h1 h2 => exact .inl ⟨_, _, rfl, by rw [hK]; exact h1.sq, fun p hp => q3 _ _ (Go.new hp) (o3.new hp) _ (Rp.newL o3 hp (h2.cut i j))⟩
    · split at q3
      · rename_i hw
        cases rv3 with | tup h1 h2 => exact .inr (.inl ⟨_, _, rfl, by rw [hK]; exact h1.sq, by rw [h2.len]; exact hw, fun p hp => q3 _ _ (Go.new hp) (o3.new hp) _ (Rp.newT o3 hp (h2.cut i j))⟩)
      · exact q3.elim
    · split at q3
      · rename_i hz
        cases rv3
        exact .inr (.inr ⟨_, rfl, hz, q3.now o3 _ (Rp.str _)⟩)
      · exact q3.elim
    · exact q3.elim⟩
/-! ### statements -/
inductive SR where
  | nx (e : Env) (m : Sto)
  | rt (w : W) (m : Sto)
  | bk (e : Env) (m : Sto)
  | ct (e : Env) (m : Sto)
  | exc (x : Str) (e : Env) (m : Sto)
  | bad
abbrev FS := Env → Sto → SR
def SPost (C : Ct) (Wx : WX) (M : Ad) (H : Hp) (r : SR) (D : Ends) : Prop := match r with
  | .nx e m => ∀ σ' M' H', Go M H M' H' → Ok C M' m H' → RS C.K H' M' σ' e → D.nx σ' H'
  | .rt w m => ∀ v M' H', Go M H M' H' → Ok C M' m H' → RW C.K H' M' v w → D.rt v H'
  | .bk e m => ∀ σ' M' H', Go M H M' H' → Ok C M' m H' → RS C.K H' M' σ' e → D.bk σ' H'
  | .ct e m => ∀ σ' M' H', Go M H M' H' → Ok C M' m H' → RS C.K H' M' σ' e → D.ct σ' H'
  | .exc x e m => ∀ σ' M' H', Go M H M' H' → Ok C M' m H' → RS C.K H' M' σ' e → Wx (.ref (C.xa x)) none σ' H'
  | .bad => False
theorem SPost.go {M M' : Ad} {H H' : Hp} {r : SR} {D : Ends} (gg : Go M H M' H') (q : SPost C Wx M H r D) : SPost C Wx M' H' r D := by
  cases r with
  | nx e m => exact fun σ' M2 H2 k => q σ' M2 H2 (gg.trans k)
  | rt w m => exact fun σ' M2 H2 k => q σ' M2 H2 (gg.trans k)
  | bk e m => exact fun σ' M2 H2 k => q σ' M2 H2 (gg.trans k)
  | ct e m => exact fun σ' M2 H2 k => q σ' M2 H2 (gg.trans k)
  | exc x e m => exact fun σ' M2 H2 k => q σ' M2 H2 (gg.trans k)
  | bad => exact q
@[simp] def ofR {α : Type} (e : Env) : R α → (α → Sto → SR) → SR
  | .ok x m, k => k x m
  | .exc x m, _ => .exc x e m
  | .bad, _ => .bad
theorem SPost.ofR {α : Type} {M : Ad} {H : Hp} {D : Ends} {σ : St} {e : Env} {r : R α} {k : α → Sto → SR} (rs : RS C.K H M σ e) (q : SPost C Wx M H (ofR e r k) D) : Post C (ExW C Wx σ) M H r fun x M1 m1 H1 => SPost C Wx M1 H1 (k x m1) D := by
  cases r with
  | ok x m => exact fun M1 H1 g1 o1 => SPost.go g1 q
  | exc x m => exact fun M1 H1 g1 o1 => q σ M1 H1 g1 o1 (rs.go g1)
  | bad => exact q
def tS (C : Ct) (Wx : WX) (s : FS) : TS := fun D σ H => ∃ M m e, Ok C M m H ∧ RS C.K H M σ e ∧ SPost C Wx M H (s e m) D
structure DS (X : Cx) (C : Ct) (Wx : WX) (st : Stmt) (s : FS) : Prop where
  ps : PS X st (tS C Wx s)
structure DSs (X : Cx) (C : Ct) (Wx : WX) (st : List Stmt) (s : FS) : Prop where
  pss : PSs X st (tS C Wx s)
/-- an expression's end in a statement -/
theorem tE_st {σ : St} {H : Hp} {M : Ad} {m : Sto} {e : Env} {k : W → Sto → SR} {D : Ends} {Q : VK} (ok : Ok C M m H) (rs : RS C.K H M σ e) (q : SPost C Wx M H (ofR e (f e m) k) D)
    (hk : ∀ v w M' m' H', Go M H M' H' → Ok C M' m' H' → RS C.K H' M' σ e → RW C.K H' M' v w → SPost C Wx M' H' (k w m') D → Q v H') : tE C Wx f σ H Q :=
  tE_at ok rs (Post.mono (SPost.ofR rs q) fun w M1 m1 H1 gg oo q1 v rv => hk v w M1 m1 H1 gg oo (rs.go gg) rv q1)
theorem tT_st {σ : St} {H : Hp} {M : Ad} {m : Sto} {e : Env} {k : Bool → Sto → SR} {D : Ends} {Q : Bool → Hp → Prop} (ok : Ok C M m H) (rs : RS C.K H M σ e) (q : SPost C Wx M H (ofR e (t e m) k) D)
    (hk : ∀ b M' m' H', Go M H M' H' → Ok C M' m' H' → RS C.K H' M' σ e → SPost C Wx M' H' (k b m') D → Q b H') : tT C Wx t σ H Q :=
  tT_at ok rs (Post.mono (SPost.ofR rs q) fun w M1 m1 H1 gg oo q1 => hk w M1 m1 H1 gg oo (rs.go gg) q1)
theorem tA_st {σ : St} {H : Hp} {M : Ad} {m : Sto} {e : Env} {k : List W → Sto → SR} {D : Ends} {Q : List V → Hp → Prop} (ok : Ok C M m H) (rs : RS C.K H M σ e) (q : SPost C Wx M H (ofR e (r e m) k) D)
    (hk : ∀ vs ws M' m' H', Go M H M' H' → Ok C M' m' H' → RS C.K H' M' σ e → RWs C.K H' M' vs ws → SPost C Wx M' H' (k ws m') D → Q vs H') : tA C Wx r σ H Q :=
  tA_at ok rs (Post.mono (SPost.ofR rs q) fun w M1 m1 H1 gg oo q1 v rv => hk v w M1 m1 H1 gg oo (rs.go gg) rv q1)
theorem SPost.nx_now {M : Ad} {H : Hp} {D : Ends} {σ : St} {e : Env} {m : Sto} (ok : Ok C M m H) (rs : RS C.K H M σ e) (q : SPost C Wx M H (.nx e m) D) : D.nx σ H := q σ M H Go.refl ok rs
theorem SPost.rt_now {M : Ad} {H : Hp} {D : Ends} {v : V} {w : W} {m : Sto} (ok : Ok C M m H) (rv : RW C.K H M v w) (q : SPost C Wx M H (.rt w m) D) : D.rt v H := q v M H Go.refl ok rv
variable {st : Stmt} {sts : List Stmt} {s s1 s2 : FS}
def sNil : FS := fun e m => .nx e m
def sSeq (s1 s2 : FS) : FS := fun e m => match s1 e m with
  | .nx e1 m1 => s2 e1 m1
  | z => z
theorem dss_nil : DSs X C Wx [] sNil := ⟨PSs_imp pss_nil fun D σ H ⟨M, m, e, ok, rs, q⟩ => q.nx_now ok rs⟩
theorem dss_one (h : DS X C Wx st s) : DSs X C Wx [st] s := ⟨pss_one h.ps⟩
theorem dss_cons (h1 : DS X C Wx st s1) (h2 : DSs X C Wx sts s2) : DSs X C Wx (st :: sts) (sSeq s1 s2) := ⟨PSs_imp (pss_cons h1.ps h2.pss) fun D σ H ⟨M, m, e, ok, rs, q⟩ => by
  refine ⟨M, m, e, ok, rs, ?_⟩
  unfold sSeq at q
  cases hs : s1 e m with
  | nx e1 m1 => rw [hs] at q; exact fun σ' M' H' gg oo rr => ⟨M', m1, e1, oo, rr, SPost.go gg q⟩
  | rt w m1 => rw [hs] at q; exact q
  | bk e1 m1 => rw [hs] at q; exact q
  | ct e1 m1 => rw [hs] at q; exact q
  | exc x e1 m1 => rw [hs] at q; exact q
  | bad => rw [hs] at q; exact q⟩
def sRet (f : FE) : FS := fun e m => ofR e (f e m) fun w m1 => .rt w m1
theorem ds_ret (ha : DE X C Wx a f) : DS X C Wx (.Return (some a) pos) (sRet f) := ⟨PS_imp (ps_ret ha.pe) fun D σ H ⟨M, m, e, ok, rs, q⟩ => tE_st ok rs q fun v w M1 m1 H1 g1 o1 r1 rv q1 => q1.rt_now o1 rv⟩
theorem ds_retN : DS X C Wx (.Return none pos) (fun _ m => .rt (.d .none) m) := ⟨PS_imp ps_retN fun D σ H ⟨M, m, e, ok, rs, q⟩ => q.rt_now ok (show RW C.K H M .non (.d .none) from Rp.non)⟩
def sExpr (f : FE) : FS := fun e m => ofR e (f e m) fun _ m1 => .nx e m1
theorem ds_expr (ha : DE X C Wx a f) (hs : swapsWith a none pos.line X.env = pure false := by rfl) : DS X C Wx (.Expr a pos) (sExpr f) := ⟨PS_imp (ps_expr ha.pe hs) fun D σ H ⟨M, m, e, ok, rs, q⟩ => tE_st ok rs q fun v w M1 m1 H1 g1 o1 r1 rv q1 => q1.nx_now o1 r1⟩
theorem ds_doc {x : Str} {j : Nat} {p2 : Pos} : DS X C Wx (.Expr (.Constant (.str x) j pos) p2) sNil := ⟨PS_imp ps_doc fun D σ H ⟨M, m, e, ok, rs, q⟩ => q.nx_now ok rs⟩
def sIf (t : FT) (s1 s2 : FS) : FS := fun e m => ofR e (t e m) fun k m1 => if k then s1 e m1 else s2 e m1
theorem ds_if {sa sb : List Stmt} (ht : DT X C Wx c t) (ha : DSs X C Wx sa s1) (hb : DSs X C Wx sb s2) : DS X C Wx (.If c sa sb pos) (sIf t s1 s2) := ⟨PS_imp (ps_if ht.pt ha.pss hb.pss) fun D σ H ⟨M, m, e, ok, rs, q⟩ => tT_st ok rs q fun k M1 m1 H1 g1 o1 r1 q1 => by
  cases k with
  | true => exact ⟨M1, m1, e, o1, r1, q1⟩
  | false => exact ⟨M1, m1, e, o1, r1, q1⟩⟩
theorem ds_pass : DS X C Wx (.Pass pos) sNil := ⟨PS_imp ps_pass fun D σ H ⟨M, m, e, ok, rs, q⟩ => q.nx_now ok rs⟩
theorem ds_break : DS X C Wx (.Break pos) (fun e m => .bk e m) := ⟨PS_imp ps_break fun D σ H ⟨M, m, e, ok, rs, q⟩ => q σ M H Go.refl ok rs⟩
theorem ds_continue : DS X C Wx (.Continue pos) (fun e m => .ct e m) := ⟨PS_imp ps_continue fun D σ H ⟨M, m, e, ok, rs, q⟩ => q σ M H Go.refl ok rs⟩
/-- name = e, of whatever rule -/
def sSet (i : Nat) (f : FE) : FS := fun e m => ofR e (f e m) fun w m1 => .nx (e.set i (some w)) m1
theorem ds_set_of {te : TE} {i : Nat} (hp : PS X st (tAsg te (gName i))) (hi : ∀ σ H Q, tE C Wx f σ H Q → te σ H Q) : DS X C Wx st (sSet i f) := ⟨PS_imp hp fun D σ H ⟨M, m, e, ok, rs, q⟩ => hi σ H _ (tE_st ok rs q fun v w M1 m1 H1 g1 o1 r1 rv q1 => q1.nx_now o1 (r1.set rv i))⟩
theorem ds_set (i : Nat) {x : Str} {p2 : Pos} (hN : X.N.Nodup) (ha : DE X C Wx a f) (hi : X.N[i]? = some x := by rfl) (hx : Loc X.env.scope x := by first | exact Or.inl rfl | exact Or.inr rfl) (hs : swapsWith a (some (.Name x p2)) pos.line X.env = pure false := by rfl)
    (hf : X.fn x = true ∨ X.env.scope.names.lookup x = some .local := by first | exact .inl rfl | exact .inr rfl) : DS X C Wx (.Assign [.Name x p2] a pos) (sSet i f) := ds_set_of (ps_set hN hi hx ha.pe hs hf) fun σ H Q h => h
/-- targets: a name, a tuple of targets -/
abbrev FG := W → Env → Option Env
def gD (C : Ct) (vs : List Nat) (t : FG) : TG := fun v σ H Q => ∃ M e w, RS C.K H M σ e ∧ RW C.K H M v w ∧ match t w e with
  | some e' => ∀ σ', RS C.K H M σ' e' → wipe σ' vs = wipe σ vs → Q σ' H
  | none => False
structure DG (X : Cx) (C : Ct) (vs : List Nat) (tg : Expr) (t : FG) : Prop where
  pg : PG X tg (gD C vs t)
theorem wipe_set {σ : St} {i : Nat} {x : Option V} : ∀ {vs : List Nat}, i ∈ vs → wipe (σ.set i x) vs = wipe σ vs
  | v :: vs, h => by
    unfold wipe
    by_cases hi : i ∈ vs
    · rw [wipe_set hi]
    · have e : v = i := by
        rcases List.mem_cons.mp h with z | z
        · exact z.symm
        · exact absurd z hi
      subst e
      have key : ∀ (us : List Nat), v ∉ us → wipe (σ.set v x) us = (wipe σ us).set v x := by
        intro us
        induction us with
        | nil => intro _; rfl
        | cons u us ih =>
          intro hu
          unfold wipe
          rw [ih (fun z => hu (List.mem_cons_of_mem _ z))]
          exact List.set_comm _ _ (fun z => hu (by rw [z]; exact List.mem_cons_self))
      rw [key vs hi, List.set_set]
theorem PG_imp {tg : Expr} {t t' : TG} (h : PG X tg t) (i : ∀ v σ H Q, t' v σ H Q → t v σ H Q) : PG X tg t' := ⟨fun pins s σ H v u Q I r q => h.run pins s σ H v u Q I r (i _ _ _ _ q)⟩
def gN (i : Nat) : FG := fun w e => some (e.set i (some w))
theorem dg_name (i : Nat) {vs : List Nat} {x : Str} (hN : X.N.Nodup) (hi : X.N[i]? = some x := by rfl) (hx : Loc X.env.scope x := by first | exact Or.inl rfl | exact Or.inr rfl) (hf : X.fn x = true ∨ X.env.scope.names.lookup x = some .local := by first | exact .inl rfl | exact .inr rfl)  (hv : i ∈ vs := by decide) : DG X C vs (.Name x pos) (gN i) :=
  ⟨PG_imp (pg_name hN hi hx hf) fun v σ H Q ⟨M, e, w, rs, rv, q⟩ => q _ (rs.set rv i) (wipe_set hv)⟩
abbrev FGs := List PyData → Env → Option Env
def gsD (C : Ct) (us : List Nat) (t : FGs) : TGs := fun vs σ H Q => ∃ M e ds, RS C.K H M σ e ∧ RpA C.K H M vs ds ∧ match t ds e with
  | some e' => ∀ σ', RS C.K H M σ' e' → wipe σ' us = wipe σ us → Q σ' H
  | none => False
structure DGs (X : Cx) (C : Ct) (us : List Nat) (ts : List Expr) (t : FGs) : Prop where
  pgs : PGs X ts (gsD C us t)
theorem PGs_imp {ts : List Expr} {t t' : TGs} (h : PGs X ts t) (i : ∀ v σ H Q, t' v σ H Q → t v σ H Q) : PGs X ts t' := ⟨fun pins s σ H v u Q I r q => h.run pins s σ H v u Q I r (i _ _ _ _ q)⟩
def gsNil : FGs := fun ds e => match ds with
  | [] => some e
  | _ => none
def gsCons (t : FG) (u : FGs) : FGs := fun ds e => match ds with
  | d :: r => match t (.d d) e with
    | some e' => u r e'
    | none => none
  | [] => none
theorem dgs_nil {us : List Nat} : DGs X C us [] gsNil := ⟨PGs_imp pgs_nil fun vs σ H Q ⟨M, e, ds, rs, rv, q⟩ => by
  cases rv with
  | nil => exact ⟨rfl, q σ rs rfl⟩
  | cons _ _ => exact q.elim⟩
theorem dgs_cons {us : List Nat} {es : List Expr} {t : FG} {u : FGs} (h1 : DG X C us e t) (h2 : DGs X C us es u) (hs : (assignEach (e :: es) X.env).map (·.2) = assign e X.env :: (assignEach es X.env).map (·.2) := by rfl) : DGs X C us (e :: es) (gsCons t u) :=
  ⟨PGs_imp (pgs_cons h1.pg h2.pgs hs) fun vs σ H Q ⟨M, e, ds, rs, rv, q⟩ => by
    cases rv with
    | nil => exact q.elim
    | @cons v0 vs0 d0 ds0 a b =>
      unfold gsCons at q
      simp only at q
      refine ⟨_, _, rfl, M, e, .d d0, rs, a, ?_⟩
      cases ht : t (.d d0) e with
      | none => rw [ht] at q; exact q.elim
      | some e' =>
        rw [ht] at q
        simp only at q ⊢
        refine fun σ' rs' hw => ⟨M, e', _, rs', b, ?_⟩
        split at q
        · rename_i e2 he2
          exact fun σ2 rs2 hw2 => q σ2 rs2 (hw2.trans hw)
        · exact q.elim⟩
def gT (n : Nat) (u : FGs) : FG := fun w e => match w with
  | .d (.tuple ds) => if ds.length = n then u ds e else none
  | _ => none
theorem dg_tup {us : List Nat} {es : List Expr} {k n : Nat} {u : FGs} (hc : X.calm = true) (h : DGs X C us es u) (hK : X.K = C.K := by rfl) (hn : (assignEach es X.env).length = n := by rfl) (hst : (assignEach es X.env).findIdx? (·.1) = none := by rfl) : DG X C us (.Tuple es k pos) (gT n u) :=
  ⟨PG_imp (pg_tup hc h.pgs hn hst) fun v σ H Q ⟨M, e, w, rs, rv, q⟩ => by
    unfold gT at q
    split at q
    · rename_i e' he
      split at he
      · split at he
        · rename_i ds hl
          cases rv with | tup h1 h2 => exact ⟨_, _, rfl, by rw [hK]; exact h1.sq, by rw [h2.len]; exact hl, M, e, ds, rs, h2, by rw [he]; exact q⟩
        · cases he
      · cases he
    · exact q.elim⟩
def sAsg (f : FE) (t : FG) : FS := fun e m => ofR e (f e m) fun w m1 => match t w e with
  | some e' => .nx e' m1
  | none => .bad
theorem ds_asg {us : List Nat} {tg : Expr} {tt : FG} (ha : DE X C Wx a f) (hg : DG X C us tg tt) (hs : swapsWithSole [tg] a pos.line X.env = pure false := by rfl) (hw : swappedStores [tg] a X.env = pure none := by rfl)
    (h1 : (assignEach [tg] X.env).map (·.2) = [assign tg X.env] := by rfl) : DS X C Wx (.Assign [tg] a pos) (sAsg f tt) := ⟨PS_imp (ps_asg ha.pe hg.pg hs hw h1) fun D σ H ⟨M, m, e, ok, rs, q⟩ => tE_st ok rs q fun v w M1 m1 H1 g1 o1 r1 rv q1 => by
  refine ⟨M1, e, w, r1, rv, ?_⟩
  cases he : tt w e with
  | none => rw [he] at q1; exact q1.elim
  | some e' => rw [he] at q1; exact fun σ' rs' _ => q1.nx_now o1 rs'⟩
/-- a, b = x, y -/
def sPar (i j : Nat) (r : FA) : FS := fun e m => ofR e (r e m) fun ws m1 => match ws with
  | [w, z] => .nx ((e.set i (some w)).set j (some z)) m1
  | _ => .bad
end
end Pd

set_option Elab.async false
set_option linter.all false
set_option maxRecDepth 100000
set_option maxHeartbeats 1000000
namespace Pd
open PySem PySem.Spec PyProof.Rows L2
section
variable {X : Cx} {C : Ct} {Wx : WX} {a b c o e : Expr} {es : List Expr} {f g h : FE} {r : FA} {t u : FT} {pos p apos cpos : Pos} {st : Stmt} {sts : List Stmt} {s s1 s2 : FS}
theorem RWs.nil_iff {K : PySem.W.Frag} {H : Hp} {M : Ad} {vs : List V} (h : RWs K H M vs []) : vs = [] := by cases h; rfl
theorem ds_par (i j : Nat) {x y : Str} {px py pt : Pos} {kt k2 : Nat} {pt2 : Pos} (hc : X.calm = true) (hN : X.N.Nodup) (ha : DA X C Wx [a, b] r) (hi : X.N[i]? = some x := by rfl) (hj : X.N[j]? = some y := by rfl) (hij : i ≠ j := by decide)
    (hx : X.env.scope.names.lookup x = some .local := by rfl) (hy : X.env.scope.names.lookup y = some .local := by rfl) (hw : swappedStores [.Tuple [.Name x px, .Name y py] kt pt] (.Tuple [a, b] k2 pt2) X.env = pure (some [x, y]) := by rfl) (hs : swapsWithSole [.Tuple [.Name x px, .Name y py] kt pt] (.Tuple [a, b] k2 pt2) pos.line X.env = pure false := by rfl) :
    DS X C Wx (.Assign [.Tuple [.Name x px, .Name y py] kt pt] (.Tuple [a, b] k2 pt2) pos) (sPar i j r) := ⟨PS_imp (ps_par hc hN hi hj hij hx hy ha.pa hw hs) fun D σ H ⟨M, m, e, ok, rs, q⟩ => tA_st ok rs q fun vs ws M1 m1 H1 g1 o1 r1 rv q1 => by
  split at q1
  · obtain ⟨v, w, rfl, r2, r3⟩ := rv.two
    exact ⟨v, w, rfl, q1.nx_now o1 ((r1.set r2 i).set r3 j)⟩
  · exact q1.elim⟩
/-- o[i] = e, o a changing list -/
def sPut (fo fi fv : FE) : FS := fun e m => ofR e (fv e m) fun v m1 => ofR e (fo e m1) fun w m2 => ofR e (fi e m2) fun i m3 => match w, i with
  | .loc n, .d (.int k) => match m3[n]? with
    | some (.lst ws) => match ixN ws.length k with
      | some j => .nx e (stSet m3 n (ws.set j v))
      | none => .bad
    | _ => .bad
  | _, _ => .bad
theorem ds_put {o i : Expr} {fo fi : FE} {p2 : Pos} (ha : DE X C Wx a f) (ho : DE X C Wx o fo) (hi : DE X C Wx i fi) (hsub : ∀ v, assign (.Subscript o i p2) X.env v = (do
      let ov ← holding [v] (eval o X.env)
      let iv ← holding [v, ov] (eval i X.env)
      standAt p2
      holding [v, ov, iv] (setItem ov iv v)
      release [v, ov, iv] []) := by intro _; rfl) (hs : swapsWithSole [.Subscript o i p2] a pos.line X.env = pure false := by rfl) (hw : swappedStores [.Subscript o i p2] a X.env = pure none := by rfl)
    (h1 : (assignEach [.Subscript o i p2] X.env).map (·.2) = [assign (.Subscript o i p2) X.env] := by rfl) : DS X C Wx (.Assign [.Subscript o i p2] a pos) (sPut fo fi f) := ⟨PS_imp (ps_asg ha.pe (pg_sub ho.pe hi.pe set_list hsub) hs hw h1) fun D σ H ⟨M, m, e, ok, rs, q⟩ =>
  tE_st ok rs q fun v w M1 m1 H1 g1 o1 r1 rv q1 => tE_st o1 r1 q1 fun v2 w2 M2 m2 H2 g2 o2 r2 rv2 q2 => tE_st o2 r2 q2 fun v3 w3 M3 m3 H3 g3 o3 r3 rv3 q3 => by
    split at q3
    · split at q3
      · rename_i e0
        split at q3
        · rename_i j hj
          obtain ⟨l, rfl, hM⟩ := rv2.go g3
          cases rv3
          obtain ⟨vs0, hv0, rv0⟩ := o3.lst hM e0
          obtain ⟨gg, o4⟩ := o3.put hM e0 (rv0.set ((rv.go g2).go g3) j)
          exact ⟨l, vs0, _, j, rfl, rfl, hv0, by rw [rv0.len]; exact hj, q3 σ _ _ gg o4 (r3.go gg)⟩
        · exact q3.elim
      · exact q3.elim
    · exact q3.elim⟩
/-- x += e of ints -/
def sAug (i : Nat) (p : W → W → Sto → R W) (f : FE) : FS := fun e m => match e[i]? with
  | some (some w0) => ofR e (f e m) fun w m1 => ofR e (p w0 w m1) fun z m2 => .nx (e.set i (some z)) m2
  | _ => .bad
/-! ### what is walked -/
abbrev FI := Env → Sto → R (List W)
/-- the same changing lists; what is hidden besides was not yet there -/
def Hd (M : Ad) (H : Hp) (M0 : Ad) : Prop := M0.loc = M.loc ∧ ∀ b ∈ M0.hid, b ∈ M.hid ∨ H b = none
theorem Hd.refl {M : Ad} {H : Hp} : Hd M H M := ⟨rfl, fun _ h => .inl h⟩
theorem Hd.freeL {M M0 : Ad} {H : Hp} (h : Hd M H M0) {a : Addr} {o : HO} (e : H a = some o) (f : M.free a) : M0.free a := ⟨by rw [h.1]; exact f.1, fun z => (h.2 a z).elim f.2 fun n => by rw [n] at e; cases e⟩
theorem FzL.weak {K : PySem.W.Frag} {M M0 : Ad} {H : Hp} {a : Addr} {xs : List V} (h : FzL K H M a xs) (d : Hd M H M0) : FzL K H M0 a xs := h.imp (fun z => ⟨z.1, by rcases z.1 with q | ⟨o, q⟩ <;> exact d.freeL q z.2⟩) id
theorem FzT.weak {K : PySem.W.Frag} {M M0 : Ad} {H : Hp} {a : Addr} {xs : List V} (h : FzT K H M a xs) (d : Hd M H M0) : FzT K H M0 a xs := h.imp (fun z => ⟨z.1, by rcases z.1 with q | ⟨o, q⟩ <;> exact d.freeL q z.2⟩) id
mutual
theorem Rp.weak {K : PySem.W.Frag} {H : Hp} {M M0 : Ad} (hd : Hd M H M0) : ∀ {d : PyData} {v : V}, Rp K H M v d → Rp K H M0 v d
  | .none, _, h => by cases h; exact .non
  | .bool _, _, h => by cases h; exact .bl _
  | .int _, _, h => by cases h; exact .int _
  | .str _, _, h => by cases h; exact .str _
  | .list ds, _, h => by cases h with | lst a b => exact .lst (a.weak hd) (RpA.weak hd b)
  | .tuple ds, _, h => by cases h with | tup a b => exact .tup (a.weak hd) (RpA.weak hd b)
  | .dict _, _, h => by cases h
theorem RpA.weak {K : PySem.W.Frag} {H : Hp} {M M0 : Ad} (hd : Hd M H M0) : ∀ {ds : List PyData} {vs : List V}, RpA K H M vs ds → RpA K H M0 vs ds
  | [], _, h => by cases h; exact .nil
  | _ :: _, _, h => by cases h with | cons a b => exact .cons (Rp.weak hd a) (RpA.weak hd b)
end
theorem RW.weak {K : PySem.W.Frag} {H : Hp} {M M0 : Ad} (hd : Hd M H M0) {v : V} {w : W} (h : RW K H M v w) : RW K H M0 v w := by
  cases w with
  | d x => exact Rp.weak hd h
  | loc n => obtain ⟨a, e, h⟩ := h; exact ⟨a, e, by rw [hd.1]; exact h⟩
theorem RWs.weak {K : PySem.W.Frag} {H : Hp} {M M0 : Ad} (hd : Hd M H M0) {vs : List V} {ws : List W} (h : RWs K H M vs ws) : RWs K H M0 vs ws := by
  induction h with
  | nil => exact .nil
  | cons a _ ih => exact .cons (a.weak hd) ih
theorem RS.weak {K : PySem.W.Frag} {H : Hp} {M M0 : Ad} (hd : Hd M H M0) {σ : St} {e : Env} (h : RS K H M σ e) : RS K H M0 σ e := ⟨h.len, fun i w q => let ⟨v, e1, r⟩ := h.at_ i w q; ⟨v, e1, r.weak hd⟩⟩
structure Serves (C : Ct) (M : Ad) (H : Hp) (J : It) (items : List W) : Prop where
  go : ∀ M0 M' H', Hd M H M0 → Go M0 H M' H' → ∀ i, i < items.length → J.go i H'
  stop : ∀ M0 M' H', Hd M H M0 → Go M0 H M' H' → J.stop items.length H'
  yld : ∀ M0 M' H', Hd M H M0 → Go M0 H M' H' → ∀ i w, items[i]? = some w → ∀ x H'', J.yld i H' x H'' → ∀ m', Ok C M' m' H' → Go M' H' M' H'' ∧ RW C.K H'' M' x w ∧ Ok C M' m' H''
def tI (C : Ct) (Wx : WX) (f : FI) : TI := fun σ H Q => ∃ M m e, Ok C M m H ∧ RS C.K H M σ e ∧ Post C (ExW C Wx σ) M H (f e m) fun items M' m' H' => ∀ J, Serves C M' H' J items → Q J H'
structure DI (X : Cx) (C : Ct) (Wx : WX) (tg iter : Expr) (f : FI) : Prop where
  pi : PI X tg iter (tI C Wx f)
theorem PI_imp {tg iter : Expr} {t t' : TI} (h : PI X tg iter t) (i : ∀ σ H Q, t' σ H Q → t σ H Q) : PI X tg iter t' := ⟨fun pins s σ H Q I q => h.run pins s σ H Q I (i _ _ _ q)⟩
theorem PI_or {tg iter : Expr} {t t' : TI} (h : PI X tg iter t) (h' : PI X tg iter t') : PI X tg iter (fun σ H Q => t σ H Q ∨ t' σ H Q) := ⟨fun pins s σ H Q I q => q.elim (h.run pins s σ H Q I) (h'.run pins s σ H Q I)⟩
theorem get_mapW {ds : List PyData} {i : Nat} {w : W} (h : (ds.map W.d)[i]? = some w) : ∃ d, ds[i]? = some d ∧ w = .d d := by
  rw [List.getElem?_map] at h
  cases e : ds[i]? with
  | none => rw [e] at h; cases h
  | some d => rw [e] at h; cases h; exact ⟨d, rfl, rfl⟩
theorem serves_list {M : Ad} {H : Hp} {a : Addr} {vs : List V} {ds : List PyData} (h : FzL C.K H M a vs) (r : RpA C.K H M vs ds) : Serves C M H (Itl C.K a) (ds.map W.d) where
  go := fun M0 M' H' hd gg i hi => ⟨vs, vs[i]'(by rw [r.len]; simpa using hi), ((h.weak hd).go gg).sq, List.getElem?_eq_getElem _⟩
  stop := fun M0 M' H' hd gg => ⟨vs, ((h.weak hd).go gg).sq, by rw [r.len]; simp⟩
  yld := fun M0 M' H' hd gg i w hw x H'' hy m' oo => by
    obtain ⟨d, hdd, rfl⟩ := get_mapW hw
    obtain ⟨rfl, hx⟩ := hy
    obtain ⟨v, hv, rv⟩ := r.get hdd
    have := hx vs ((h.weak hd).go gg).sq
    rw [hv] at this
    cases this
    exact ⟨Go.refl, (rv.weak hd).go gg, oo⟩
theorem serves_tup {M : Ad} {H : Hp} {a : Addr} {vs : List V} {ds : List PyData} (h : FzT C.K H M a vs) (r : RpA C.K H M vs ds) : Serves C M H (Itt C.K a) (ds.map W.d) where
  go := fun M0 M' H' hd gg i hi => ⟨vs, vs[i]'(by rw [r.len]; simpa using hi), ((h.weak hd).go gg).sq, List.getElem?_eq_getElem _⟩
  stop := fun M0 M' H' hd gg => ⟨vs, ((h.weak hd).go gg).sq, by rw [r.len]; simp⟩
  yld := fun M0 M' H' hd gg i w hw x H'' hy m' oo => by
    obtain ⟨d, hdd, rfl⟩ := get_mapW hw
    obtain ⟨rfl, hx⟩ := hy
    obtain ⟨v, hv, rv⟩ := r.get hdd
    have := hx vs ((h.weak hd).go gg).sq
    rw [hv] at this
    cases this
    exact ⟨Go.refl, (rv.weak hd).go gg, oo⟩
/-- a list, a tuple, a text -/
def iSeq (f : FE) : FI := fun e m => (f e m).bind fun w m1 => match w with
  | .d (.list ds) => .ok (ds.map W.d) m1
  | .d (.tuple ds) => .ok (ds.map W.d) m1
  | .d (.str s) => .ok ((signs s).map W.d) m1
  | _ => .bad
theorem serves_str {M : Ad} {H : Hp} {s : Str} : Serves C M H (Its s) ((signs s).map W.d) where
  go := fun M0 M' H' hd gg i hi => by
    have : i < s.cps.size := by simpa [signs] using hi
    exact this
  stop := fun M0 M' H' hd gg => by
    show s.cps.size ≤ _
    simp [signs]
  yld := fun M0 M' H' hd gg i w hw x H'' hy m' oo => by
    obtain ⟨d, hdd, rfl⟩ := get_mapW hw
    obtain ⟨rfl, c, hc, rfl⟩ := hy
    unfold signs at hdd
    rw [List.getElem?_map, Array.getElem?_toList, hc] at hdd
    cases hdd
    exact ⟨Go.refl, Rp.str _, oo⟩
theorem di_seq {tg : Expr} (ha : DE X C Wx a f) (hK : X.K = C.K := by rfl) : DI X C Wx tg a (iSeq f) := ⟨PI_imp (PI_or (pi_list ha.pe) (PI_or (pi_tup ha.pe) (pi_str ha.pe))) fun σ H Q ⟨M, m, e, ok, rs, q⟩ => by
  unfold iSeq at q
  cases hf : f e m with
  | bad => rw [hf] at q; exact q.elim
  | exc x m1 => exact .inl (tE_at ok rs (by rw [hf] at q ⊢; exact q))
  | ok w m1 =>
    rw [hf] at q
    have key : ∀ {items : List W}, Post C (ExW C Wx σ) M H (.ok items m1) (fun items M' m' H' => ∀ J, Serves C M' H' J items → Q J H') → ∀ {Q' : VK}, (∀ v M' H', Go M H M' H' → Ok C M' m1 H' → RW C.K H' M' v w → (∀ J, Serves C M' H' J items → Q J H') → Q' v H') → tE C Wx f σ H Q' := fun {items} q {Q'} k =>
      tE_at ok rs (by rw [hf]; exact fun M' H' gg oo v rv => k v M' H' gg oo rv (q M' H' gg oo))
    simp only [R.bind] at q
    split at q
    · exact .inl (key q fun v M' H' gg oo rv k => by
        cases rv with | lst h1 h2 => exact ⟨_, rfl, ⟨_, by rw [hK]; exact h1.sq⟩, by rw [hK]; exact k _ (serves_list h1 h2)⟩)
    · exact .inr (.inl (key q fun v M' H' gg oo rv k => by
        cases rv with | tup h1 h2 => exact ⟨_, rfl, ⟨_, by rw [hK]; exact h1.sq⟩, by rw [hK]; exact k _ (serves_tup h1 h2)⟩))
    · exact .inr (.inr (key q fun v M' H' gg oo rv k => by cases rv; exact ⟨_, rfl, k _ serves_str⟩))
    · exact q.elim⟩
/-- range(n), range(a, b) -/
def rng (lo : Int) (n : Nat) : List W := (List.range n).map fun i => W.d (.int (lo + (i : Nat)))
def iRg1 (r : FA) : FI := fun e m => (r e m).bind fun ws m1 => match ws with
  | [.d (.int j)] => if -(2 ^ 62) ≤ j ∧ j < 2 ^ 62 then .ok (rng 0 j.toNat) m1 else .bad
  | _ => .bad
def iRg2 (r : FA) : FI := fun e m => (r e m).bind fun ws m1 => match ws with
  | [.d (.int i), .d (.int j)] => if -(2 ^ 62) ≤ i ∧ i < 2 ^ 62 ∧ -(2 ^ 62) ≤ j ∧ j < 2 ^ 62 then .ok (rng i (j - i).toNat) m1 else .bad
  | _ => .bad
theorem serves_rng {M : Ad} {H : Hp} {lo : Int} {n : Nat} : Serves C M H (Itr lo n) (rng lo n) where
  go := fun M0 M' H' hd gg i hi => by
    have : i < n := by simpa [rng] using hi
    exact this
  stop := fun M0 M' H' hd gg => by
    show n ≤ _
    simp [rng]
  yld := fun M0 M' H' hd gg i w hw x H'' hy m' oo => by
    obtain ⟨rfl, rfl⟩ := hy
    unfold rng at hw
    rw [List.getElem?_map] at hw
    cases hi : (List.range n)[i]? with
    | none => rw [hi] at hw; cases hw
    | some k =>
      rw [hi] at hw
      cases hw
      obtain ⟨h1, h2⟩ := List.getElem?_eq_some_iff.mp hi
      rw [List.getElem_range] at h2
      subst h2
      exact ⟨Go.refl, Rp.int _, oo⟩
theorem di_rng1 {tg : Expr} {x : Str} (hx : x = "range") (hm : X.mg x = none) (ha : DA X C Wx [a] r) (hg : Gl X x := by rfl) (hs : starEach [a] X.env = [(false, eval a X.env)] := by rfl) : DI X C Wx tg (.Call (.Name x p) [a] [] pos) (iRg1 r) := by
  subst hx
  refine ⟨PI_imp (pi_range1 hg hm ha.pa hs) fun σ H Q ⟨M, m, e, ok, rs, q⟩ => tA_bind ok rs q fun vs ws M1 m1 H1 g1 o1 r1 rv q1 => ?_⟩
  split at q1
  · split at q1
    · rename_i hh
      obtain ⟨v, rfl, r2⟩ := rv.one
      cases r2
      exact ⟨_, rfl, hh.1, hh.2, q1.now o1 _ serves_rng⟩
    · exact q1.elim
  · exact q1.elim
theorem di_rng2 {tg : Expr} {x : Str} (hx : x = "range") (hm : X.mg x = none) (ha : DA X C Wx [a, b] r) (hg : Gl X x := by rfl) (hs : starEach [a, b] X.env = [(false, eval a X.env), (false, eval b X.env)] := by rfl) (hs2 : starEach [b] X.env = [(false, eval b X.env)] := by rfl) : DI X C Wx tg (.Call (.Name x p) [a, b] [] pos) (iRg2 r) := by
  subst hx
  refine ⟨PI_imp (pi_range2 hg hm ha.pa hs hs2) fun σ H Q ⟨M, m, e, ok, rs, q⟩ => tA_bind ok rs q fun vs ws M1 m1 H1 g1 o1 r1 rv q1 => ?_⟩
  split at q1
  · split at q1
    · rename_i hh
      obtain ⟨v, u, rfl, rv, ru⟩ := rv.two
      cases rv; cases ru
      exact ⟨_, _, rfl, hh, q1.now o1 _ serves_rng⟩
    · exact q1.elim
  · exact q1.elim
/-! ### for -/
def loopF (tg : FG) (body : FS) : List W → FS
  | [], e, m => .nx e m
  | w :: ws, e, m => match tg w e with
    | none => .bad
    | some e1 => match body e1 m with
      | .nx e2 m2 => loopF tg body ws e2 m2
      | .ct e2 m2 => loopF tg body ws e2 m2
      | .bk e2 m2 => .nx e2 m2
      | z => z
def sFor (it : FI) (tg : FG) (body : FS) : FS := fun e m => ofR e (it e m) fun items m1 => loopF tg body items e m1
theorem ds_for {us : List Nat} {tg iter : Expr} {body : List Stmt} {it : FI} {gt : FG} (hp : PassesOwn (model X.prog X.w) X.A X.env X.xe) (hc : X.calm = true) (hi : DI X C Wx tg iter it) (hg : DG X C us tg gt) (hb : DSs X C Wx body s)
    (hs : ∀ x, foldedSetIterable iter X.env x = pure x := by intro _; rfl) : DS X C Wx (.For tg iter body [] pos) (sFor it gt s) := ⟨PS_imp (ps_for hp hc hi.pi hg.pg hb.pss hs) fun D σ H ⟨M, m, e, ok, rs, q⟩ => by
  refine ⟨M, m, e, ok, rs, Post.mono (SPost.ofR rs q) fun items M1 m1 H1 g1 o1 q1 J sv => ?_⟩
  refine ⟨fun i k σ' H' => k = items.length - i ∧ i ≤ items.length ∧ ∃ M' m' e', Go M1 H1 M' H' ∧ Ok C M' m' H' ∧ RS C.K H' M' σ' e' ∧ SPost C Wx M' H' (loopF gt s (items.drop i) e' m') D, ⟨items.length, rfl, Nat.zero_le _, M1, m1, e, Go.refl, o1, rs.go g1, q1⟩, ?_⟩
  rintro i k σ' H' ⟨rfl, hi', M', m', e', gg, oo, rr, qq⟩
  by_cases hlt : i < items.length
  · rw [List.drop_eq_getElem_cons hlt] at qq
    unfold loopF at qq
    refine .inr ⟨sv.go _ M' H' Hd.refl gg i hlt, fun σ2 H2 => ∃ M2 m2 e2, Go M1 H1 M2 H2 ∧ Ok C M2 m2 H2 ∧ RS C.K H2 M2 σ2 e2 ∧ SPost C Wx M2 H2 (loopF gt s (items.drop (i + 1)) e2 m2) D, ?_, ?_⟩
    · rintro σ2 H2 ⟨M2, m2, e2, h1, h2, h3, h4⟩
      exact ⟨items.length - (i + 1), by omega, rfl, hlt, M2, m2, e2, h1, h2, h3, h4⟩
    · intro x H2 hy
      obtain ⟨g2, rx, o2⟩ := sv.yld _ M' H' Hd.refl gg i _ (List.getElem?_eq_getElem hlt) x H2 hy _ oo
      refine ⟨M', e', items[i], rr.go g2, rx, ?_⟩
      cases ht : gt items[i] e' with
      | none => rw [ht] at qq; exact qq.elim
      | some e1 =>
        rw [ht] at qq
        simp only at qq ⊢
        intro σ3 r3 _
        refine ⟨M', m', e1, o2, r3, ?_⟩
        cases hb1 : s e1 m' with
        | nx e2 m2 => rw [hb1] at qq; exact fun σ4 M4 H4 g4 o4 r4 => ⟨M4, m2, e2, (gg.trans g2).trans g4, o4, r4, SPost.go (g2.trans g4) qq⟩
        | ct e2 m2 => rw [hb1] at qq; exact fun σ4 M4 H4 g4 o4 r4 => ⟨M4, m2, e2, (gg.trans g2).trans g4, o4, r4, SPost.go (g2.trans g4) qq⟩
        | bk e2 m2 => rw [hb1] at qq; exact fun σ4 M4 H4 g4 o4 r4 => qq σ4 M4 H4 (g2.trans g4) o4 r4
        | rt w m2 => rw [hb1] at qq; exact fun v4 M4 H4 g4 o4 r4 => qq v4 M4 H4 (g2.trans g4) o4 r4
        | exc x e2 m2 => rw [hb1] at qq; exact fun σ4 M4 H4 g4 o4 r4 => qq σ4 M4 H4 (g2.trans g4) o4 r4
        | bad => rw [hb1] at qq; exact qq.elim
  · have e0 : i = items.length := by omega
    subst e0
    refine .inl ⟨sv.stop _ M' H' Hd.refl gg, ?_⟩
    rw [List.drop_length] at qq
    exact qq.nx_now oo rr⟩
/-! ### list comprehensions -/
def noX {α : Type} : R α → R α
  | .ok x m => .ok x m
  | _ => .bad
abbrev W0 : WX := fun _ _ _ _ => False
theorem Post.noX {α : Type} {M : Ad} {H : Hp} {r : R α} {Ex Ex' : Str → Sto → Ad → Hp → Prop} {Kk : α → Ad → Sto → Hp → Prop} (q : Post C Ex M H (noX r) Kk) : Post C Ex' M H r Kk := by
  cases r with
  | ok x m => exact q
  | exc x m => exact q.elim
  | bad => exact q.elim
def wipeE (e : Env) : List Nat → Env
  | [] => e
  | v :: vs => (wipeE e vs).set v none
theorem RS.wipe {K : PySem.W.Frag} {H : Hp} {M : Ad} {σ : St} {e : Env} (h : RS K H M σ e) : ∀ vs : List Nat, RS K H M (L2.wipe σ vs) (wipeE e vs)
  | [] => h
  | v :: vs => by
    have ih := RS.wipe h vs
    unfold L2.wipe wipeE
    refine ⟨by simp [ih.len], fun i w q => ?_⟩
    by_cases hi : v = i
    · subst hi
      by_cases hl : v < (wipeE e vs).length
      · rw [List.getElem?_set_self hl] at q; cases q
      · rw [List.getElem?_eq_none (by simpa using hl)] at q; cases q
    · rw [List.getElem?_set_ne hi] at q ⊢
      exact ih.at_ i w q
def loopC (tg : FG) (tt : FT) (f : FE) (e : Env) : List W → List PyData → Sto → R (List PyData)
  | [], acc, m => .ok acc m
  | w :: ws, acc, m => match tg w e with
    | none => .bad
    | some e1 => (noX (tt e1 m)).bind fun k m1 => if k then (noX (f e1 m1)).bind fun z m2 => match unW z with
        | some d => if acc.length < sizeLine then loopC tg tt f e ws (acc ++ [d]) m2 else .bad
        | none => .bad
      else loopC tg tt f e ws acc m1
def eLc (vs : List Nat) (it : FI) (tg : FG) (tt : FT) (f : FE) : FE := fun e m => (it e m).bind fun items m1 => (loopC tg tt f (wipeE e vs) items [] m1).bind fun ds m2 => .ok (.d (.list ds)) m2
structure DTs (X : Cx) (C : Ct) (Wx : WX) (ifs : List Expr) (t : FT) : Prop where
  pts : PTs X ifs (tT C Wx t)
theorem PTs_imp {ifs : List Expr} {t t' : TT} (h : PTs X ifs t) (i : ∀ σ H Q, t' σ H Q → t σ H Q) : PTs X ifs t' := ⟨fun pins s σ H Q I q => h.run pins s σ H Q I (i _ _ _ q)⟩
def fYes : FT := fun _ m => .ok true m
theorem dts_nil : DTs X C Wx [] fYes := ⟨PTs_imp pts_nil fun σ H Q ⟨M, m, e, ok, rs, q⟩ => q.now ok⟩
theorem dts_one (h : DT X C Wx a t) : DTs X C Wx [a] t := ⟨pts_one h.pt⟩
def Ad.hide (M : Ad) (D : Addr) : Ad := ⟨M.loc, D :: M.hid⟩
def Ad.show' (M : Ad) : Ad := ⟨M.loc, M.hid.tail⟩
theorem Ad.free_show {M : Ad} {a : Addr} (h : M.free a) : M.show'.free a := ⟨h.1, fun z => h.2 (List.mem_of_mem_tail z)⟩
mutual
theorem Rp.shows {K : PySem.W.Frag} {H : Hp} {M : Ad} : ∀ {d : PyData} {v : V}, Rp K H M v d → Rp K H M.show' v d
  | .none, _, h => by cases h; exact .non
  | .bool _, _, h => by cases h; exact .bl _
  | .int _, _, h => by cases h; exact .int _
  | .str _, _, h => by cases h; exact .str _
  | .list ds, _, h => by cases h with | lst a b => exact .lst (a.imp (fun z => ⟨z.1, Ad.free_show z.2⟩) id) (RpA.shows b)
  | .tuple ds, _, h => by cases h with | tup a b => exact .tup (a.imp (fun z => ⟨z.1, Ad.free_show z.2⟩) id) (RpA.shows b)
  | .dict _, _, h => by cases h
theorem RpA.shows {K : PySem.W.Frag} {H : Hp} {M : Ad} : ∀ {ds : List PyData} {vs : List V}, RpA K H M vs ds → RpA K H M.show' vs ds
  | [], _, h => by cases h; exact .nil
  | _ :: _, _, h => by cases h with | cons a b => exact .cons (Rp.shows a) (RpA.shows b)
end
theorem RW.shows {K : PySem.W.Frag} {H : Hp} {M : Ad} {v : V} {w : W} (h : RW K H M v w) : RW K H M.show' v w := by
  cases w with
  | d x => exact Rp.shows h
  | loc n => exact h
theorem RWs.shows {K : PySem.W.Frag} {H : Hp} {M : Ad} {vs : List V} {ws : List W} (h : RWs K H M vs ws) : RWs K H M.show' vs ws := by
  induction h with
  | nil => exact .nil
  | cons a _ ih => exact .cons a.shows ih
theorem Ok.shows {M : Ad} {m : Sto} {H : Hp} (o : Ok C M m H) : Ok C M.show' m H := ⟨o.tab, o.len, fun n a c e1 e2 => by
  have := o.cell n a c e1 e2
  cases c with
  | lst ws => obtain ⟨vs, h1, h2⟩ := this; exact ⟨vs, h1, h2.shows⟩, o.nd, fun a ha => o.hid a (List.mem_of_mem_tail ha)⟩
theorem Hd.hide {M : Ad} {H : Hp} {D : Addr} (hD : H D = none) : Hd M H (M.hide D) := ⟨rfl, fun b hb => (List.mem_cons.mp hb).elim (fun z => .inr (by rw [z]; exact hD)) .inl⟩
/-- from M at H to the hidden M at the heap with the new list -/
theorem Ok.hides {M : Ad} {m : Sto} {H : Hp} (o : Ok C M m H) {D : Addr} {u : HO} (hD : H D = none) : Ok C (M.hide D) m (upd H D u) := by
  have o2 := o.new (u := u) hD
  refine ⟨o2.tab, o2.len, fun n a c e1 e2 => ?_, o2.nd, fun a ha => ?_⟩
  · have := o.cell n a c e1 e2
    cases c with
    | lst ws =>
      obtain ⟨vs, h1, h2⟩ := this
      exact ⟨vs, by rw [upd_ne (ne_of_none h1 hD)]; exact h1, (h2.weak (Hd.hide hD)).go (Go.new hD)⟩
  · rcases List.mem_cons.mp ha with z | z
    · rw [z, upd_same]; simp
    · exact o2.hid a z
/-! a hidden object is written -/
mutual
theorem Rp.but {K : PySem.W.Frag} {H : Hp} {M : Ad} {D : Addr} {u : HO} (hD : D ∈ M.hid) : ∀ {d : PyData} {v : V}, Rp K H M v d → Rp K (upd H D u) M v d
  | .none, _, h => by cases h; exact .non
  | .bool _, _, h => by cases h; exact .bl _
  | .int _, _, h => by cases h; exact .int _
  | .str _, _, h => by cases h; exact .str _
  | .list ds, _, h => by
    cases h with | lst a b =>
    refine .lst (a.imp (fun z => ⟨?_, z.2⟩) id) (RpA.but hD b)
    unfold Rd
    rw [upd_ne (fun w => z.2.2 (by rw [w]; exact hD))]
    exact z.1
  | .tuple ds, _, h => by
    cases h with | tup a b =>
    refine .tup (a.imp (fun z => ⟨?_, z.2⟩) id) (RpA.but hD b)
    unfold Rd
    rw [upd_ne (fun w => z.2.2 (by rw [w]; exact hD))]
    exact z.1
  | .dict _, _, h => by cases h
theorem RpA.but {K : PySem.W.Frag} {H : Hp} {M : Ad} {D : Addr} {u : HO} (hD : D ∈ M.hid) : ∀ {ds : List PyData} {vs : List V}, RpA K H M vs ds → RpA K (upd H D u) M vs ds
  | [], _, h => by cases h; exact .nil
  | _ :: _, _, h => by cases h with | cons a b => exact .cons (Rp.but hD a) (RpA.but hD b)
end
theorem RW.but {K : PySem.W.Frag} {H : Hp} {M : Ad} {D : Addr} {u : HO} (hD : D ∈ M.hid) {v : V} {w : W} (h : RW K H M v w) : RW K (upd H D u) M v w := by
  cases w with
  | d x => exact Rp.but hD h
  | loc n => exact h
theorem RWs.but {K : PySem.W.Frag} {H : Hp} {M : Ad} {D : Addr} {u : HO} (hD : D ∈ M.hid) {vs : List V} {ws : List W} (h : RWs K H M vs ws) : RWs K (upd H D u) M vs ws := by
  induction h with
  | nil => exact .nil
  | cons a _ ih => exact .cons (a.but hD) ih
theorem Ok.but {M : Ad} {m : Sto} {H : Hp} {D : Addr} {vs us : List V} (o : Ok C M m H) (hD : D ∈ M.hid) (nD : D ∉ M.loc) (e : H D = some (.lst vs)) : Ok C M m (upd H D (.lst us)) := by
  refine ⟨fun P hP => ?_, o.len, fun n a c e1 e2 => ?_, o.nd, fun a ha => ?_⟩
  · obtain ⟨ps, e', t⟩ := o.tab P hP
    exact ⟨ps, by rw [upd_ne (fun z => by rw [z, e] at e'; cases e')]; exact e', t⟩
  · have := o.cell n a c e1 e2
    cases c with
    | lst ws =>
      obtain ⟨vs, h1, h2⟩ := this
      exact ⟨vs, by rw [upd_ne (fun z => nD (by rw [← z]; exact List.mem_of_getElem? e1))]; exact h1, h2.but hD⟩
  · by_cases z : a = D
    · rw [z, upd_same]; simp
    · rw [upd_ne z]; exact o.hid a ha
theorem wipe_wipe {σ : St} : ∀ vs : List Nat, L2.wipe (L2.wipe σ vs) vs = L2.wipe σ vs := by
  have hl : ∀ (vs : List Nat) (τ : St), (∀ i ∈ vs, τ[i]? = some none ∨ τ[i]? = none) → L2.wipe τ vs = τ := by
    intro vs
    induction vs with
    | nil => intro τ _; rfl
    | cons v vs ih =>
      intro τ h
      unfold L2.wipe
      rw [ih τ fun i hi => h i (List.mem_cons_of_mem _ hi)]
      refine List.ext_getElem? fun j => ?_
      by_cases hj : v = j
      · subst hj
        rcases h v List.mem_cons_self with q | q
        · rw [List.getElem?_set_self (List.getElem?_eq_some_iff.mp q).1, q]
        · rw [q, List.getElem?_eq_none (by simpa using List.getElem?_eq_none_iff.mp q)]
      · rw [List.getElem?_set_ne hj]
  intro vs
  refine hl vs _ fun i hi => ?_
  cases q : (L2.wipe σ vs)[i]? with
  | none => exact .inr rfl
  | some ov =>
    cases ov with
    | none => exact .inl rfl
    | some x => exact absurd hi (wipe_some q).2
theorem tLc_of {vs : List Nat} {it : FI} {gt : FG} {tt : FT} : ∀ σ H Q, tE C Wx (eLc vs it gt tt f) σ H Q → tLc (tI C Wx it) (gD C vs gt) (tT C W0 tt) (tE C W0 f) vs σ H Q := fun σ H Q ⟨M, m, e, ok, rs, q⟩ => by
  refine ⟨M, m, e, ok, rs, Post.mono q.bind fun items M1 m1 H1 g1 o1 q1 J sv D hD => ?_⟩
  have rs1 : RS C.K H1 M1 σ e := rs.go g1
  have hdD : Hd M1 H1 (M1.hide D) := Hd.hide hD
  generalize hr0 : ((loopC gt tt f (wipeE e vs) items [] m1).bind fun ds m2 => R.ok (W.d (.list ds)) m2) = r0 at q1
  refine ⟨fun i k H' => k = items.length - i ∧ i ≤ items.length ∧ ∃ M' m' us acc, Go (M1.hide D) H1 M' H' ∧ Ok C M' m' H' ∧ D ∉ M'.loc ∧ H' D = some (.lst us) ∧ RpA C.K H' M' us acc ∧
    r0 = ((loopC gt tt f (wipeE e vs) (items.drop i) acc m').bind fun ds m2 => R.ok (W.d (.list ds)) m2),
    ⟨items.length, rfl, Nat.zero_le _, M1.hide D, m1, [], [], ⟨⟨[], by simp, by simp⟩, rfl, fun a u e1 _ _ => by rw [upd_ne (ne_of_none e1 hD)]; exact e1, fun a e1 => by
      by_cases z : a = D
      · subst z; exact hD
      · rw [upd_ne z] at e1; exact e1⟩, o1.hides hD, (o1.free hD).1, upd_same, .nil, hr0.symm⟩, ?_⟩
  rintro i k H' ⟨rfl, hi', M', m', us, acc, gg, oo, nD, eD, ra, er⟩
  have hidD : D ∈ M'.hid := by rw [gg.hid]; exact List.mem_cons_self
  by_cases hlt : i < items.length
  · rw [List.drop_eq_getElem_cons hlt] at er
    unfold loopC at er
    refine .inr ⟨sv.go _ M' H' hdD gg i hlt, fun H2 => ∃ M' m' us acc, Go (M1.hide D) H1 M' H2 ∧ Ok C M' m' H2 ∧ D ∉ M'.loc ∧ H2 D = some (.lst us) ∧ RpA C.K H2 M' us acc ∧
      r0 = ((loopC gt tt f (wipeE e vs) (items.drop (i + 1)) acc m').bind fun ds m2 => R.ok (W.d (.list ds)) m2), fun H2 h => ⟨items.length - (i + 1), by omega, rfl, hlt, h⟩, fun x H2 hy => ?_⟩
    obtain ⟨g2, rx, o2⟩ := sv.yld _ M' H' hdD gg i _ (List.getElem?_eq_getElem hlt) x H2 hy _ oo
    have gg2 := gg.trans g2
    have rw2 : RS C.K H2 M' (L2.wipe σ vs) (wipeE e vs) := ((rs1.weak hdD).go gg2).wipe vs
    refine ⟨M', wipeE e vs, items[i], rw2, rx, ?_⟩
    cases ht : gt items[i] (wipeE e vs) with
    | none => rw [ht] at er; rw [er] at q1; exact q1.elim
    | some e1 =>
      rw [ht] at er
      simp only at er ⊢
      intro σ3 r3 hw
      refine ⟨hw.trans (wipe_wipe vs), M', m', e1, o2, r3, ?_⟩
      have eD2 : H2 D = some (.lst us) := g2.st D _ eD nD (by intro ps z; cases z)
      cases htt : tt e1 m' with
      | bad => rw [htt] at er; rw [er] at q1; exact q1.elim
      | exc y m2 => rw [htt] at er; rw [er] at q1; exact q1.elim
      | ok b m2 =>
        rw [htt] at er
        intro M3 H3 g3 o3
        have eD3 : H3 D = some (.lst us) := g3.st D _ eD2 nD (by intro ps z; cases z)
        have nD3 := g3.notin eD2 nD
        cases b with
        | false =>
          refine iteF ?_
          exact ⟨M3, m2, us, acc, gg2.trans g3, o3, nD3, eD3, (RpA.go g2 ra).go g3, er⟩
        | true =>
          refine iteT ?_
          simp only [noX, R.bind, if_true] at er
          refine ⟨M3, m2, e1, o3, r3.go g3, ?_⟩
          cases hf : f e1 m2 with
          | bad => rw [hf] at er; rw [er] at q1; exact q1.elim
          | exc y m3 => rw [hf] at er; rw [er] at q1; exact q1.elim
          | ok z m3 =>
            rw [hf] at er
            intro M4 H4 g4 o4 y ry
            simp only [noX, R.bind] at er
            cases hz : unW z with
            | none => rw [hz] at er; rw [er] at q1; exact q1.elim
            | some d =>
              rw [hz] at er
              simp only at er
              by_cases hs : acc.length < sizeLine
              · rw [if_pos hs] at er
                have ed : z = .d d := by
                  cases z with
                  | d x => cases hz; rfl
                  | loc n => cases hz
                subst ed
                have eD4 : H4 D = some (.lst us) := g4.st D _ eD3 nD3 (by intro ps z; cases z)
                have nD4 := g4.notin eD3 nD3
                have g14 := (gg2.trans g3).trans g4
                have hid4 : D ∈ M4.hid := by rw [g14.hid]; exact List.mem_cons_self
                have ra4 : RpA C.K H4 M4 us acc := ((RpA.go g2 ra).go g3).go g4
                refine ⟨us, eD4, by rw [ra4.len]; exact hs, M4, m3, us ++ [y], acc ++ [d], ⟨g14.ext, g14.hid, fun a u e1 e2 e3 => by rw [upd_ne (ne_of_none e1 hD)]; exact g14.st a u e1 e2 e3, fun a e1 => ?_⟩, o4.but hid4 nD4 eD4, nD4, upd_same, ?_, er⟩
                · by_cases z : a = D
                  · subst z; exact hD
                  · rw [upd_ne z] at e1; exact g14.dom a e1
                · exact (ra4.app (.cons ry .nil)).but hid4
              · rw [if_neg hs] at er; rw [er] at q1; exact q1.elim
  · have e0 : i = items.length := by omega
    subst e0
    rw [List.drop_length] at er
    refine .inl ⟨sv.stop _ M' H' hdD gg, ?_⟩
    have er' : r0 = .ok (.d (.list acc)) m' := er
    rw [er'] at q1
    have hsh : M'.show' = ⟨M'.loc, M1.hid⟩ := by
      unfold Ad.show'
      rw [gg.hid]
      rfl
    have gs : Go M1 H1 M'.show' H' := by
      rw [hsh]
      exact ⟨gg.ext, rfl, gg.st, gg.dom⟩
    exact q1 _ _ gs oo.shows (.ref D) (Rp.lst (.inl ⟨.inl eD, nD, by
      rw [hsh]
      exact (o1.free hD).2⟩) (RpA.shows ra))
theorem de_lc {tg elt iter : Expr} {ifs : List Expr} {scope : Scope} {own : List (Str × Nat)} {it : FI} {gt : FG} {tt : FT} (hc : X.calm = true) (hN : X.N.Nodup) (hi : DI X C Wx tg iter it) (ok : blkC X.N X.env.scope scope own = true)
    (hg : ∀ (s : Shared) (H : Hp) (Ca : Addr) (cl : List (Str × Addr)) (fp : List Addr), DG (X.blk s H scope (compEnvC scope cl Ca X.env) fp) C (own.map (·.2)) tg gt) (ht : ∀ (s : Shared) (H : Hp) (Ca : Addr) (cl : List (Str × Addr)) (fp : List Addr), DTs (X.blk s H scope (compEnvC scope cl Ca X.env) fp) C W0 ifs tt)
    (he : ∀ (s : Shared) (H : Hp) (Ca : Addr) (cl : List (Str × Addr)) (fp : List Addr), DE (X.blk s H scope (compEnvC scope cl Ca X.env) fp) C W0 elt f) (hs : ∀ x, foldedSetIterable iter X.env x = pure x := by intro _; rfl) :
    DE X C Wx (.ListComp elt [⟨tg, iter, ifs, 0⟩] scope pos) (eLc (own.map (·.2)) it gt tt f) :=
  ⟨PE_imp (pe_lc hc hN hi.pi (blkOk_by ok) (fun s H Ca cl fp => (hg s H Ca cl fp).pg) (fun s H Ca cl fp => (ht s H Ca cl fp).pts) (fun s H Ca cl fp => (he s H Ca cl fp).pe) hs) tLc_of⟩
theorem ds_lc (i : Nat) {y : Str} {py spos : Pos} {tg elt iter : Expr} {ifs : List Expr} {scope : Scope} {own : List (Str × Nat)} {it : FI} {gt : FG} {tt : FT} (hc : X.calm = true) (hN : X.N.Nodup) (hi : DI X C Wx tg iter it) (ok : blkC X.N X.env.scope scope own = true)
    (hg : ∀ (s : Shared) (H : Hp) (Ca : Addr) (cl : List (Str × Addr)) (fp : List Addr), DG (X.blk s H scope (compEnvC scope cl Ca X.env) fp) C (own.map (·.2)) tg gt) (ht : ∀ (s : Shared) (H : Hp) (Ca : Addr) (cl : List (Str × Addr)) (fp : List Addr), DTs (X.blk s H scope (compEnvC scope cl Ca X.env) fp) C W0 ifs tt)
    (he : ∀ (s : Shared) (H : Hp) (Ca : Addr) (cl : List (Str × Addr)) (fp : List Addr), DE (X.blk s H scope (compEnvC scope cl Ca X.env) fp) C W0 elt f)
    (hsw : swapsWith (.ListComp elt [⟨tg, iter, ifs, 0⟩] scope pos) (some (.Name y py)) spos.line X.env = pure true) (hy : X.N[i]? = some y := by rfl) (hyl : X.env.scope.names.lookup y = some .local := by rfl) (hs : ∀ x, foldedSetIterable iter X.env x = pure x := by intro _; rfl) :
    DS X C Wx (.Assign [.Name y py] (.ListComp elt [⟨tg, iter, ifs, 0⟩] scope pos) spos) (sSet i (eLc (own.map (·.2)) it gt tt f)) :=
  ds_set_of (ps_setLc hc hN hy hyl hsw hi.pi (blkOk_by ok) (fun s H Ca cl fp => (hg s H Ca cl fp).pg) (fun s H Ca cl fp => (ht s H Ca cl fp).pts) (fun s H Ca cl fp => (he s H Ca cl fp).pe) hs) tLc_of
end
end Pd

set_option Elab.async false
set_option linter.all false
set_option maxRecDepth 100000
set_option maxHeartbeats 2000000
namespace Pd
open PySem PySem.Spec PyProof.Rows L2
/-! ### generator expressions within any, all -/
/-- the generator's own scope -/
structure GenOk (N : List Str) (sc scope : Scope) (own : List (Str × Nat)) : Prop where
  blk : BlkOk N sc scope own
  co : scope.isCoroutine = false
  cell : ∀ y ∈ scope.names, y.2 ≠ .cell
  dot : scope.names.lookup (".0" : Str) = some NameKind.local
abbrev Cx.gen (X : Cx) (Ag : Around) (s : Shared) (H : Hp) (cenv : PySem.Env) (fp : List Addr) : Cx := { X with A := Ag, s_0 := s, H_0 := H, env := cenv, outer := X.stack, stack := cenv :: X.stack, ex := fp, fn := fun _ => false, pn := [], xe := fun _ _ => False }
theorem Inv_gens {X : Cx} {pins : List (Addr × Obj)} {σ : St} {H : Hp} {s : Shared} {g' : Array GenState} (I : Inv X pins σ H s) (hg : AllBare g') : Inv X pins σ H { s with gens := g' } :=
  ⟨I.ok, I.os, hg, I.base, I.loc, I.cell, I.free, I.freeC, I.pin, I.hok, I.len⟩
section
variable {X : Cx} {pins : List (Addr × Obj)} {σ : St} {H : Hp} {s : Shared}
theorem gen_start {scope : Scope} {own : List (Str × Nat)} {fp : List Addr} {Ag : Around} {code : Value} {h' : Heap} {it : Value} {gs : Array GenState} {tk : Nat} {og : Obj} (I : Inv X pins σ H s) (ok : GenOk X.N X.env.scope scope own) (hN : X.N.Nodup) (hfp : ∀ b ∈ fp, FpOk X pins H b ∧ b < s.heap.objs.size)
    (hA : Ag.handled = X.A.handled) (hfr : Ag.frames = some (genEnv scope (cloFrom X.env.cells scope.names []) s.heap.objs.size code builtinsNs X.env :: X.stack)) (hg : AllBare gs)
    (hn' : h'.Ns s.heap.objs.size (fun y => if y = ".0" then some it else none)) (hs' : Heap.SameBut s.heap.objs.size (s.heap.push { cls := .type "frame", data := .dict #[] }) h') (hdot : (".0" : Str) ∉ X.N) (hog : og.isFreed = false) (hdat : ∀ v, og.data ≠ .cell v) :
    Inv (Cx.gen X Ag s H (genEnv scope (cloFrom X.env.cells scope.names []) s.heap.objs.size code builtinsNs X.env) fp) [(h'.objs.size, og)] (wipe σ (own.map (·.2))) H { s with gens := gs, toks := tk, heap := h'.push og } := by
  have hfree : ∀ y ∈ scope.names, y.2 = .free → ∃ c, X.env.cells.lookup y.1 = some c := fun y hy e => by
    rcases ok.blk.free y hy e with k | k
    · exact I.ok.has _ (.inl k)
    · exact I.ok.has _ (.inr k)
  have hsz : h'.objs.size = s.heap.objs.size + 1 := by rw [hs'.1, Heap.size_push]
  have kp : ∀ b o, s.heap.get? b = some o → (h'.push og).get? b = some o := fun b o e => Heap.get?_push_of_some _ (hs'.extBut b o (Nat.ne_of_lt (Heap.lt_size e)) (Heap.get?_push_of_some _ e))
  generalize hcenv : genEnv scope (cloFrom X.env.cells scope.names []) s.heap.objs.size code builtinsNs X.env = cenv
  have hL : cenv.locals = s.heap.objs.size := by rw [← hcenv]; rfl
  have hcl : cenv.cells = cloFrom X.env.cells scope.names [] := by rw [← hcenv]; rfl
  have hsc : cenv.scope = scope := by rw [← hcenv]; rfl
  have hf0 : cenv.frame = some cenv.locals := by rw [← hcenv]; rfl
  have cm : ∀ {y c}, (y, c) ∈ cloFrom X.env.cells scope.names [] → (y, NameKind.free) ∈ scope.names ∧ X.env.cells.lookup y = some c ∧ c < s.heap.objs.size := fun {y c} hm => by
    rcases cloFrom_mem hm with hm | ⟨h1, rfl⟩
    · cases hm
    · obtain ⟨c, hc⟩ := hfree _ h1 rfl
      rw [hc]
      obtain ⟨w, z⟩ := I.cell _ _ hc
      exact ⟨h1, rfl, z.lt⟩
  have mem : ∀ {y c}, cenv.cells.lookup y = some c → (y, NameKind.free) ∈ scope.names ∧ X.env.cells.lookup y = some c ∧ c < s.heap.objs.size := fun {y c} e => by
    rw [hcl] at e
    exact cm (PySem.mem_of_lookup e)
  have look : ∀ {y}, (y, NameKind.free) ∈ scope.names → ∃ c, cenv.cells.lookup y = some c ∧ X.env.cells.lookup y = some c := fun {y} hy => by
    obtain ⟨c', e'⟩ := mem_lookup (cloFrom_has (cells := X.env.cells) (acc := []) hy)
    exact ⟨c', by rw [hcl]; exact e', (cm (PySem.mem_of_lookup e')).2.1⟩
  have okB : (Cx.gen X Ag s H cenv fp).Ok := by
    refine ⟨I.ok.mod, by show cenv.scope.kind = _; rw [hsc]; exact ok.blk.kind, by show cenv.globals = _; rw [← hcenv]; exact I.ok.glob, by show cenv.builtins = _; rw [← hcenv]; rfl, by show s.heap.objs.size ≤ cenv.locals; rw [hL]; exact Nat.le_refl _,
      fun y z c e1 e2 => I.ok.inj y z c (mem e1).2.1 (mem e2).2.1, fun y hy => ?_, fun y c z e => (by cases z), fun hc => hA.trans (I.ok.hd hc), (by rw [hcenv] at hfr; exact hfr), .inr ⟨rfl, hf0⟩, fun b hb => ⟨?_, fun y c e z => ?_⟩, I.bs, Nat.le_trans I.ok.bsz I.sz, fun b o e hb => ?_, fun b hb z => ?_, I.stack, I.stkFree⟩
    · show ∃ c, cenv.cells.lookup y = some c
      rcases hy with hy | hy
      · have hy' : scope.names.lookup y = some .cell := by
          have : cenv.scope.names.lookup y = some .cell := hy
          rw [hsc] at this; exact this
        exact absurd rfl (ok.cell _ (PySem.mem_of_lookup hy'))
      · have hy' : scope.names.lookup y = some .free := by
          have : cenv.scope.names.lookup y = some .free := hy
          rw [hsc] at this; exact this
        obtain ⟨c, h1, _⟩ := look (PySem.mem_of_lookup hy')
        exact ⟨c, h1⟩
    · show b ≠ cenv.locals
      rw [hL]; exact Nat.ne_of_lt (hfp b hb).2
    · exact (hfp b hb).1.2.2.2.2.1 y c (mem e).2.1 z
    · rcases (hfp b hb).1.2.2.2.1 with z | z
      · exact I.ok.noex b o e z
      · exact absurd (Nat.lt_of_lt_of_le (Heap.lt_size e) (Nat.le_trans I.ok.bsz z)) (Nat.lt_irrefl _)
    · rcases List.mem_cons.mp (I.stkSub b z) with z | z
      · exact (hfp b hb).1.2.1 z
      · exact (hfp b hb).1.2.2.1 z
  refine ⟨okB, rfl, hg, Un.kept kp, ⟨(fun y => if y = ".0" then some it else none), ?_, fun i y av e1 e2 e3 => ?_⟩, fun y c e => ?_, ?_, fun y c e => I.freeC y c (mem e).2.1, fun p hp => ?_, I.hok.kept kp, by rw [wipe_length]; exact I.len⟩
  · show Heap.Ns _ cenv.locals _
    rw [hL]
    exact hn'.push _
  · obtain ⟨e2, hne⟩ := wipe_some e2
    have e3 : Vis cenv.scope y := e3
    rw [hsc] at e3
    have hfr' : scope.names.lookup y = some .free := by
      have no : ∀ k, scope.names.lookup y = some k → ¬ (k = .local ∨ k = .cell) := fun k e hh => by
        rcases ok.blk.own _ (PySem.mem_of_lookup e) hh with e' | e'
        · obtain ⟨p, hp, hpy⟩ := List.mem_map.mp e'
          have e3 := ok.blk.ix p hp
          have : p.1 = y := hpy
          rw [this] at e3
          exact hne (List.mem_map.mpr ⟨p, hp, nodup_ix hN e3 e1⟩)
        · exact e' (List.mem_of_getElem? e1)
      rcases e3 with e3 | e3 | e3
      · exact absurd (.inl rfl) (no _ e3)
      · exact absurd (.inr rfl) (no _ e3)
      · exact e3
    obtain ⟨m, hn, hl⟩ := I.loc
    have hvis : Vis X.env.scope y := (ok.blk.free _ (PySem.mem_of_lookup hfr') rfl).elim (fun k => .inr (.inl k)) (fun k => .inr (.inr k))
    obtain ⟨w, r, q⟩ := hl i y av e1 e2 hvis
    refine ⟨w, r, .inr ⟨.inr (by show cenv.scope.names.lookup y = _; rw [hsc]; exact hfr'), ?_⟩⟩
    obtain ⟨c, h1, h2⟩ := look (PySem.mem_of_lookup hfr')
    rcases q with ⟨k, _⟩ | ⟨_, c', e', z⟩
    · have k : X.env.scope.names.lookup y = some .local := k
      rcases ok.blk.free _ (PySem.mem_of_lookup hfr') rfl with k' | k' <;> rw [show X.env.scope.names.lookup y = _ from k'] at k <;> cases k
    · rw [h2] at e'; cases e'
      exact ⟨c, h1, z.keeps kp⟩
  · obtain ⟨w, z⟩ := I.cell y c (mem e).2.1
    exact ⟨w, z.keeps kp⟩
  · show H cenv.locals = none
    rw [hL]; exact I.hok.fresh (Nat.le_refl _)
  · have e : p = (h'.objs.size, og) := by simpa using hp
    subst e
    refine ⟨Heap.get?_push_size _ hog, I.hok.fresh (by rw [hsz]; exact Nat.le_succ _), ?_, ?_, hdat⟩
    · show h'.objs.size ≠ cenv.locals
      rw [hL, hsz]; exact Nat.succ_ne_self _
    · intro hb
      have hb : h'.objs.size ∈ frs X.stack := hb
      obtain ⟨_, o, ho, _⟩ := I.stack.mem hb
      exact absurd (Heap.lt_size ho) (by rw [hsz]; exact Nat.not_lt.mpr (Nat.le_succ _))
end

/-- any (k0 = false), all (k0 = true): from the left, as far as needed -/
def loopQ (k0 : Bool) (tg : FG) (f : FE) (e : Env) : List W → Sto → R Bool
  | [], m => .ok k0 m
  | w :: ws, m => match tg w e with
    | none => .bad
    | some e1 => (noX (f e1 m)).bind fun z m1 => (toB z m1).bind fun k m2 => if k = k0 then loopQ k0 tg f e ws m2 else .ok k m2
def eQ (k0 : Bool) (vs : List Nat) (it : FI) (tg : FG) (f : FE) : FE := fun e m => (it e m).bind fun items m1 => (loopQ k0 tg f (wipeE e vs) items m1).bind fun b m2 => .ok (.d (.bool b)) m2
section
variable {X : Cx} {C : Ct}
/-- the generator before turn j; at an end -/
structure GM (Y : Cx) (C : Ct) (σw : St) (pins : List (Addr × Obj)) (gI : Nat) (tn : Nat → Heap → Prop) (fp : List Addr) (M1 : Ad) (H1 : Hp) (j : Nat) (rest : Sto → Prop) (s : Shared) : Prop where
  ex : ∃ H' M' m', Inv Y pins σw H' s ∧ tn j s.heap ∧ (∀ b ∈ fp, H' b = none) ∧ gI < s.gens.size ∧ Go M1 H1 M' H' ∧ Ok C M' m' H' ∧ rest m'
structure GF (Y : Cx) (C : Ct) (pins : List (Addr × Obj)) (gI : Nat) (M1 : Ad) (H1 : Hp) (fin : Sto → Prop) (s : Shared) : Prop where
  ex : ∃ H' M' m' σw, Inv Y pins σw H' s ∧ gI < s.gens.size ∧ Go M1 H1 M' H' ∧ Ok C M' m' H' ∧ fin m'
theorem gen_loop {tg elt iter : Expr} {scope : Scope} {pos : Pos} {it : Addr} {cenv : PySem.Env} {A1 : Around} {s5 : Shared} {H5 H1 : Hp} {fp : List Addr} {J : It} {tn : Nat → Heap → Prop} {gt : FG} {f : FE} {items : List W} {k0 : Bool} {r0 : R Bool} {ew : Env} {σ1 : St} {M1 : Ad} {vs : List Nat} {pins : List (Addr × Obj)} {gI : Nat}
    (hc : X.calm = true) (T : Turn X.prog X.w X.K tg J fp it tn) (hco : cenv.scope.isCoroutine = false) (sv : Serves C M1 H1 J items) (rs1 : RS C.K H1 M1 σ1 ew)
    (hg : DG (Cx.gen X (A1.over (.compLoop (.GeneratorExp elt [⟨tg, iter, [], 0⟩] scope pos) 0 (.ref it) .none cenv) []) s5 H5 cenv fp) C vs tg gt)
    (he : DE (Cx.gen X (A1.over (.compLoop (.GeneratorExp elt [⟨tg, iter, [], 0⟩] scope pos) 0 (.ref it) .none cenv) []) s5 H5 cenv fp) C W0 elt f) (hw : L2.wipe σ1 vs = σ1) (hpin : ∀ b ∈ fp, ∀ p ∈ pins, p.1 ≠ b) (hb : r0 ≠ .bad) (hx : ∀ x m, r0 ≠ .exc x m) :
    ∀ (k j : Nat) (s₀ s : Shared), items.length - j = k → j ≤ items.length →
      GM (Cx.gen X (A1.over (.compLoop (.GeneratorExp elt [⟨tg, iter, [], 0⟩] scope pos) 0 (.ref it) .none cenv) []) s5 H5 cenv fp) C σ1 pins gI tn fp M1 H1 j (fun m' => r0 = loopQ k0 gt f ew (items.drop j) m') s →
      Seg (model X.prog X.w) A1 (fun n s₀ r s₁ => r = .ok .next ∧ GF (Cx.gen X (A1.over (.compLoop (.GeneratorExp elt [⟨tg, iter, [], 0⟩] scope pos) 0 (.ref it) .none cenv) []) s5 H5 cenv fp) C pins gI M1 H1 (fun m' => r0 = .ok k0 m') s₁)
        (fun m s₀ v s kap => ∃ j b, j < items.length ∧ m + j = items.length ∧ v = .bool b ∧ (b ≠ k0 → GF (Cx.gen X (A1.over (.compLoop (.GeneratorExp elt [⟨tg, iter, [], 0⟩] scope pos) 0 (.ref it) .none cenv) []) s5 H5 cenv fp) C pins gI M1 H1 (fun m' => r0 = .ok b m') s) ∧
          (b = k0 → GM (Cx.gen X (A1.over (.compLoop (.GeneratorExp elt [⟨tg, iter, [], 0⟩] scope pos) 0 (.ref it) .none cenv) []) s5 H5 cenv fp) C σ1 pins gI tn fp M1 H1 (j + 1) (fun m' => r0 = loopQ k0 gt f ew (items.drop (j + 1)) m') s) ∧
          ∀ s'', GM (Cx.gen X (A1.over (.compLoop (.GeneratorExp elt [⟨tg, iter, [], 0⟩] scope pos) 0 (.ref it) .none cenv) []) s5 H5 cenv fp) C σ1 pins gI tn fp M1 H1 (j + 1) (fun m' => r0 = loopQ k0 gt f ew (items.drop (j + 1)) m') s'' → kap (.send .none) s'')
        (items.length + 1 - j) s₀ (.compLoop (.GeneratorExp elt [⟨tg, iter, [], 0⟩] scope pos) 0 (.ref it) .none cenv)
        ((model X.prog X.w).den (.compLoop (.GeneratorExp elt [⟨tg, iter, [], 0⟩] scope pos) 0 (.ref it) .none cenv)) [] s := by
  generalize hY : Cx.gen X (A1.over (.compLoop (.GeneratorExp elt [⟨tg, iter, [], 0⟩] scope pos) 0 (.ref it) .none cenv) []) s5 H5 cenv fp = Y at hg he ⊢
  have YA : Y.A = A1.over (.compLoop (.GeneratorExp elt [⟨tg, iter, [], 0⟩] scope pos) 0 (.ref it) .none cenv) [] := by rw [← hY]
  have Yp : Y.prog = X.prog := by rw [← hY]
  have Yw : Y.w = X.w := by rw [← hY]
  have YK : Y.K = X.K := by rw [← hY]
  have Yc : Y.calm = true := by rw [← hY]; exact hc
  have Ye : Y.env = cenv := by rw [← hY]
  have Yx : Y.xe = fun _ _ => False := by rw [← hY]
  have Yex : Y.ex = fp := by rw [← hY]
  have Ypn : Y.pn = [] := by rw [← hY]
  have stat : ∀ {σ' : St} {H' : Hp} {s' : Shared} {ps : List (Addr × Obj)}, Inv Y ps σ' H' s' → (∀ b ∈ fp, ∀ p ∈ ps, p.1 ≠ b) → (∀ b ∈ fp, H' b = none) → ∀ b ∈ fp, FpOk Y ps H' b := fun {σ' H' s' ps} I' hp hn b hb =>
    ⟨hn b hb, (I'.ok.exf b (by rw [Yex]; exact hb)).1, I'.ok.exfs b (by rw [Yex]; exact hb), .inl (by rw [Yex]; exact hb), fun x c e => (I'.ok.exf b (by rw [Yex]; exact hb)).2 x c e, fun p hp' => hp b hb p (by rw [Ypn] at hp'; simpa using hp')⟩
  intro k
  induction k with
  | zero =>
    intro j s₀ s hk hj hG
    have hjn : j = items.length := by omega
    subst hjn
    obtain ⟨H', M', m', I, st, nf, hgs, gg, oo, er⟩ := hG.ex
    show Seg _ A1 _ _ _ s₀ _ ((compTurn (.GeneratorExp elt [⟨tg, iter, [], 0⟩] scope pos) 0 (.ref it) .none cenv).onRaise (leaving cenv)) [] s
    rw [compTurn_gen, Sem.onRaise_eq_wrap]
    refine seg_bind_wrap (wpAny_standAt ?_)
    have td := T.done Y Yp Yw YK Yc items.length pins s σ1 H' (fun _ _ => False) I (stat I hpin nf) st (sv.stop _ M' H' Hd.refl gg)
    rw [YA] at td
    refine seg_bind_wrap (GenW.wpAny_gsz hgs (thnF td fun r s1 hr hgs1 => ?_))
    obtain ⟨rfl, I1⟩ := hr
    rw [List.drop_length] at er
    exact seg_end (.ok .next) ⟨rfl, ⟨H', M', m', σ1, I1, hgs1, gg, oo, er⟩⟩
  | succ k ih =>
    intro j s₀ s hk hj hG
    have hlt : j < items.length := by omega
    obtain ⟨H', M', m', I, st, nf, hgs, gg, oo, er⟩ := hG.ex
    have en : items.length + 1 - j = (items.length + 1 - (j + 1)) + 1 := by omega
    rw [en]
    show Seg _ A1 _ _ _ s₀ _ ((compTurn (.GeneratorExp elt [⟨tg, iter, [], 0⟩] scope pos) 0 (.ref it) .none cenv).onRaise (leaving cenv)) [] s
    rw [compTurn_gen, Sem.onRaise_eq_wrap]
    refine seg_bind_wrap (wpAny_standAt ?_)
    have ti := T.item Y Yp Yw YK Yc j pins s σ1 H' (fun _ _ => False) I (stat I hpin nf) st (sv.go _ M' H' Hd.refl gg j hlt)
    rw [YA] at ti
    refine seg_bind_wrap (GenW.wpAny_gsz hgs (thnF ti fun r s1 hr hgs1 => ?_))
    obtain ⟨u, rfl, h1⟩ := hr
    refine seg_bind_wrap (GenW.wpAny_gsz hgs1 (thnF h1 fun _ s2 h2 hgs2 => ?_))
    obtain ⟨x, H2, I2, rx, hy, st2, nf2⟩ := h2
    obtain ⟨g2, rw2, o2⟩ := sv.yld _ M' H' Hd.refl gg j _ (List.getElem?_eq_getElem hlt) x H2 hy _ oo
    have I2' := I2.pinned (stat I2 hpin nf2) (T.obj _ _ st2)
    rw [List.drop_eq_getElem_cons hlt] at er
    unfold loopQ at er
    have gg2 := gg.trans g2
    cases ht : gt items[j] ew with
    | none => rw [ht] at er; exact absurd er hb
    | some e1 =>
      rw [ht] at er
      simp only at er
      have hasg := hg.pg.run _ s2 σ1 H2 x u (fun σ3 H3 => H3 = H2 ∧ RS C.K H2 M' σ3 e1 ∧ L2.wipe σ3 vs = L2.wipe σ1 vs) I2' rx ⟨M', ew, items[j], rs1.go gg2, rw2, by rw [ht]; exact fun σ' r' hw' => ⟨rfl, r', hw'⟩⟩
      rw [Yp, Yw, YA, Ye, Yx] at hasg
      refine seg_bind_wrap (GenW.wpAny_gsz hgs2 (thnF hasg fun _ s3 h3 hgs3 => ?_))
      obtain ⟨σ3, H3, I3, rfl, r3, hw3⟩ := h3
      have tst : ∀ (Q : Bool → Shared → Prop) (E : Value → Shared → Prop), Q true s3 → wpAny (model X.prog X.w) (A1.over (.compLoop (.GeneratorExp elt [⟨tg, iter, [], 0⟩] scope pos) 0 (.ref it) .none cenv) []) (forIn ([] : List Expr) true fun c r => if r = true then do let ok ← isTrue c cenv (eval c cenv); pure (ForInStep.yield ok) else pure (ForInStep.yield r)) Q E s3 := fun Q E q => by
        simp only [List.forIn_nil]
        exact wpAny_pure q
      refine seg_bind_wrap (tst _ _ ?_)
      simp only [if_true]
      have hy' : ∀ v, yieldOut cenv v = yieldValue v := fun v => by simp only [yieldOut, hco, Bool.false_eq_true, if_false]
      simp only [hy']
      rw [Sem.bind_eq_wrap', Sem.bind_eq_wrap', Sem.wrap_wrap, Sem.wrap_wrap]
      cases hf : f e1 m' with
      | bad => rw [hf] at er; exact absurd er hb
      | exc y m3 => rw [hf] at er; exact absurd er hb
      | ok z m3 =>
        rw [hf] at er
        simp only [noX, R.bind] at er
        have hel := he.pe.run _ s3 σ3 H3 (fun y H4 => ∃ M4, Go M' H3 M4 H4 ∧ Ok C M4 m3 H4 ∧ RW C.K H4 M4 y z) I3 ⟨M', m', e1, o2, r3, by
          rw [hf]
          exact fun M4 H4 g4 o4 v rv => ⟨M4, g4, o4, rv⟩⟩
        rw [Yp, Yw, YA, Ye, Yx] at hel
        refine seg_wrap (GenW.wpAny_gsz hgs3 (thnF hel fun v s4 h4 hgs4 => ?_))
        obtain ⟨y, H4, I4, ry, M4, g4, o4, rz⟩ := h4
        cases hz : toB z m3 with
        | bad => rw [hz] at er; exact absurd er hb
        | exc y m4 => rw [hz] at er; exact absurd er (hx y m4)
        | ok b m4 =>
          rw [hz] at er
          simp only at er
          have ezb : z = .d (.bool b) ∧ m4 = m3 := by
            unfold toB at hz
            split at hz
            · cases hz; exact ⟨rfl, rfl⟩
            · cases hz
          obtain ⟨rfl, rfl⟩ := ezb
          cases rz
          cases ry
          have tn4 : tn (j + 1) s4.heap := T.keep _ _ _ st2 fun b hb o e => (I4.pin (b, o) (List.mem_append_right _ (List.mem_append_right _ (mem_pinsAt hb e)))).1
          have nf4 : ∀ b ∈ fp, H4 b = none := fun b hb => by
            obtain ⟨o, e, _⟩ := T.obj _ _ st2 b hb
            exact (I4.pin (b, o) (List.mem_append_right _ (List.mem_append_right _ (mem_pinsAt hb e)))).2.1
          have I5 : Inv Y pins σ3 H4 s4 := I4.unpinned
          have hl : σ1.length = σ3.length := by rw [← hw, ← hw3, wipe_length]
          have I6 : Inv Y pins σ1 H4 s4 := I5.weak hl fun i v e => by
            rw [← hw, ← hw3] at e
            exact (wipe_some e).1
          have nextG : b = k0 → GM Y C σ1 pins gI tn fp M1 H1 (j + 1) (fun m' => r0 = loopQ k0 gt f ew (items.drop (j + 1)) m') s4 := fun e => by
            rw [if_pos e] at er
            exact ⟨H4, M4, m4, I6, tn4, nf4, hgs4, gg2.trans g4, o4, er⟩
          refine seg_at (seg_yield rfl rfl rfl ⟨j, b, hlt, by omega, rfl, fun e => ?_, nextG, fun s'' hG' => ?_⟩)
          · rw [if_neg e] at er
            exact ⟨H4, M4, m4, σ1, I6, hgs4, gg2.trans g4, o4, er⟩
          · exact seg_again rfl (ih (j + 1) s'' s'' (by omega) hlt hG')
end
end Pd

set_option Elab.async false
set_option linter.all false
set_option maxRecDepth 100000
set_option maxHeartbeats 2000000
namespace Pd
open PySem PySem.Spec PyProof.Rows L2
theorem bare_set {gs : Array GenState} {g : Nat} {x : GenState} (h : AllBare gs) (hx : x.bare = true) : AllBare (gs.setIfInBounds g x) := fun y hy => by
  obtain ⟨i, hi, rfl⟩ := Array.mem_iff_getElem.mp hy
  have hi' : i < gs.size := by simpa using hi
  rw [Array.getElem_setIfInBounds hi']
  split
  · exact hx
  · exact h _ (Array.getElem_mem hi')
theorem Serves.later {C : Ct} {M : Ad} {H H' : Hp} {J : It} {items : List W} (sv : Serves C M H J items) (hk : ∀ a o, H a = some o → (∀ ps, o ≠ .tbl ps) → H' a = some o) (hd : ∀ a, H' a = none → H a = none) : Serves C M H' J items := by
  have key : ∀ M0, Hd M H' M0 → Hd M H M0 := fun M0 h => ⟨h.1, fun b hb => (h.2 b hb).imp id (hd b)⟩
  have gg : ∀ M0 : Ad, Go M0 H M0 H' := fun M0 => ⟨⟨[], by simp, by simp⟩, rfl, fun a o e _ t => hk a o e t, hd⟩
  exact ⟨fun M0 M' H2 h g i hi => sv.go M0 M' H2 (key M0 h) ((gg M0).trans g) i hi, fun M0 M' H2 h g => sv.stop M0 M' H2 (key M0 h) ((gg M0).trans g), fun M0 M' H2 h g i w hw x H3 hy m' oo => sv.yld M0 M' H2 (key M0 h) ((gg M0).trans g) i w hw x H3 hy m' oo⟩
theorem loopQ_noexc {k0 : Bool} {tg : FG} {f : FE} {e : Env} : ∀ {ws : List W} {m : Sto} {x : Str} {m' : Sto}, loopQ k0 tg f e ws m ≠ .exc x m'
  | [], m, x, m' => by unfold loopQ; exact fun h => nomatch h
  | w :: ws, m, x, m' => by
    unfold loopQ
    cases tg w e with
    | none => exact fun h => nomatch h
    | some e1 =>
      simp only
      cases f e1 m with
      | bad => exact fun h => nomatch h
      | exc y m1 => exact fun h => nomatch h
      | ok z m1 =>
        simp only [noX, R.bind]
        cases hz : toB z m1 with
        | bad => exact fun h => nomatch h
        | exc y m2 =>
          unfold toB at hz
          split at hz <;> cases hz
        | ok k m2 =>
          simp only
          by_cases hk : k = k0
          · rw [if_pos hk]; exact loopQ_noexc
          · rw [if_neg hk]; exact fun h => nomatch h
section
variable {Y : Cx} {C : Ct} {σw : St} {pins : List (Addr × Obj)} {gI : Nat} {tn : Nat → Heap → Prop} {fp : List Addr} {M1 : Ad} {H1 : Hp} {j : Nat} {rest : Sto → Prop} {s : Shared}
theorem GM.gens {g' : Array GenState} (h : GM Y C σw pins gI tn fp M1 H1 j rest s) (hb : AllBare g') (hl : gI < g'.size) : GM Y C σw pins gI tn fp M1 H1 j rest { s with gens := g' } := by
  obtain ⟨H', M', m', I, a, b, _, c, d, e⟩ := h.ex
  exact ⟨H', M', m', Inv_gens I hb, a, b, hl, c, d, e⟩
theorem GM.bare (h : GM Y C σw pins gI tn fp M1 H1 j rest s) : AllBare s.gens := let ⟨_, _, _, I, _⟩ := h.ex; I.bare
theorem GM.gl (h : GM Y C σw pins gI tn fp M1 H1 j rest s) : gI < s.gens.size := let ⟨_, _, _, _, _, _, l, _⟩ := h.ex; l
theorem GF.gens {g' : Array GenState} (h : GF Y C pins gI M1 H1 rest s) (hb : AllBare g') (hl : gI < g'.size) : GF Y C pins gI M1 H1 rest { s with gens := g' } := by
  obtain ⟨H', M', m', σw, I, _, c, d, e⟩ := h.ex
  exact ⟨H', M', m', σw, Inv_gens I hb, hl, c, d, e⟩
theorem GF.bare (h : GF Y C pins gI M1 H1 rest s) : AllBare s.gens := let ⟨_, _, _, _, I, _⟩ := h.ex; I.bare
theorem GF.kept {h' : Heap} (h : GF Y C pins gI M1 H1 rest s) (k : ∀ b o, s.heap.get? b = some o → h'.get? b = some o) : GF Y C pins gI M1 H1 rest { s with heap := h' } := by
  obtain ⟨H', M', m', σw, I, l, c, d, e⟩ := h.ex
  exact ⟨H', M', m', σw, I.kept (t' := s.toks) k, l, c, d, e⟩
end
section
variable {prog : Program} {w : World} {A : Around} {Y : Cx} {C : Ct} {σw : St} {gI : Nat} {tn : Nat → Heap → Prop} {fp : List Addr} {M1 : Ad} {H1 : Hp} {a : Addr} {og : Obj} {n : Nat} {k0 : Bool} {rest : Nat → Sto → Prop} {fin : Bool → Sto → Prop}
theorem quant_step (hh : A.handled = none) (hroom : A.depth < recursionLimit) (hog : ∃ nm qn, og.cls = .type "generator" ∧ og.data = .fields #[.int gI 0, nm, qn] ∧ og.slots = #[]) {R : Result → Shared → Prop} {lid : String} (hid : lid = if k0 then "all.loop" else "any.loop")
    (hR : ∀ b s, GF Y C [(a, og)] gI M1 H1 (fin b) s → R (.ok (.ret (.bool b))) s) (j : Nat) (s : Shared) (hj : j ≤ n) (hG : GM Y C σw [(a, og)] gI tn fp M1 H1 j (rest j) s)
    (hgs : ∃ gs, s.gens[gI]? = some gs ∧ ∀ s'', GM Y C σw [(a, og)] gI tn fp M1 H1 j (rest j) s'' → gs.Goes (model prog w) A.in1.in1
        (fun n s₀ r s₁ => r = .ok .next ∧ GF Y C [(a, og)] gI M1 H1 (fin k0) s₁)
        (fun m s₀ v s kap => ∃ j b, j < n ∧ m + j = n ∧ v = .bool b ∧ (b ≠ k0 → GF Y C [(a, og)] gI M1 H1 (fin b) s) ∧ (b = k0 → GM Y C σw [(a, og)] gI tn fp M1 H1 (j + 1) (rest (j + 1)) s) ∧
          ∀ s'', GM Y C σw [(a, og)] gI tn fp M1 H1 (j + 1) (rest (j + 1)) s'' → kap (.send .none) s'') (n + 1 - j) (.send .none) s'')
    (ih : j < n → ∀ s, GM Y C σw [(a, og)] gI tn fp M1 H1 (j + 1) (rest (j + 1)) s → (∃ gs, s.gens[gI]? = some gs ∧ ∀ s'', GM Y C σw [(a, og)] gI tn fp M1 H1 (j + 1) (rest (j + 1)) s'' → gs.Goes (model prog w) A.in1.in1
        (fun n s₀ r s₁ => r = .ok .next ∧ GF Y C [(a, og)] gI M1 H1 (fin k0) s₁)
        (fun m s₀ v s kap => ∃ j b, j < n ∧ m + j = n ∧ v = .bool b ∧ (b ≠ k0 → GF Y C [(a, og)] gI M1 H1 (fin b) s) ∧ (b = k0 → GM Y C σw [(a, og)] gI tn fp M1 H1 (j + 1) (rest (j + 1)) s) ∧
          ∀ s'', GM Y C σw [(a, og)] gI tn fp M1 H1 (j + 1) (rest (j + 1)) s'' → kap (.send .none) s'') (n + 1 - (j + 1)) (.send .none) s'') →
      codeAny (model prog w) A (.builtin lid ⟨[.ref a], []⟩) R s) :
    codeAny (model prog w) A (.builtin lid ⟨[.ref a], []⟩) R s := by
    obtain ⟨gs, hg1, hgo⟩ := hgs
    have step : wpAny (model prog w) A.in1 (pyNext (.ref a)) (fun r s' => (r = none ∧ GF Y C [(a, og)] gI M1 H1 (fin k0) s') ∨ ∃ b, r = some (.bool b) ∧ (b ≠ k0 → GF Y C [(a, og)] gI M1 H1 (fin b) s') ∧ (b = k0 → codeAny (model prog w) A (.builtin lid ⟨[.ref a], []⟩) R s')) (fun e s' => R (.error e) s') s := by
      obtain ⟨H', M', m', I, _⟩ := id hG.ex
      obtain ⟨nm, qn, h1, h2, h3⟩ := hog
      have en : n + 1 - j = (n - j) + 1 := by omega
      rw [en] at hgo
      refine wpAny_pyNext_genexpQ (A := A.in1) (P := fun _ _ s₁ => GF Y C [(a, og)] gI M1 H1 (fin k0) s₁) hh I.nolimit hroom ⟨og, nm, qn, (I.pin (a, og) (by simp)).1, h1, h2, h3⟩ hg1 (hgo _ (hG.gens (bare_set hG.bare rfl) (by rw [Array.size_setIfInBounds]; exact hG.gl))) (fun v s₁ gs' hb hv => ?_) (fun s₁ hF h' hk => ?_)
      · obtain ⟨j', b, hl', e, rfl, hF, hM, hkap⟩ := hv
        have ej : j' = j := by omega
        subst ej
        refine .inr ⟨b, rfl, fun hne => ?_, fun he => ?_⟩
        · have hF := hF hne
          obtain ⟨_, _, _, _, _, hl, _⟩ := hF.ex
          exact GF.gens hF (bare_set hF.bare hb) (by rw [Array.size_setIfInBounds]; exact hl)
        · have hM := hM he
          refine ih hl' _ (hM.gens (bare_set hM.bare hb) (by rw [Array.size_setIfInBounds]; exact hM.gl)) ⟨gs', ?_, fun s'' h'' => ?_⟩
          · show (s₁.gens.setIfInBounds gI gs')[gI]? = some gs'
            simp [hM.gl]
          · have := hkap s'' h''
            rw [show n + 1 - (j' + 1) = n - j' by omega]
            exact this
      · obtain ⟨_, _, _, _, _, hl, _⟩ := hF.ex
        exact .inl ⟨rfl, (GF.gens hF (bare_set hF.bare rfl) (by rw [Array.size_setIfInBounds]; exact hl)).kept hk⟩
    cases k0 with
    | true =>
      have elid : lid = "all.loop" := by rw [hid]; rfl
      subst elid
      refine codeAny_builtin F.entry_all_loop ?_
      rw [Around.under_plainId F.plain_all_loop _]
      show wpAny _ A.in1 (pyNext (.ref a) >>= _) _ _ s
      refine wpAny_bind (wpAny_mono step (fun r s' hr => ?_) fun _ _ e => e)
      rcases hr with ⟨rfl, hF⟩ | ⟨b, rfl, hF, hM⟩
      · exact wpAny_bind (wpAny_rule (wpAny_pure (hR _ _ hF)))
      refine wpAny_bind (wpAny_holding (wpAny_truthy_bool ?_))
      refine wpAny_bind (wpAny_letGo ?_)
      cases b with
      | true =>
        simp only [if_true]
        exact wpAny_pure ⟨plainId_quiet F.plain_all_loop _, hM rfl⟩
      | false =>
        simp only [Bool.false_eq_true, if_false]
        exact wpAny_bind (wpAny_rule (wpAny_pure (hR _ _ (hF (by decide)))))
    | false =>
      have elid : lid = "any.loop" := by rw [hid]; rfl
      subst elid
      refine codeAny_builtin F.entry_any_loop ?_
      rw [Around.under_plainId F.plain_any_loop _]
      show wpAny _ A.in1 (pyNext (.ref a) >>= _) _ _ s
      refine wpAny_bind (wpAny_mono step (fun r s' hr => ?_) fun _ _ e => e)
      rcases hr with ⟨rfl, hF⟩ | ⟨b, rfl, hF, hM⟩
      · exact wpAny_bind (wpAny_rule (wpAny_pure (hR _ _ hF)))
      refine wpAny_bind (wpAny_holding (wpAny_truthy_bool ?_))
      refine wpAny_bind (wpAny_letGo ?_)
      cases b with
      | false =>
        simp only [Bool.false_eq_true, if_false]
        exact wpAny_pure ⟨plainId_quiet F.plain_any_loop _, hM rfl⟩
      | true =>
        simp only [if_true]
        exact wpAny_bind (wpAny_rule (wpAny_pure (hR _ _ (hF (by decide)))))
/-- the loop of all, any over the generator at a -/
theorem quant_loop (hh : A.handled = none) (hroom : A.depth < recursionLimit) (hog : ∃ nm qn, og.cls = .type "generator" ∧ og.data = .fields #[.int gI 0, nm, qn] ∧ og.slots = #[]) {R : Result → Shared → Prop} {lid : String} (hid : lid = if k0 then "all.loop" else "any.loop")
    (hR : ∀ b s, GF Y C [(a, og)] gI M1 H1 (fin b) s → R (.ok (.ret (.bool b))) s) :
    ∀ (k j : Nat) (s : Shared), n - j = k → j ≤ n → GM Y C σw [(a, og)] gI tn fp M1 H1 j (rest j) s →
      (∃ gs, s.gens[gI]? = some gs ∧ ∀ s'', GM Y C σw [(a, og)] gI tn fp M1 H1 j (rest j) s'' → gs.Goes (model prog w) A.in1.in1
        (fun n s₀ r s₁ => r = .ok .next ∧ GF Y C [(a, og)] gI M1 H1 (fin k0) s₁)
        (fun m s₀ v s kap => ∃ j b, j < n ∧ m + j = n ∧ v = .bool b ∧ (b ≠ k0 → GF Y C [(a, og)] gI M1 H1 (fin b) s) ∧ (b = k0 → GM Y C σw [(a, og)] gI tn fp M1 H1 (j + 1) (rest (j + 1)) s) ∧
          ∀ s'', GM Y C σw [(a, og)] gI tn fp M1 H1 (j + 1) (rest (j + 1)) s'' → kap (.send .none) s'') (n + 1 - j) (.send .none) s'') →
      codeAny (model prog w) A (.builtin lid ⟨[.ref a], []⟩) R s := by
  intro k
  induction k with
  | zero =>
    intro j s hk hj hG hgs
    have hjn : j = n := by omega
    subst hjn
    refine quant_step hh hroom hog hid hR j s (Nat.le_refl _) hG hgs fun h => absurd h (Nat.lt_irrefl _)
  | succ k ih =>
    intro j s hk hj hG hgs
    exact quant_step hh hroom hog hid hR j s hj hG hgs fun hlt s2 => ih (j + 1) s2 (by omega) hlt
end
end Pd

set_option Elab.async false
set_option linter.all false
set_option maxRecDepth 100000
set_option maxHeartbeats 2000000
namespace Pd
open PySem PySem.Spec PyProof.Rows L2
theorem Ok.tab_out {C : Ct} {M : Ad} {m : Sto} {H : Hp} (o : Ok C M m H) {P : Addr} {ps : Array Value} (hP : H P = some (.tbl ps)) : P ∉ M.loc := fun z => by
  obtain ⟨n, hn, e⟩ := List.mem_iff_getElem.mp z
  have e1 : M.loc[n]? = some P := by rw [List.getElem?_eq_getElem hn, e]
  have hm : n < m.length := by rw [← o.len]; exact hn
  have := o.cell n P m[n] e1 (List.getElem?_eq_getElem hm)
  cases hc : m[n] with
  | lst ws =>
    rw [hc] at this
    obtain ⟨vs, h1, _⟩ := this
    rw [hP] at h1
    cases h1
theorem go_tab {C : Ct} {M : Ad} {m : Sto} {H : Hp} (o : Ok C M m H) {P : Addr} {ps qs : Array Value} (hP : H P = some (.tbl ps)) : Go M H M (upd H P (.tbl qs)) :=
  ⟨⟨[], by simp, by simp⟩, rfl, fun a u e _ t => by
    have : a ≠ P := fun z => by subst z; rw [hP] at e; cases e; exact t _ rfl
    rw [upd_ne this]; exact e, fun a e => by
    by_cases z : a = P
    · subst z; rw [upd_same] at e; cases e
    · rw [upd_ne z] at e; exact e⟩
theorem Ok.tab_in {C : Ct} {M : Ad} {m : Sto} {H : Hp} (o : Ok C M m H) {P : Addr} {ps qs : Array Value} (hP : H P = some (.tbl ps)) (hq : TriplesOk qs.toList) : Ok C M m (upd H P (.tbl qs)) :=
  o.mo (go_tab o hP) (fun a ha => upd_ne fun z => o.tab_out hP (z ▸ ha)) fun Q hQ => by
    by_cases z : Q = P
    · subst z; exact ⟨qs, upd_same, hq⟩
    · obtain ⟨rs, h1, h2⟩ := o.tab Q hQ
      exact ⟨rs, by rw [upd_ne z]; exact h1, h2⟩
def genC (N : List Str) (sc scope : Scope) (own : List (Str × Nat)) : Bool :=
  blkC N sc scope own && !scope.isCoroutine && (scope.names.all fun y => match y.2 with | .cell => false | _ => true) && decide (scope.names.lookup (".0" : Str) = some NameKind.local) && decide ((".0" : Str) ∉ N)
theorem genOk_dot {N : List Str} {sc scope : Scope} {own : List (Str × Nat)} (h : genC N sc scope own = true) : (".0" : Str) ∉ N := by
  unfold genC at h
  rw [Bool.and_eq_true] at h
  exact of_decide_eq_true h.2
theorem genOk_by {N : List Str} {sc scope : Scope} {own : List (Str × Nat)} (h : genC N sc scope own = true) : GenOk N sc scope own := by
  unfold genC at h
  simp only [Bool.and_eq_true, List.all_eq_true, decide_eq_true_eq, Bool.not_eq_true'] at h
  obtain ⟨⟨⟨⟨h1, h2⟩, h3⟩, h4⟩, _⟩ := h
  exact ⟨blkOk_by h1, h2, fun y hy e => by have := h3 y hy; rw [e] at this; exact absurd this (by decide), h4⟩
theorem Room.gen {k : Nat} {A : Around} (r : Room (k + 1) A) {c : Code} (h1 : c.weight = 1) (h2 : c.cUnits ≤ 8) : Room k (A.in1.in1.over c []) :=
  ⟨r.hd, by
    have := r.dp
    show A.depth + frameCount [] + c.weight + 3 * k + 5 < _
    rw [h1, show frameCount [] = 0 from rfl]; omega, by
    have := r.un
    show A.units + 1 + 1 + unitsOf [] + c.cUnits + 16 * k + 200 < _
    rw [show unitsOf [] = 0 from rfl]; omega⟩
section
variable {X : Cx} {C : Ct} {Wx : WX} {f : FE}
theorem de_quant {nm : Str} {k0 : Bool} {c P : Addr} {tg elt iter : Expr} {scope : Scope} {own : List (Str × Nat)} {it : FI} {gt : FG} {p pos gpos : Pos} {k : Nat}
    (hc : X.calm = true) (hr : Room (k + 1) X.A) (hN : X.N.Nodup) (hnm : nm = if k0 then "all" else "any") (hg : Gl X nm) (hm : X.mg nm = none) (TB : GxR.TabB X.base X.mg c P) (hcode : X.env.code = .ref c) (hPT : P ∈ C.T)
    (hi : DI X C Wx tg iter it) (ok : genC X.N X.env.scope scope own = true)
    (hgt : ∀ (Ag : Around) (s : Shared) (H : Hp) (cl : List (Str × Addr)) (L : Addr) (code : Value) (fp : List Addr), Room k Ag → DG (Cx.gen X Ag s H (genEnv scope cl L code builtinsNs X.env) fp) C (own.map (·.2)) tg gt)
    (he : ∀ (Ag : Around) (s : Shared) (H : Hp) (cl : List (Str × Addr)) (L : Addr) (code : Value) (fp : List Addr), Room k Ag → DE (Cx.gen X Ag s H (genEnv scope cl L code builtinsNs X.env) fp) C W0 elt f)
    (hs : ∀ x, genFold iter X.env x = pure x := by intro _; rfl)
    (hst : starEach [.GeneratorExp elt [⟨tg, iter, [], 0⟩] scope gpos] X.env = (false, eval (.GeneratorExp elt [⟨tg, iter, [], 0⟩] scope gpos) X.env) :: starEach [] X.env := by rfl) :
    DE X C Wx (.Call (.Name nm p) [.GeneratorExp elt [⟨tg, iter, [], 0⟩] scope gpos] [] pos) (eQ k0 (own.map (·.2)) it gt f) := by
  have GO := genOk_by ok
  have hdot := genOk_dot ok
  refine ⟨⟨fun pins s σ H Q I ⟨M, m, e, o0, rs, q⟩ => ?_⟩⟩
  have hboot : ∃ id, bootBuiltins nm = some (.builtin id) ∧ id = if k0 then "all" else "any" := by
    cases k0 with
    | true => rw [hnm]; exact ⟨"all", boot_all, rfl⟩
    | false => rw [hnm]; exact ⟨"any", boot_any, rfl⟩
  obtain ⟨id, hb, hid⟩ := hboot
  have hn1 : nm ≠ "__name__" := by rw [hnm]; cases k0 <;> decide
  have hn2 : (nm == ("__debug__" : Str)) = false := by rw [hnm]; cases k0 <;> decide
  refine wpAny_Call_Name_kw (ld_blt I hg hm hb ?_ hn1 hn2)
  refine PyProof.Rows.callWith_builtin1 ?_ hst (by rfl)
  rw [hst]
  show wpAny _ _ (spliced ((false, eval (.GeneratorExp elt [⟨tg, iter, [], 0⟩] scope gpos) X.env) :: backTo pos (starEach [] X.env))) _ _ s
  refine Calls.spliced_cons ?_
  have hfree : ∀ y ∈ scope.names, y.2 = .free → ∃ c, X.env.cells.lookup y.1 = some c := fun y hy e => by
    rcases GO.blk.free y hy e with k | k
    · exact I.ok.has _ (.inl k)
    · exact I.ok.has _ (.inr k)
  refine wpAny_GeneratorExp_make GO.co (closure_ok hfree) GO.cell GO.dot GO.blk.kind (by have := hr.dp; omega) ?_ hs
  refine thn (hi.pi.run pins s σ H (fun J H1 => ∃ items M1 m1, Serves C M1 H1 J items ∧ Ok C M1 m1 H1 ∧ RS C.K H1 M1 σ e ∧
    Post C (ExW C Wx σ) M1 H1 ((loopQ k0 gt f (wipeE e (own.map (·.2))) items m1).bind fun b m2 => .ok (.d (.bool b)) m2) fun w M' m' H' => ∀ v, RW C.K H' M' v w → Q v H') I ⟨M, m, e, o0, rs, Post.mono q.bind fun items M1 m1 H1 g1 o1 q1 J sv => ⟨items, M1, m1, sv, o1, rs.go g1, q1⟩⟩) fun xv s1 h1 => ?_
  refine thn h1 fun itv s2 ⟨ita, fp, tn, J, H1, eit, I1, T, t0, hfp, items, M1, m1, sv, o1, rs1, q1⟩ => ?_
  subst eit
  refine ⟨I1.nolimit, ?_⟩
  obtain ⟨ps, hP, ht⟩ := o1.tab P hPT
  have hPs : s2.heap.get? P = some { cls := .none, data := .fields ps } := I1.hok P _ hP
  have cd : PySem.W.CodeHd s2.heap c P := TB.code.keeps fun b u e => I1.bk b u e
  have cont : ∀ (code : Value) (h3 : Heap) (tk : Nat) (ps' : Array Value), Heap.ExtBut P s2.heap h3 → s2.heap.objs.size ≤ h3.objs.size → h3.get? P = some { cls := .none, data := .fields ps' } → (∃ more, ps' = ps ++ more) → TriplesOk ps'.toList →
      wpAny (model X.prog X.w) X.A (builtinsFor X.env.globals X.env.builtins) (fun bi s₄ => ∀ h', h'.Ns s₄.heap.objs.size (fun y => if y = ".0" then some (.ref ita) else none) → Heap.SameBut s₄.heap.objs.size (s₄.heap.push { cls := .type "frame", data := .dict #[] }) h' →
          wpAny (model X.prog X.w) X.A (spliced (backTo pos (starEach [] X.env))) (fun vs s₂ => wpAny (model X.prog X.w) X.A (call (.builtin id) (Value.ref h'.objs.size :: vs)) (EP X pins σ Q) X.xe s₂) X.xe { s₄ with
            gens := s₄.gens.push (.fresh (.compStart (.GeneratorExp elt [⟨tg, iter, [], 0⟩] scope gpos) 0 (.ref ita) .none (genEnv scope (cloFrom X.env.cells scope.names []) s₄.heap.objs.size code bi X.env))),
            toks := s₄.toks + 1 + 1 + 1,
            heap := h'.push { cls := .type "generator", data := .fields #[.int s₄.gens.size 0, .str "<genexpr>" (s₄.toks + 1), .str (X.env.qual ++ "<genexpr>") (s₄.toks + 1 + 1)] } }) X.xe { s2 with heap := h3, toks := tk } := by
    intro code h3 tk ps' hx hsz hP3 hmore ht3
    obtain ⟨more, rfl⟩ := hmore
    obtain ⟨bm, ob, e1, e2, e3, e4, e5, e6, e7, e8⟩ := TB.bm
    have keep3 : ∀ b u, b ≠ P → s2.heap.get? b = some u → h3.get? b = some u := fun b u hb e => hx b u hb e
    refine wpAny_builtinsFor (m := X.mg) (by rw [I1.ok.glob]; exact (I1.mod.glob.keeps I1.bk).extBut hx TB.gP) e1 e2 (keep3 _ _ e4 (I1.bk _ _ e5)) e6 e7 e8 ?_
    intro h' hn' hs'
    refine Calls.spliced_nil ?_
    have I2 : Inv X pins σ (upd H1 P (.tbl (ps ++ more))) { s2 with heap := h3, toks := tk } := GxR.inv_tab (more := more) (h' := h3) (g' := s2.gens) (d' := s2.drawn) (t' := tk) I1 hP keep3 hP3 I1.bare
    have o2 := o1.tab_in hP ht3
    have g2 : Go M1 H1 M1 (upd H1 P (.tbl (ps ++ more))) := go_tab o1 hP
    have sv2 := sv.later (H' := upd H1 P (.tbl (ps ++ more))) (fun a o e t => by
      have : a ≠ P := fun z => by subst z; rw [hP] at e; cases e; exact t _ rfl
      rw [upd_ne this]; exact e) g2.dom
    generalize hH2 : upd H1 P (.tbl (ps ++ more)) = H2 at I2 o2 g2 sv2
    have nfp : ∀ b ∈ fp, b ≠ P := fun b hb z => by
      have := (hfp b hb).1
      rw [z, hP] at this
      cases this
    have fp2 : ∀ b ∈ fp, FpOk X pins H2 b ∧ b < h3.objs.size := fun b hb => ⟨⟨by rw [← hH2, upd_ne (nfp b hb)]; exact (hfp b hb).1, (hfp b hb).2⟩, by
      obtain ⟨o, ho, _⟩ := T.obj _ _ t0 b hb
      exact Nat.lt_of_lt_of_le (Heap.lt_size ho) hsz⟩
    have hsz2 : h'.objs.size = h3.objs.size + 1 := by rw [hs'.1, Heap.size_push]
    have kp : ∀ b o, h3.get? b = some o → ∀ og : Obj, (h'.push og).get? b = some o := fun b o e og => Heap.get?_push_of_some _ (hs'.extBut b o (Nat.ne_of_lt (Heap.lt_size e)) (Heap.get?_push_of_some _ e))
    generalize hog : ({ cls := .type "generator", data := .fields #[.int s2.gens.size 0, .str "<genexpr>" (tk + 1), .str (X.env.qual ++ "<genexpr>") (tk + 1 + 1)] } : Obj) = og
    have hogF : og.isFreed = false := by rw [← hog]; rfl
    have hogD : ∀ v, og.data ≠ .cell v := fun v z => by rw [← hog] at z; cases z
    have hogG : ∃ nm qn, og.cls = .type "generator" ∧ og.data = .fields #[.int s2.gens.size 0, nm, qn] ∧ og.slots = #[] := by rw [← hog]; exact ⟨_, _, rfl, rfl, rfl⟩
    generalize hcenv : genEnv scope (cloFrom X.env.cells scope.names []) h3.objs.size code builtinsNs X.env = cenv
    generalize hAg : X.A.in1.in1.over (.compLoop (.GeneratorExp elt [⟨tg, iter, [], 0⟩] scope gpos) 0 (.ref ita) .none cenv) [] = Ag
    have hAgr : Room k Ag := by rw [← hAg]; exact Room.gen hr rfl (Nat.le_of_ble_eq_true rfl)
    have hAgh : Ag.handled = X.A.handled := by rw [← hAg]; rfl
    have hAgf : Ag.frames = some (cenv :: X.stack) := by
      rw [← hAg]
      show pushEnvs [cenv] (pushEnvs [] X.A.frames) = _
      rw [I.ok.frames]
      rfl
    generalize hgs : s2.gens.push (.fresh (.compStart (.GeneratorExp elt [⟨tg, iter, [], 0⟩] scope gpos) 0 (.ref ita) .none cenv)) = gs
    have gsB : AllBare gs := by rw [← hgs]; exact I1.bare.push rfl
    have gsL : s2.gens.size < gs.size := by rw [← hgs, Array.size_push]; exact Nat.lt_succ_self _
    have gsG : gs[s2.gens.size]? = some (.fresh (.compStart (.GeneratorExp elt [⟨tg, iter, [], 0⟩] scope gpos) 0 (.ref ita) .none cenv)) := by rw [← hgs]; simp
    have I3 := gen_start (own := own) (fp := fp) (Ag := Ag) (code := code) (gs := gs) (tk := tk + 1 + 1 + 1) (og := og) I2 GO hN fp2 hAgh (by rw [hcenv]; exact hAgf) gsB hn' hs' hdot hogF hogD
    rw [hcenv] at I3
    have sz5 : h3.objs.size ≠ h'.objs.size := by rw [hsz2]; omega
    have fpog : ∀ b ∈ fp, ∀ pp ∈ [(h'.objs.size, og)], pp.1 ≠ b := fun b hb pp hp z => by
      have e : pp = (h'.objs.size, og) := by simpa using hp
      rw [e] at z
      have := (fp2 b hb).2
      rw [← z, hsz2] at this
      exact absurd this (Nat.not_lt.mpr (Nat.le_succ _))
    have t5 : tn 0 (h'.push og) := T.keep _ _ _ t0 fun b hb o e => kp b o (keep3 b o (nfp b hb) e) og
    have rs3 : RS C.K H2 M1 (L2.wipe σ (own.map (·.2))) (wipeE e (own.map (·.2))) := (rs1.go g2).wipe _
    generalize hew : wipeE e (own.map (·.2)) = ew at q1 rs3
    generalize hr0 : loopQ k0 gt f ew items m1 = r0 at q1
    have hb0 : r0 ≠ .bad := fun z => by rw [z] at q1; exact q1
    have hx0 : ∀ x m, r0 ≠ .exc x m := fun x m z => loopQ_noexc (hr0.trans z)
    have G0 : ∀ s'', s'' = ({ s2 with gens := gs, toks := tk + 1 + 1 + 1, heap := h'.push og } : Shared) → GM (Cx.gen X Ag { s2 with heap := h3, toks := tk } H2 cenv fp) C (L2.wipe σ (own.map (·.2))) [(h'.objs.size, og)] s2.gens.size tn fp M1 H2 0 (fun m' => r0 = loopQ k0 gt f ew (items.drop 0) m') s'' := fun s'' z => by
      subst z
      exact ⟨H2, M1, m1, I3, t5, fun b hb => (fp2 b hb).1.1, gsL, Go.refl, o2, hr0.symm⟩
    have back : ∀ b s'', GF (Cx.gen X Ag { s2 with heap := h3, toks := tk } H2 cenv fp) C [(h'.objs.size, og)] s2.gens.size M1 H2 (fun m' => r0 = .ok b m') s'' → EP X pins σ Q (.bool b) s'' := fun b s'' hF => by
      obtain ⟨H', M', m', σw, J5, gl, g5, o5, er⟩ := hF.ex
      rw [er] at q1
      have J6 : Inv X pins σ H' s'' := Inv.call' (ch := fp) I2 J5.os J5.base J5.hok J5.bare fun b hb => ⟨(fp2 b hb).1.2.2.2.1, (fp2 b hb).1.2.1, (fp2 b hb).1.2.2.2.2.1, (fp2 b hb).1.2.2.2.2.2⟩
      exact ⟨.bl b, H', J6, rfl, q1 M' H' (g2.trans g5) o5 _ (Rp.bl b)⟩
    have loop : ∀ s₀ s'', GM (Cx.gen X Ag { s2 with heap := h3, toks := tk } H2 cenv fp) C (L2.wipe σ (own.map (·.2))) [(h'.objs.size, og)] s2.gens.size tn fp M1 H2 0 (fun m' => r0 = loopQ k0 gt f ew (items.drop 0) m') s'' → _ := fun s₀ s'' hG =>
      gen_loop (A1 := X.A.in1.in1) (s5 := { s2 with heap := h3, toks := tk }) (H5 := H2) (r0 := r0) (ew := ew) (σ1 := L2.wipe σ (own.map (·.2))) (gI := s2.gens.size) (k0 := k0) (f := f) (gt := gt) (pins := [(h'.objs.size, og)]) (iter := iter) (pos := gpos) (scope := scope) hc T (cenv := cenv) (by rw [← hcenv]; exact GO.co) sv2 rs3
        (by rw [hAg]; rw [← hcenv]; exact hgt _ _ _ _ _ _ _ hAgr) (by rw [hAg]; rw [← hcenv]; exact he _ _ _ _ _ _ _ hAgr) (wipe_wipe _) fpog hb0 hx0 items.length 0 s₀ s'' rfl (Nat.zero_le _) (by rw [hAg]; exact hG)
    have start : ∀ s'', GM (Cx.gen X Ag { s2 with heap := h3, toks := tk } H2 cenv fp) C (L2.wipe σ (own.map (·.2))) [(h'.objs.size, og)] s2.gens.size tn fp M1 H2 0 (fun m' => r0 = loopQ k0 gt f ew (items.drop 0) m') s'' →
        GenState.Goes (model X.prog X.w) X.A.in1.in1 (fun n s₀ r s₁ => r = .ok .next ∧ GF (Cx.gen X Ag { s2 with heap := h3, toks := tk } H2 cenv fp) C [(h'.objs.size, og)] s2.gens.size M1 H2 (fun m' => r0 = .ok k0 m') s₁)
          (fun m s₀ v s kap => ∃ j b, j < items.length ∧ m + j = items.length ∧ v = .bool b ∧ (b ≠ k0 → GF (Cx.gen X Ag { s2 with heap := h3, toks := tk } H2 cenv fp) C [(h'.objs.size, og)] s2.gens.size M1 H2 (fun m' => r0 = .ok b m') s) ∧
            (b = k0 → GM (Cx.gen X Ag { s2 with heap := h3, toks := tk } H2 cenv fp) C (L2.wipe σ (own.map (·.2))) [(h'.objs.size, og)] s2.gens.size tn fp M1 H2 (j + 1) (fun m' => r0 = loopQ k0 gt f ew (items.drop (j + 1)) m') s) ∧
            ∀ s'', GM (Cx.gen X Ag { s2 with heap := h3, toks := tk } H2 cenv fp) C (L2.wipe σ (own.map (·.2))) [(h'.objs.size, og)] s2.gens.size tn fp M1 H2 (j + 1) (fun m' => r0 = loopQ k0 gt f ew (items.drop (j + 1)) m') s'' → kap (.send .none) s'')
          (items.length + 1 - 0) (.fresh (.compStart (.GeneratorExp elt [⟨tg, iter, [], 0⟩] scope gpos) 0 (.ref ita) .none cenv)) (.send .none) s'' := fun s'' hG => by
      have L := loop s'' s'' hG
      rw [hAg] at L
      obtain ⟨_, _, _, _, t6, _⟩ := hG.ex
      refine ⟨rfl, ?_⟩
      show Seg _ X.A.in1.in1 _ _ _ s'' _ ((compStart (.GeneratorExp elt [⟨tg, iter, [], 0⟩] scope gpos) 0 (.ref ita) .none cenv).onRaise (leaving cenv)) [] s''
      unfold compStart
      rw [Sem.onRaise_eq_wrap]
      show Seg _ X.A.in1.in1 _ _ _ s'' _ ((ask >>= _).wrap _ _ _ _) [] s''
      refine seg_bind_wrap (wpAny_askSetting ?_)
      split
      · exact seg_again rfl L
      · refine seg_bind_wrap (wpAny_rule ?_)
        show Seg _ X.A.in1.in1 _ _ _ s'' _ ((standAt iter.pos >>= _).wrap _ _ _ _) [] s''
        exact seg_bind_wrap (wpAny_standAt (seg_bind_wrap (T.self _ 0 s'' _ _ t6 (seg_again rfl L))))
    have ql : ∀ lid, lid = (if k0 then "all.loop" else "any.loop") → codeAny (model X.prog X.w) X.A (.builtin lid ⟨[.ref h'.objs.size], []⟩) (fun r s' => match r with | .ok (.ret v) => EP X pins σ Q v s' | .ok _ => False | .error e => X.xe e s') { s2 with gens := gs, toks := tk + 1 + 1 + 1, heap := h'.push og } := fun lid hl =>
      quant_loop (A := X.A) (a := h'.objs.size) (og := og) (n := items.length) (k0 := k0) (rest := fun j m' => r0 = loopQ k0 gt f ew (items.drop j) m') (fin := fun b m' => r0 = .ok b m') hr.hd (by have := hr.dp; omega) hogG hl (fun b s h => back b s h) items.length 0 _ rfl (Nat.zero_le _) (G0 _ rfl) ⟨_, gsG, start⟩
    have isg : (h'.push og).IsGen h'.objs.size s2.gens.size := by
      obtain ⟨nm, qn, h1, h2, h3⟩ := hogG
      exact ⟨og, nm, qn, Heap.get?_push_size _ hogF, h1, h2, h3⟩
    cases k0 with
    | true =>
      have eid : id = "all" := by rw [hid]; rfl
      subst eid
      refine call_function_tree F.kind_all F.plain_all F.entry_all (F.args_all1 _) ?_
      unfold Builtin.«all»
      refine wpAny_bind (m := oneArg "all" _) (wpAny_pure ?_)
      refine wpAny_bind (wpAny_pyIter_gen isg ?_)
      exact wpAny_pure ⟨plainId_quiet F.plain_all_loop _, ql _ rfl⟩
    | false =>
      have eid : id = "any" := by rw [hid]; rfl
      subst eid
      refine call_function_tree F.kind_any F.plain_any F.entry_any (F.args_any1 _) ?_
      unfold Builtin.«any»
      refine wpAny_bind (m := oneArg "any" _) (wpAny_pure ?_)
      refine wpAny_bind (wpAny_pyIter_gen isg ?_)
      exact wpAny_pure ⟨plainId_quiet F.plain_any_loop _, ql _ rfl⟩
  cases hf : codeAmong gpos ps.toList with
  | none =>
    refine wpAny_genexprCodeX hcode (cd.code hPs ht) (cd.tab hPs) hf fun c' h' tk hx hge hlt hco' _ htab' _ => ?_
    obtain ⟨o1, vs, f1, tf, fl, tg, inF, tx, tt, op, _, _, _, _, _, _, _, _, _, htr, _⟩ := hco'
    exact cont _ h' tk _ hx (Nat.le_trans hge (Nat.le_of_lt hlt)) htab'.2 ⟨_, rfl⟩ htr
  | some cv =>
    refine wpAny_genexprCode_hit hcode (cd.code hPs ht) hf ?_
    exact cont cv s2.heap s2.toks ps (Heap.ExtBut.refl _ _) (Nat.le_refl _) hPs ⟨#[], by simp⟩ ht
end
end Pd

set_option Elab.async false
set_option linter.all false
set_option maxRecDepth 100000
set_option maxHeartbeats 2000000
namespace Pd
open PySem PySem.Spec PyProof.Rows L2
/-! ### zip of two, of three, lists or tuples -/
inductive Src where
  | l (a : Addr)
  | t (a : Addr)
def Src.ad : Src → Addr
  | .l a => a
  | .t a => a
def Src.sq (K : PySem.W.Frag) (H : Hp) : Src → List V → Prop
  | .l a, xs => SqL K H a xs
  | .t a, xs => SqT K H a xs
def Src.it (i : Addr) (j : Nat) (h : Heap) : Src → Prop
  | .l a => h.IsListIter i a j
  | .t a => h.IsTupleIter i a j
def Src.is (h : Heap) (its : Array Value) : Src → Prop
  | .l a => h.IsList a its
  | .t a => h.IsTuple a its
def Src.ob : Src → Obj
  | .l a => { cls := .type "list_iterator", data := .fields #[.ref a, .int 0 0] }
  | .t a => { cls := .type "tuple_iterator", data := .fields #[.ref a, .int 0 0] }
theorem Src.draws {prog : Program} {w : World} {A : Around} (hh : A.handled = none) (S : Src) (i : Addr) (hne : S.ad ≠ i) (items : Array Value) :
    Draws prog w A i [i, S.ad] items.size (fun j v => items[j]? = some v) (fun j h => S.it i j h ∧ S.is h items) := by
  cases S with
  | l a => exact Draws.list hh i a hne items
  | t a => exact Draws.tuple hh i a hne items
theorem Src.begins (S : Src) (items : Array Value) : Begins (.ref S.ad) S.ob fun h => S.is h items := by
  cases S with
  | l a => exact begins_list a items
  | t a => exact begins_tuple a items
theorem Src.it_at {S : Src} {i : Addr} {j : Nat} {h h' : Heap} (x : S.it i j h) (k : ∀ o, h.get? i = some o → h'.get? i = some o) : S.it i j h' := by
  cases S with
  | l a => obtain ⟨o, e, r⟩ := x; exact ⟨o, k o e, r⟩
  | t a => obtain ⟨o, e, r⟩ := x; exact ⟨o, k o e, r⟩
theorem Src.it_obj {S : Src} {i : Addr} {j : Nat} {h : Heap} (x : S.it i j h) : ∃ o, h.get? i = some o ∧ ∀ v, o.data ≠ .cell v := by
  cases S with
  | l a => obtain ⟨o, e, _, d⟩ := x; exact ⟨o, e, fun v q => by rw [d] at q; cases q⟩
  | t a => obtain ⟨o, e, _, d⟩ := x; exact ⟨o, e, fun v q => by rw [d] at q; cases q⟩
theorem Src.it_ob {S : Src} {i : Addr} {h : Heap} (e : h.get? i = some S.ob) : S.it i 0 h := by
  cases S with
  | l a => exact ⟨_, e, rfl, rfl⟩
  | t a => exact ⟨_, e, rfl, rfl⟩
theorem Src.lt {S : Src} {h : Heap} {items : Array Value} (x : S.is h items) : S.ad < h.objs.size := by
  cases S with
  | l a => obtain ⟨o, e, _⟩ := x; exact Heap.lt_size e
  | t a => obtain ⟨o, e, _⟩ := x; exact Heap.lt_size e
section
variable {X : Cx} {pins : List (Addr × Obj)} {σ : St} {H : Hp} {s : Shared}
theorem Src.get {S : Src} {xs : List V} (I : Inv X pins σ H s) (h : S.sq X.K H xs) : ∃ its : List Value, Vals xs its ∧ S.is s.heap its.toArray ∧ xs.length ≤ sizeLine := by
  cases S with
  | l a => obtain ⟨its, r, p, z⟩ := I.list h; exact ⟨its, r, p.isList, z⟩
  | t a => obtain ⟨its, r, p, z⟩ := I.tuple h; exact ⟨its, r, p, z⟩
theorem Src.inj {S : Src} {xs ys : List V} (I : Inv X pins σ H s) (h : S.sq X.K H xs) (h' : S.sq X.K H ys) : xs = ys := by
  cases S with
  | l a => exact I.list_inj h h'
  | t a => exact I.tuple_inj h h'
end
def Itz2 (K : PySem.W.Frag) (S1 S2 : Src) : It :=
  ⟨fun i H => ∃ xs ys : List V, S1.sq K H xs ∧ S2.sq K H ys ∧ i < min xs.length ys.length,
    fun i H v H' => ∃ T x y, v = .ref T ∧ H T = none ∧ H' = upd H T (.tup [x, y]) ∧ (∀ xs, S1.sq K H xs → xs[i]? = some x) ∧ ∀ ys, S2.sq K H ys → ys[i]? = some y,
    fun i H => ∃ xs ys : List V, S1.sq K H xs ∧ S2.sq K H ys ∧ i = min xs.length ys.length⟩
theorem two_mem {z TI TO i1 i2 c : Addr} (h : c ∈ [z, TI, TO, i1, i2]) : c = z ∨ c = TI ∨ c = TO ∨ c = i1 ∨ c = i2 := by simpa using h
theorem turn_z2 {P : Program} {w : World} {K : PySem.W.Frag} {elts : List Expr} {kk : Nat} {tpos : Pos} {S1 S2 : Src} {z TI TO i1 i2 : Addr} (n1 : S1.ad ≠ i1) (n2 : S2.ad ≠ i2) (D : ZipSep2 z TI TO i1 i2 [i1, S1.ad] [i2, S2.ad]) :
    Turn P w K (.Tuple elts kk tpos) (Itz2 K S1 S2) [z, TI, TO, i1, i2] z (fun i h => IsZip h z TI TO .none ∧ IsTupOf2 h TI (.ref i1) (.ref i2) ∧ (∃ x y, IsTupOf2 h TO x y) ∧ S1.it i1 i h ∧ S2.it i2 i h) where
  mem := by simp
  obj := fun i h st c hc => by
    obtain ⟨hz, hTI, ⟨x, y, hTO⟩, h1, h2⟩ := st
    rcases two_mem hc with q | q | q | q | q
    · rw [q]; exact ⟨_, hz, fun v q => nomatch q⟩
    · rw [q]; exact ⟨_, hTI, fun v q => nomatch q⟩
    · rw [q]; exact ⟨_, hTO, fun v q => nomatch q⟩
    · rw [q]; exact Src.it_obj h1
    · rw [q]; exact Src.it_obj h2
  keep := fun i h h' st k => by
    obtain ⟨hz, hTI, ⟨x, y, hTO⟩, h1, h2⟩ := st
    exact ⟨k z (by simp) _ hz, k TI (by simp) _ hTI, ⟨x, y, k TO (by simp) _ hTO⟩, Src.it_at h1 fun o q => k i1 (by simp) o q, Src.it_at h2 fun o q => k i2 (by simp) o q⟩
  item := by
    intro X hP hw hK hc i pins s σ H E I hf st hg
    subst hP hw hK
    obtain ⟨hz, hTI, hTO, h1, h2⟩ := st
    obtain ⟨xs, ys, hqx, hqy, hi⟩ := hg
    obtain ⟨its, rv, p, _⟩ := Src.get I hqx
    obtain ⟨its2, rv2, p2, _⟩ := Src.get I hqy
    have l1 := rv.length
    have l2 := rv2.length
    have G := GoesN.zip2 (prog := X.prog) (w := X.w) (A := X.A) (elts := elts) (x1 := kk) (pos := tpos) D (S1.draws (A := X.A.in1) (I.ok.hd hc) i1 n1 its.toArray) (S2.draws (A := X.A.in1) (I.ok.hd hc) i2 n2 its2.toArray)
    refine G.goes i s _ E (by simp; omega) ⟨hz, hTI, hTO, ⟨h1, p⟩, h2, p2⟩ fun v h' tk hy st' k ht => ?_
    obtain ⟨T, x, y, rfl, hT, hx, hy, isT⟩ := hy
    obtain ⟨hz', hTI', hTO', ⟨h1', _⟩, h2', _⟩ := st'
    have gx : ∃ a, xs[i]? = some a ∧ RelV a x := by
      have hi1 : i < xs.length := by omega
      obtain ⟨u, hu, ru⟩ := rv.get (List.getElem?_eq_getElem hi1)
      have : its.toArray[i]? = some u := by simpa using hu
      rw [this] at hx; cases hx
      exact ⟨_, List.getElem?_eq_getElem hi1, ru⟩
    have gy : ∃ a, ys[i]? = some a ∧ RelV a y := by
      have hi1 : i < ys.length := by omega
      obtain ⟨u, hu, ru⟩ := rv2.get (List.getElem?_eq_getElem hi1)
      have : its2.toArray[i]? = some u := by simpa using hu
      rw [this] at hy; cases hy
      exact ⟨_, List.getElem?_eq_getElem hi1, ru⟩
    obtain ⟨a, ha, ra⟩ := gx
    obtain ⟨b, hb, rb⟩ := gy
    have new : ObjOk X.prog X.w (upd H T (.tup [a, b])) h' T (.tup [a, b]) := ⟨by show 2 ≤ sizeLine; decide, [x, y], .cons ra (.cons rb .nil), isT⟩
    have I1 : Inv X pins σ (upd H T (.tup [a, b])) { s with heap := h', toks := tk } := I.turnedNew (t' := tk) (ch := [z, TI, TO, i1, i2]) (fun c o hb q => k c o (fun z' => hb (by
      have e' : c = z ∨ c = TO ∨ c = i1 ∨ c = i2 := by simpa using z'
      rcases e' with q | q | q | q <;> rw [q] <;> simp)) q) hf hT new
    refine ⟨.ref T, _, I1, rfl, ⟨T, a, b, rfl, I.hok.fresh hT, rfl, fun l hl => by rw [Src.inj I hl hqx]; exact ha, fun l hl => by rw [Src.inj I hl hqy]; exact hb⟩, ⟨hz', hTI', hTO', h1', h2'⟩, fun c hcm => ?_⟩
    have hlt : c < s.heap.objs.size := by
      rcases two_mem hcm with q | q | q | q | q
      · rw [q]; exact Heap.lt_size hz
      · rw [q]; exact Heap.lt_size hTI
      · rw [q]; obtain ⟨x0, y0, hTO⟩ := hTO; exact Heap.lt_size hTO
      · rw [q]; obtain ⟨_, e1, _⟩ := Src.it_obj h1; exact Heap.lt_size e1
      · rw [q]; obtain ⟨_, e2, _⟩ := Src.it_obj h2; exact Heap.lt_size e2
    rw [upd_ne (Nat.ne_of_lt (Nat.lt_of_lt_of_le hlt hT))]
    exact (hf c hcm).1
  done := by
    intro X hP hw hK hc i pins s σ H E I hf st hg
    subst hP hw hK
    obtain ⟨hz, hTI, hTO, h1, h2⟩ := st
    obtain ⟨xs, ys, hqx, hqy, hi⟩ := hg
    obtain ⟨its, rv, p, _⟩ := Src.get I hqx
    obtain ⟨its2, rv2, p2, _⟩ := Src.get I hqy
    have l1 := rv.length
    have l2 := rv2.length
    have G := GoesN.zip2 (prog := X.prog) (w := X.w) (A := X.A) (elts := elts) (x1 := kk) (pos := tpos) D (S1.draws (A := X.A.in1) (I.ok.hd hc) i1 n1 its.toArray) (S2.draws (A := X.A.in1) (I.ok.hd hc) i2 n2 its2.toArray)
    have en : i = min its.toArray.size its2.toArray.size := by simp; omega
    subst en
    refine G.stops s _ E ⟨hz, hTI, hTO, ⟨h1, p⟩, h2, p2⟩ fun h' tk k ht => I.turnedL (t' := tk) (ch := [z, TI, TO, i1, i2]) (fun c o hb q => k c o (fun z' => hb (by
      have e' : c = z ∨ c = TO ∨ c = i1 ∨ c = i2 := by simpa using z'
      rcases e' with q | q | q | q <;> rw [q] <;> simp)) q) hf
  self := fun A i s Q E st h => wpAny_pyIter_zip st.1 h
def Itz3 (K : PySem.W.Frag) (S1 S2 S3 : Src) : It :=
  ⟨fun i H => ∃ xs ys zs : List V, S1.sq K H xs ∧ S2.sq K H ys ∧ S3.sq K H zs ∧ i < min (min xs.length ys.length) zs.length,
    fun i H v H' => ∃ T x y u, v = .ref T ∧ H T = none ∧ H' = upd H T (.tup [x, y, u]) ∧ (∀ xs, S1.sq K H xs → xs[i]? = some x) ∧ (∀ ys, S2.sq K H ys → ys[i]? = some y) ∧ ∀ zs, S3.sq K H zs → zs[i]? = some u,
    fun i H => ∃ xs ys zs : List V, S1.sq K H xs ∧ S2.sq K H ys ∧ S3.sq K H zs ∧ i = min (min xs.length ys.length) zs.length⟩
theorem three_mem {z TI TO i1 i2 i3 c : Addr} (h : c ∈ [z, TI, TO, i1, i2, i3]) : c = z ∨ c = TI ∨ c = TO ∨ c = i1 ∨ c = i2 ∨ c = i3 := by simpa using h
theorem turn_z3 {P : Program} {w : World} {K : PySem.W.Frag} {elts : List Expr} {kk : Nat} {tpos : Pos} {S1 S2 S3 : Src} {z TI TO i1 i2 i3 : Addr} (n1 : S1.ad ≠ i1) (n2 : S2.ad ≠ i2) (n3 : S3.ad ≠ i3) (D : ZipSep3 z TI TO i1 i2 i3 [i1, S1.ad] [i2, S2.ad] [i3, S3.ad]) :
    Turn P w K (.Tuple elts kk tpos) (Itz3 K S1 S2 S3) [z, TI, TO, i1, i2, i3] z (fun i h => IsZip h z TI TO .none ∧ IsTupOf3 h TI (.ref i1) (.ref i2) (.ref i3) ∧ (∃ x y u, IsTupOf3 h TO x y u) ∧ S1.it i1 i h ∧ S2.it i2 i h ∧ S3.it i3 i h) where
  mem := by simp
  obj := fun i h st c hc => by
    obtain ⟨hz, hTI, ⟨x, y, u, hTO⟩, h1, h2, h3⟩ := st
    rcases three_mem hc with q | q | q | q | q | q
    · rw [q]; exact ⟨_, hz, fun v q => nomatch q⟩
    · rw [q]; exact ⟨_, hTI, fun v q => nomatch q⟩
    · rw [q]; exact ⟨_, hTO, fun v q => nomatch q⟩
    · rw [q]; exact Src.it_obj h1
    · rw [q]; exact Src.it_obj h2
    · rw [q]; exact Src.it_obj h3
  keep := fun i h h' st k => by
    obtain ⟨hz, hTI, ⟨x, y, u, hTO⟩, h1, h2, h3⟩ := st
    exact ⟨k z (by simp) _ hz, k TI (by simp) _ hTI, ⟨x, y, u, k TO (by simp) _ hTO⟩, Src.it_at h1 fun o q => k i1 (by simp) o q, Src.it_at h2 fun o q => k i2 (by simp) o q, Src.it_at h3 fun o q => k i3 (by simp) o q⟩
  item := by
    intro X hP hw hK hc i pins s σ H E I hf st hg
    subst hP hw hK
    obtain ⟨hz, hTI, hTO, h1, h2, h3⟩ := st
    obtain ⟨xs, ys, zs, hqx, hqy, hqz, hi⟩ := hg
    obtain ⟨its, rv, p, _⟩ := Src.get I hqx
    obtain ⟨its2, rv2, p2, _⟩ := Src.get I hqy
    obtain ⟨its3, rv3, p3, _⟩ := Src.get I hqz
    have l1 := rv.length
    have l2 := rv2.length
    have l3 := rv3.length
    have G := GoesN.zip3 (prog := X.prog) (w := X.w) (A := X.A) (elts := elts) (x1 := kk) (pos := tpos) D (S1.draws (A := X.A.in1) (I.ok.hd hc) i1 n1 its.toArray) (S2.draws (A := X.A.in1) (I.ok.hd hc) i2 n2 its2.toArray) (S3.draws (A := X.A.in1) (I.ok.hd hc) i3 n3 its3.toArray)
    refine G.goes i s _ E (by simp; omega) ⟨hz, hTI, hTO, ⟨h1, p⟩, ⟨h2, p2⟩, h3, p3⟩ fun v h' tk hy st' k ht => ?_
    obtain ⟨T, x, y, u, rfl, hT, hx, hy, hu, isT⟩ := hy
    obtain ⟨hz', hTI', hTO', ⟨h1', _⟩, ⟨h2', _⟩, h3', _⟩ := st'
    have gg : ∀ {qs : List V} {js : List Value} {v : Value}, Vals qs js → i < qs.length → js.toArray[i]? = some v → ∃ a, qs[i]? = some a ∧ RelV a v := fun {qs js v} r hl hv => by
      obtain ⟨u, hu, ru⟩ := r.get (List.getElem?_eq_getElem hl)
      have : js.toArray[i]? = some u := by simpa using hu
      rw [this] at hv; cases hv
      exact ⟨_, List.getElem?_eq_getElem hl, ru⟩
    obtain ⟨a, ha, ra⟩ := gg rv (by omega) hx
    obtain ⟨b, hb, rb⟩ := gg rv2 (by omega) hy
    obtain ⟨c, hc, rc⟩ := gg rv3 (by omega) hu
    have new : ObjOk X.prog X.w (upd H T (.tup [a, b, c])) h' T (.tup [a, b, c]) := ⟨by show 3 ≤ sizeLine; decide, [x, y, u], .cons ra (.cons rb (.cons rc .nil)), isT⟩
    have I1 : Inv X pins σ (upd H T (.tup [a, b, c])) { s with heap := h', toks := tk } := I.turnedNew (t' := tk) (ch := [z, TI, TO, i1, i2, i3]) (fun c o hb q => k c o (fun z' => hb (by
      have e' : c = z ∨ c = TO ∨ c = i1 ∨ c = i2 ∨ c = i3 := by simpa using z'
      rcases e' with q | q | q | q | q <;> rw [q] <;> simp)) q) hf hT new
    refine ⟨.ref T, _, I1, rfl, ⟨T, a, b, c, rfl, I.hok.fresh hT, rfl, fun l hl => by rw [Src.inj I hl hqx]; exact ha, fun l hl => by rw [Src.inj I hl hqy]; exact hb, fun l hl => by rw [Src.inj I hl hqz]; exact hc⟩, ⟨hz', hTI', hTO', h1', h2', h3'⟩, fun c hcm => ?_⟩
    have hlt : c < s.heap.objs.size := by
      rcases three_mem hcm with q | q | q | q | q | q
      · rw [q]; exact Heap.lt_size hz
      · rw [q]; exact Heap.lt_size hTI
      · rw [q]; obtain ⟨x0, y0, u0, hTO⟩ := hTO; exact Heap.lt_size hTO
      · rw [q]; obtain ⟨_, e1, _⟩ := Src.it_obj h1; exact Heap.lt_size e1
      · rw [q]; obtain ⟨_, e2, _⟩ := Src.it_obj h2; exact Heap.lt_size e2
      · rw [q]; obtain ⟨_, e3, _⟩ := Src.it_obj h3; exact Heap.lt_size e3
    rw [upd_ne (Nat.ne_of_lt (Nat.lt_of_lt_of_le hlt hT))]
    exact (hf c hcm).1
  done := by
    intro X hP hw hK hc i pins s σ H E I hf st hg
    subst hP hw hK
    obtain ⟨hz, hTI, hTO, h1, h2, h3⟩ := st
    obtain ⟨xs, ys, zs, hqx, hqy, hqz, hi⟩ := hg
    obtain ⟨its, rv, p, _⟩ := Src.get I hqx
    obtain ⟨its2, rv2, p2, _⟩ := Src.get I hqy
    obtain ⟨its3, rv3, p3, _⟩ := Src.get I hqz
    have l1 := rv.length
    have l2 := rv2.length
    have l3 := rv3.length
    have G := GoesN.zip3 (prog := X.prog) (w := X.w) (A := X.A) (elts := elts) (x1 := kk) (pos := tpos) D (S1.draws (A := X.A.in1) (I.ok.hd hc) i1 n1 its.toArray) (S2.draws (A := X.A.in1) (I.ok.hd hc) i2 n2 its2.toArray) (S3.draws (A := X.A.in1) (I.ok.hd hc) i3 n3 its3.toArray)
    have en : i = min (min its.toArray.size its2.toArray.size) its3.toArray.size := by simp; omega
    subst en
    refine G.stops s _ E ⟨hz, hTI, hTO, ⟨h1, p⟩, ⟨h2, p2⟩, h3, p3⟩ fun h' tk k ht => I.turnedL (t' := tk) (ch := [z, TI, TO, i1, i2, i3]) (fun c o hb q => k c o (fun z' => hb (by
      have e' : c = z ∨ c = TO ∨ c = i1 ∨ c = i2 ∨ c = i3 := by simpa using z'
      rcases e' with q | q | q | q | q <;> rw [q] <;> simp)) q) hf
  self := fun A i s Q E st h => wpAny_pyIter_zip st.1 h
/-! ### as data -/
def seqW : W → Option (List PyData)
  | .d (.list ds) => some ds
  | .d (.tuple ds) => some ds
  | _ => none
theorem seq_src {C : Ct} {M : Ad} {H : Hp} {v : V} {w : W} {ds : List PyData} (r : RW C.K H M v w) (h : seqW w = some ds) :
    ∃ (S : Src) (vs : List V), v = .ref S.ad ∧ (∀ M0 M' H', Hd M H M0 → Go M0 H M' H' → S.sq C.K H' vs ∧ RpA C.K H' M' vs ds) := by
  cases w with
  | loc n => cases h
  | d x =>
    cases x with
    | list es =>
      cases h
      cases r with
      | lst h1 h2 => exact ⟨.l _, _, rfl, fun M0 M' H' hd gg => ⟨((h1.weak hd).go gg).sq, RpA.go gg (RpA.weak hd h2)⟩⟩
    | tuple es =>
      cases h
      cases r with
      | tup h1 h2 => exact ⟨.t _, _, rfl, fun M0 M' H' hd gg => ⟨((h1.weak hd).go gg).sq, RpA.go gg (RpA.weak hd h2)⟩⟩
    | _ => cases h
def zip2 (ds es : List PyData) : List W := List.zipWith (fun x y => W.d (.tuple [x, y])) ds es
def zip3 (ds es fs : List PyData) : List W := List.zipWith (fun f z => f z) (List.zipWith (fun x y z => W.d (.tuple [x, y, z])) ds es) fs
def iZ2 (r : FA) : FI := fun e m => (r e m).bind fun ws m1 => match ws with
  | [a, b] => match seqW a, seqW b with
    | some ds, some es => .ok (zip2 ds es) m1
    | _, _ => .bad
  | _ => .bad
def iZ3 (r : FA) : FI := fun e m => (r e m).bind fun ws m1 => match ws with
  | [a, b, c] => match seqW a, seqW b, seqW c with
    | some ds, some es, some fs => .ok (zip3 ds es fs) m1
    | _, _, _ => .bad
  | _ => .bad
theorem RWs.three {K : PySem.W.Frag} {H : Hp} {M : Ad} {vs : List V} {w z y : W} (h : RWs K H M vs [w, z, y]) : ∃ v u t, vs = [v, u, t] ∧ RW K H M v w ∧ RW K H M u z ∧ RW K H M t y := by
  cases h with | cons a b => obtain ⟨u, t, rfl, r, q⟩ := RWs.two b; exact ⟨_, _, _, rfl, a, r, q⟩
theorem zip2_get {ds es : List PyData} {i : Nat} {w : W} (h : (zip2 ds es)[i]? = some w) : ∃ x y, ds[i]? = some x ∧ es[i]? = some y ∧ w = .d (.tuple [x, y]) := by
  unfold zip2 at h
  rw [List.getElem?_zipWith] at h
  cases e1 : ds[i]? with
  | none => rw [e1] at h; cases h
  | some x =>
    cases e2 : es[i]? with
    | none => rw [e1, e2] at h; cases h
    | some y => rw [e1, e2] at h; cases h; exact ⟨x, y, rfl, rfl, rfl⟩
theorem zip3_get {ds es fs : List PyData} {i : Nat} {w : W} (h : (zip3 ds es fs)[i]? = some w) : ∃ x y z, ds[i]? = some x ∧ es[i]? = some y ∧ fs[i]? = some z ∧ w = .d (.tuple [x, y, z]) := by
  unfold zip3 at h
  rw [List.getElem?_zipWith, List.getElem?_zipWith] at h
  cases e1 : ds[i]? with
  | none => rw [e1] at h; cases h
  | some x =>
    cases e2 : es[i]? with
    | none => rw [e1, e2] at h; cases h
    | some y =>
      cases e3 : fs[i]? with
      | none => rw [e1, e2, e3] at h; cases h
      | some z => rw [e1, e2, e3] at h; cases h; exact ⟨x, y, z, rfl, rfl, rfl, rfl⟩
section
variable {X : Cx} {C : Ct} {Wx : WX} {a b c : Expr} {r : FA} {p pos : Pos}
theorem serves_z2 {M : Ad} {H : Hp} {S1 S2 : Src} {vs us : List V} {ds es : List PyData} (h1 : ∀ M0 M' H', Hd M H M0 → Go M0 H M' H' → S1.sq C.K H' vs ∧ RpA C.K H' M' vs ds) (h2 : ∀ M0 M' H', Hd M H M0 → Go M0 H M' H' → S2.sq C.K H' us ∧ RpA C.K H' M' us es) :
    Serves C M H (Itz2 C.K S1 S2) (zip2 ds es) where
  go := fun M0 M' H' hd gg i hi => by
    obtain ⟨q1, r1⟩ := h1 M0 M' H' hd gg
    obtain ⟨q2, r2⟩ := h2 M0 M' H' hd gg
    exact ⟨vs, us, q1, q2, by rw [r1.len, r2.len]; unfold zip2 at hi; rw [List.length_zipWith] at hi; exact hi⟩
  stop := fun M0 M' H' hd gg => by
    obtain ⟨q1, r1⟩ := h1 M0 M' H' hd gg
    obtain ⟨q2, r2⟩ := h2 M0 M' H' hd gg
    exact ⟨vs, us, q1, q2, by rw [r1.len, r2.len]; unfold zip2; rw [List.length_zipWith]⟩
  yld := fun M0 M' H' hd gg i w hw v H'' hy m' oo => by
    obtain ⟨q1, r1⟩ := h1 M0 M' H' hd gg
    obtain ⟨q2, r2⟩ := h2 M0 M' H' hd gg
    obtain ⟨x, y, e1, e2, rfl⟩ := zip2_get hw
    obtain ⟨T, vx, vy, rfl, nT, rfl, hx, hy⟩ := hy
    obtain ⟨a, ha, ra⟩ := r1.get e1
    obtain ⟨b, hb, rb⟩ := r2.get e2
    have ex := (hx _ q1).symm.trans ha
    have ey := (hy _ q2).symm.trans hb
    cases ex; cases ey
    exact ⟨Go.new nT, Rp.newT oo nT (.cons ra (.cons rb .nil)), oo.new nT⟩
theorem serves_z3 {M : Ad} {H : Hp} {S1 S2 S3 : Src} {vs us ts : List V} {ds es fs : List PyData} (h1 : ∀ M0 M' H', Hd M H M0 → Go M0 H M' H' → S1.sq C.K H' vs ∧ RpA C.K H' M' vs ds) (h2 : ∀ M0 M' H', Hd M H M0 → Go M0 H M' H' → S2.sq C.K H' us ∧ RpA C.K H' M' us es)
    (h3 : ∀ M0 M' H', Hd M H M0 → Go M0 H M' H' → S3.sq C.K H' ts ∧ RpA C.K H' M' ts fs) : Serves C M H (Itz3 C.K S1 S2 S3) (zip3 ds es fs) where
  go := fun M0 M' H' hd gg i hi => by
    obtain ⟨q1, r1⟩ := h1 M0 M' H' hd gg
    obtain ⟨q2, r2⟩ := h2 M0 M' H' hd gg
    obtain ⟨q3, r3⟩ := h3 M0 M' H' hd gg
    exact ⟨vs, us, ts, q1, q2, q3, by rw [r1.len, r2.len, r3.len]; unfold zip3 at hi; rw [List.length_zipWith, List.length_zipWith] at hi; exact hi⟩
  stop := fun M0 M' H' hd gg => by
    obtain ⟨q1, r1⟩ := h1 M0 M' H' hd gg
    obtain ⟨q2, r2⟩ := h2 M0 M' H' hd gg
    obtain ⟨q3, r3⟩ := h3 M0 M' H' hd gg
    exact ⟨vs, us, ts, q1, q2, q3, by rw [r1.len, r2.len, r3.len]; unfold zip3; rw [List.length_zipWith, List.length_zipWith]⟩
  yld := fun M0 M' H' hd gg i w hw v H'' hy m' oo => by
    obtain ⟨q1, r1⟩ := h1 M0 M' H' hd gg
    obtain ⟨q2, r2⟩ := h2 M0 M' H' hd gg
    obtain ⟨q3, r3⟩ := h3 M0 M' H' hd gg
    obtain ⟨x, y, z, e1, e2, e3, rfl⟩ := zip3_get hw
    obtain ⟨T, vx, vy, vz, rfl, nT, rfl, hx, hy, hz⟩ := hy
    obtain ⟨a, ha, ra⟩ := r1.get e1
    obtain ⟨b, hb, rb⟩ := r2.get e2
    obtain ⟨c, hc, rc⟩ := r3.get e3
    have ex := (hx _ q1).symm.trans ha
    have ey := (hy _ q2).symm.trans hb
    have ez := (hz _ q3).symm.trans hc
    cases ex; cases ey; cases ez
    exact ⟨Go.new nT, Rp.newT oo nT (.cons ra (.cons rb (.cons rc .nil))), oo.new nT⟩
theorem fresh_fp {pins : List (Addr × Obj)} {σ : St} {H : Hp} {s : Shared} (I : Inv X pins σ H s) {k : Nat} : FpOk X pins H (s.heap.objs.size + k) := I.fpOk (Nat.le_add_right _ _) (I.hok.fresh (Nat.le_add_right _ _))
theorem di_zip2 {elts : List Expr} {kk : Nat} {tpos : Pos} {x : Str} (hx : x = "zip") (hm : X.mg x = none) (ha : DA X C Wx [a, b] r) (hg : Gl X x := by rfl) (hK : X.K = C.K := by rfl)
    (hs : starEach [a, b] X.env = (false, eval a X.env) :: starEach [b] X.env := by rfl) (hpl : (backTo pos (starEach [b] X.env)).any (·.1) = false := by rfl) : DI X C Wx (.Tuple elts kk tpos) (.Call (.Name x p) [a, b] [] pos) (iZ2 r) := by
  subst hx
  refine ⟨⟨fun pins s σ H R I ⟨M, m, e, ok, rs, q⟩ => ?_⟩⟩
  refine Call_ (ld_blt I hg hm PyProof.Rows.boot_zip (PyProof.Rows.callWith_type1 (thn (ha.pa.run pos pins s σ H _ I (tA_bind ok rs q fun vs ws M1 m1 H1 g1 o1 r1 rv q1 =>
    (show (fun (vs : List V) (H1 : Hp) => ∃ S1 S2 : Src, ∃ us ts : List V, vs = [.ref S1.ad, .ref S2.ad] ∧ S1.sq X.K H1 us ∧ S2.sq X.K H1 ts ∧ R (Itz2 X.K S1 S2) H1) vs H1 from ?_))) fun us s1 ⟨vs, H1, I1, r1, q1⟩ => ?_) hs hpl))
  · split at q1
    · split at q1
      · rename_i e1 e2
        obtain ⟨v, u, rfl, ra, rb⟩ := rv.two
        obtain ⟨S1, us, rfl, k1⟩ := seq_src ra e1
        obtain ⟨S2, ts, rfl, k2⟩ := seq_src rb e2
        rw [hK]
        exact ⟨S1, S2, us, ts, rfl, (k1 _ _ _ Hd.refl Go.refl).1, (k2 _ _ _ Hd.refl Go.refl).1, q1.now o1 _ (serves_z2 k1 k2)⟩
      · exact q1.elim
    · exact q1.elim
  · obtain ⟨S1, S2, us, ts, ex, h1, h2, q⟩ := q1
    subst ex
    cases r1 with
    | cons r rr =>
      cases rr with
      | cons r' rr =>
        cases rr
        cases r
        cases r'
        obtain ⟨its, rv, p1, _⟩ := Src.get I1 h1
        obtain ⟨its2, rv2, p2, _⟩ := Src.get I1 h2
        have lt1 := Src.lt p1
        have lt2 := Src.lt p2
        refine zip_begins2 (S1.begins its.toArray) (S2.begins its2.toArray) p1 p2 fun h' hz hTI hTO h1 h2 hsz hk => wpAny_pyIter_zip hz ?_
        have I2 : Inv X pins σ H1 { s1 with heap := h' } := I1.kept (t' := s1.toks) hk
        refine ⟨s1.heap.objs.size + 4, [s1.heap.objs.size + 4, s1.heap.objs.size + 2, s1.heap.objs.size + 3, s1.heap.objs.size, s1.heap.objs.size + 1], _, _, H1, rfl, I2, turn_z2 (Nat.ne_of_lt lt1) (Nat.ne_of_lt (Nat.lt_succ_of_lt lt2)) (zip_sep2 (fun b hb => by rw [List.mem_singleton.mp hb]; exact lt1) (fun b hb => by rw [List.mem_singleton.mp hb]; exact lt2)), ⟨hz, hTI, ⟨_, _, hTO⟩, Src.it_ob h1, Src.it_ob h2⟩, fun c hc => ?_, q⟩
        rcases two_mem hc with z | z | z | z | z
        · rw [z]; exact fresh_fp I1
        · rw [z]; exact fresh_fp I1
        · rw [z]; exact fresh_fp I1
        · rw [z]; exact fresh_fp (k := 0) I1
        · rw [z]; exact fresh_fp I1
theorem di_zip3 {elts : List Expr} {kk : Nat} {tpos : Pos} {x : Str} (hx : x = "zip") (hm : X.mg x = none) (ha : DA X C Wx [a, b, c] r) (hg : Gl X x := by rfl) (hK : X.K = C.K := by rfl)
    (hs : starEach [a, b, c] X.env = (false, eval a X.env) :: starEach [b, c] X.env := by rfl) (hpl : (backTo pos (starEach [b, c] X.env)).any (·.1) = false := by rfl) : DI X C Wx (.Tuple elts kk tpos) (.Call (.Name x p) [a, b, c] [] pos) (iZ3 r) := by
  subst hx
  refine ⟨⟨fun pins s σ H R I ⟨M, m, e, ok, rs, q⟩ => ?_⟩⟩
  refine Call_ (ld_blt I hg hm PyProof.Rows.boot_zip (PyProof.Rows.callWith_type1 (thn (ha.pa.run pos pins s σ H _ I (tA_bind ok rs q fun vs ws M1 m1 H1 g1 o1 r1 rv q1 =>
    (show (fun (vs : List V) (H1 : Hp) => ∃ S1 S2 S3 : Src, ∃ us ts ys : List V, vs = [.ref S1.ad, .ref S2.ad, .ref S3.ad] ∧ S1.sq X.K H1 us ∧ S2.sq X.K H1 ts ∧ S3.sq X.K H1 ys ∧ R (Itz3 X.K S1 S2 S3) H1) vs H1 from ?_))) fun us s1 ⟨vs, H1, I1, r1, q1⟩ => ?_) hs hpl))
  · split at q1
    · split at q1
      · rename_i e1 e2 e3
        obtain ⟨v, u, t, rfl, ra, rb, rc⟩ := rv.three
        obtain ⟨S1, us, rfl, k1⟩ := seq_src ra e1
        obtain ⟨S2, ts, rfl, k2⟩ := seq_src rb e2
        obtain ⟨S3, ys, rfl, k3⟩ := seq_src rc e3
        rw [hK]
        exact ⟨S1, S2, S3, us, ts, ys, rfl, (k1 _ _ _ Hd.refl Go.refl).1, (k2 _ _ _ Hd.refl Go.refl).1, (k3 _ _ _ Hd.refl Go.refl).1, q1.now o1 _ (serves_z3 k1 k2 k3)⟩
      · exact q1.elim
    · exact q1.elim
  · obtain ⟨S1, S2, S3, us, ts, ys, ex, h1, h2, h3, q⟩ := q1
    subst ex
    cases r1 with
    | cons r rr =>
      cases rr with
      | cons r' rr =>
        cases rr with
        | cons r'' rr =>
          cases rr
          cases r
          cases r'
          cases r''
          obtain ⟨its, rv, p1, _⟩ := Src.get I1 h1
          obtain ⟨its2, rv2, p2, _⟩ := Src.get I1 h2
          obtain ⟨its3, rv3, p3, _⟩ := Src.get I1 h3
          have lt1 := Src.lt p1
          have lt2 := Src.lt p2
          have lt3 := Src.lt p3
          refine zip_begins3 (S1.begins its.toArray) (S2.begins its2.toArray) (S3.begins its3.toArray) p1 p2 p3 fun h' hz hTI hTO h1 h2 h3 hsz hk => wpAny_pyIter_zip hz ?_
          have I2 : Inv X pins σ H1 { s1 with heap := h' } := I1.kept (t' := s1.toks) hk
          refine ⟨s1.heap.objs.size + 5, [s1.heap.objs.size + 5, s1.heap.objs.size + 3, s1.heap.objs.size + 4, s1.heap.objs.size, s1.heap.objs.size + 1, s1.heap.objs.size + 2], _, _, H1, rfl, I2, turn_z3 (Nat.ne_of_lt lt1) (Nat.ne_of_lt (Nat.lt_succ_of_lt lt2)) (Nat.ne_of_lt (Nat.lt_succ_of_lt (Nat.lt_succ_of_lt lt3)))
            (zip_sep3 (fun b hb => by rw [List.mem_singleton.mp hb]; exact lt1) (fun b hb => by rw [List.mem_singleton.mp hb]; exact lt2) (fun b hb => by rw [List.mem_singleton.mp hb]; exact lt3)), ⟨hz, hTI, ⟨_, _, _, hTO⟩, Src.it_ob h1, Src.it_ob h2, Src.it_ob h3⟩, fun c hc => ?_, q⟩
          rcases three_mem hc with z | z | z | z | z | z
          · rw [z]; exact fresh_fp I1
          · rw [z]; exact fresh_fp I1
          · rw [z]; exact fresh_fp I1
          · rw [z]; exact fresh_fp (k := 0) I1
          · rw [z]; exact fresh_fp I1
          · rw [z]; exact fresh_fp I1
end
end Pd

set_option Elab.async false
set_option linter.all false
set_option maxRecDepth 100000
set_option maxHeartbeats 2000000
namespace Pd
open PySem PySem.Spec PyProof.Rows L2
/-! ### a def -/
mutual
theorem Rp.sub {K : PySem.W.Frag} {H : Hp} {M M0 : Ad} (hd : ∀ a, M.free a → M0.free a) : ∀ {d : PyData} {v : V}, Rp K H M v d → Rp K H M0 v d
  | .none, _, h => by cases h; exact .non
  | .bool _, _, h => by cases h; exact .bl _
  | .int _, _, h => by cases h; exact .int _
  | .str _, _, h => by cases h; exact .str _
  | .list ds, _, h => by cases h with | lst a b => exact .lst (a.imp (fun z => ⟨z.1, hd _ z.2⟩) id) (RpA.sub hd b)
  | .tuple ds, _, h => by cases h with | tup a b => exact .tup (a.imp (fun z => ⟨z.1, hd _ z.2⟩) id) (RpA.sub hd b)
  | .dict _, _, h => by cases h
theorem RpA.sub {K : PySem.W.Frag} {H : Hp} {M M0 : Ad} (hd : ∀ a, M.free a → M0.free a) : ∀ {ds : List PyData} {vs : List V}, RpA K H M vs ds → RpA K H M0 vs ds
  | [], _, h => by cases h; exact .nil
  | _ :: _, _, h => by cases h with | cons a b => exact .cons (Rp.sub hd a) (RpA.sub hd b)
end
def W.low (n : Nat) : W → Bool
  | .d _ => true
  | .loc j => decide (j < n)
def Cell.low (n : Nat) : Cell → Bool
  | .lst ws => ws.all (W.low n)
section
variable {C : Ct} {M M' : Ad} {m m' : Sto} {H H' : Hp}
theorem Go.cut (g : Go M H M' H') : Go M H M H' := ⟨⟨[], by simp, by simp⟩, rfl, g.st, g.dom⟩
theorem Go.freeSub (g : Go M H M' H') (a : Addr) (h : M'.free a) : M.free a := by
  obtain ⟨nw, e, _⟩ := g.ext
  refine ⟨fun z => h.1 (by rw [e]; exact List.mem_append_left _ z), fun z => h.2 (by rw [g.hid]; exact z)⟩
theorem RW.cut (g : Go M H M' H') {v : V} {w : W} (r : RW C.K H' M' v w) (hl : w.low M.loc.length = true) : RW C.K H' M v w := by
  cases w with
  | d x => exact Rp.sub g.freeSub r
  | loc j =>
    obtain ⟨a, rfl, h⟩ := r
    obtain ⟨nw, e, _⟩ := g.ext
    have hj : j < M.loc.length := of_decide_eq_true hl
    rw [e, List.getElem?_append_left hj] at h
    exact ⟨a, rfl, h⟩
theorem RWs.cut (g : Go M H M' H') {vs : List V} {ws : List W} (r : RWs C.K H' M' vs ws) (hl : ws.all (W.low M.loc.length) = true) : RWs C.K H' M vs ws := by
  induction r with
  | nil => exact .nil
  | cons a _ ih =>
    rw [List.all_cons, Bool.and_eq_true] at hl
    exact .cons (a.cut g hl.1) (ih hl.2)
theorem Ok.cut (g : Go M H M' H') (o : Ok C M' m' H') (hl : (m'.take M.loc.length).all (Cell.low M.loc.length) = true) : Ok C M (m'.take M.loc.length) H' := by
  obtain ⟨nw, e, _⟩ := g.ext
  have hle : M.loc.length ≤ m'.length := by rw [← o.len, e, List.length_append]; omega
  refine ⟨o.tab, by rw [List.length_take]; omega, fun n a c h1 h2 => ?_, ?_, fun a ha => o.hid a (by rw [g.hid]; exact ha)⟩
  · have hn : n < M.loc.length := (List.getElem?_eq_some_iff.mp h1).1
    have hm : c ∈ m'.take M.loc.length := List.mem_of_getElem? h2
    rw [List.getElem?_take_of_lt hn] at h2
    have := o.cell n a c (by rw [e, List.getElem?_append_left hn]; exact h1) h2
    have hlow := List.all_eq_true.mp hl c hm
    cases c with
    | lst ws =>
      obtain ⟨vs, ea, rv⟩ := this
      exact ⟨vs, ea, rv.cut g hlow⟩
  · have := o.nd
    rw [e] at this
    exact (List.nodup_append.mp this).1
end
/-- a body's end, the lists that it made left behind -/
def dEnd (n : Nat) : SR → R W
  | .nx _ m => if (m.take n).all (Cell.low n) then .ok (.d .none) (m.take n) else .bad
  | .rt w m => if w.low n && (m.take n).all (Cell.low n) then .ok w (m.take n) else .bad
  | .exc x _ m => if (m.take n).all (Cell.low n) then .exc x (m.take n) else .bad
  | _ => .bad
def startE (N : Nat) (ws : List W) : Env := ws.map some ++ List.replicate (N - ws.length) none
def runD (N : Nat) (fs : FS) : List W → Sto → R W := fun ws m => dEnd m.length (fs (startE N ws) m)
theorem rs_start {K : PySem.W.Frag} {H : Hp} {M : Ad} {vs : List V} {ws : List W} {N : List Str} (r : RWs K H M vs ws) : RS K H M (L2.start N vs) (startE N.length ws) := by
  refine ⟨by unfold L2.start startE; simp [r.len], fun i w h => ?_⟩
  unfold startE at h
  unfold L2.start
  by_cases hi : i < ws.length
  · rw [List.getElem?_append_left (by simpa using hi), List.getElem?_map] at h
    cases e : ws[i]? with
    | none => rw [e] at h; cases h
    | some w' =>
      rw [e] at h
      cases h
      obtain ⟨v, hv, rv⟩ := r.get e
      refine ⟨v, ?_, rv⟩
      rw [List.getElem?_append_left (by simpa [r.len] using hi), List.getElem?_map, hv]
      rfl
  · rw [List.getElem?_append_right (by simpa using hi), List.getElem?_replicate] at h
    split at h <;> cases h
section
variable {P : Program} {w : World} {K : PySem.W.Frag} {mg : Str → Option Value} {base : Heap} {C : Ct}
theorem spD_len {n : Nat} {F : List W → Sto → R W} {ps : List Str} (hn : n = ps.length) : ∀ vs H Q E, spD C n F vs H Q E → vs.length = ps.length := fun vs H Q E h => h.1.trans hn
/-- a def without defaults; hcd: what is known of its code object -/
theorem def_ok {x qual : Str} {params : Arguments} {body : List Stmt} {scope : Scope} {f : Addr} {fd : FuncData} {N ps : List Str} {k n : Nat} {fs : FS} {Pc : Value → Prop} (F : FunD K x qual params body scope [] [] f fd) (S : FnScope N ps scope) (hn : n = ps.length) (hK : C.K = K) (hpc : Pc fd.code)
    (hbody : ∀ (cdv : Value) (A : Around) (outer : List PySem.Env) (s : Shared) (H : Hp) (E : XK), Pc cdv → Room k (A.deeper (envOfC qual scope s.heap.objs.size f cdv)) →
      DSs (cxOf (L2.CX P w) P w K mg base N qual scope f cdv A outer s H E) C (fun cls d _ H => E cls d H) body fs) : FnOk P w K mg base (L2.CX P w) (k + 1) f fd ps (spD C n (runD N.length fs)) := by
  obtain ⟨oc, od, dV, kV, doc, pm, an, cdv, ct, osl, rfl, lk, hcd, _, _⟩ := F.ex
  refine fn_of lk hcd S (spD_len hn) fun A outer s H vs Q E hr hsp => ⟨_, (hbody cdv A outer s H E hpc hr).pss, ?_⟩
  obtain ⟨hl, M, m, ws, ok, rv, q⟩ := hsp
  refine ⟨M, m, startE N.length ws, ok, rs_start rv, ?_⟩
  unfold runD at q
  have hlen := ok.len
  rw [← hlen] at q
  cases hr : fs (startE N.length ws) m with
  | nx e m' =>
    rw [hr] at q
    unfold dEnd at q
    simp only at q
    split at q
    · rename_i hlow
      exact fun σ' M' H' gg oo rr => q M H' gg.cut (oo.cut gg hlow) .non Rp.non
    · exact q.elim
  | rt w m' =>
    rw [hr] at q
    unfold dEnd at q
    simp only at q
    split at q
    · rename_i hlow
      rw [Bool.and_eq_true] at hlow
      exact fun v M' H' gg oo rr => q M H' gg.cut (oo.cut gg hlow.2) v (rr.cut gg hlow.1)
    · exact q.elim
  | exc x e m' =>
    rw [hr] at q
    unfold dEnd at q
    simp only at q
    split at q
    · rename_i hlow
      exact fun σ' M' H' gg oo rr => q M H' gg.cut (oo.cut gg hlow)
    · exact q.elim
  | bk e m' => rw [hr] at q; exact q.elim
  | ct e m' => rw [hr] at q; exact q.elim
  | bad => rw [hr] at q; exact q.elim
/-- nothing promised -/
theorem fn_bad {CX : CXT} {k n : Nat} {f : Addr} {fd : FuncData} {ps : List Str} (hn : n = ps.length) : FnOk P w K mg base CX k f fd ps (spD C n fun _ _ => .bad) :=
  ⟨spD_len hn, fun A outer s H args us vs Q E hr he hb hv hs => by
    obtain ⟨_, M, m, ws, ok, rv, q⟩ := hs
    exact q.elim⟩
/-- a promise told otherwise: where F' isn't bad, F does the same -/
theorem spD_imp {CX : CXT} {k n : Nat} {f : Addr} {fd : FuncData} {ps : List Str} {F F' : List W → Sto → R W} (h : FnOk P w K mg base CX k f fd ps (spD C n F)) (i : ∀ ws m, ws.length = n → F' ws m ≠ .bad → F ws m = F' ws m) : FnOk P w K mg base CX k f fd ps (spD C n F') :=
  h.imp fun vs H Q E ⟨hl, M, m, ws, ok, rv, q⟩ => ⟨hl, M, m, ws, ok, rv, by
    rw [i ws m (by rw [← rv.len]; exact hl) fun z => by rw [z] at q; exact q]
    exact q⟩
end
/-! ### raise, try -/
section
variable {X : Cx} {C : Ct} {Wx : WX} {f : FE} {st : Stmt} {sts : List Stmt} {s : FS}
/-- whatever is never reached -/
theorem ds_dead : DS X C Wx st (fun _ _ => .bad) := ⟨⟨fun pins s σ H D I ⟨M, m, e, ok, rs, q⟩ => q.elim⟩⟩
theorem dss_dead : DSs X C Wx sts (fun _ _ => .bad) := ⟨⟨fun pins s σ H D I ⟨M, m, e, ok, rs, q⟩ => q.elim⟩⟩
theorem de_dead {e : Expr} : DE X C Wx e (fun _ _ => .bad) := ⟨⟨fun pins s σ H D I ⟨M, m, e, ok, rs, q⟩ => q.elim⟩⟩
theorem pmk_own0 {x : Str} {p pos : Pos} {Cc : Addr} {bmB : List Value} {B newId initId : String} (F : ExcBaseFacts B newId initId bmB) (q : PySem.W.excIn X.K Cc bmB newId = true) (gC : X.mg x = some (.ref Cc)) (kC : PySem.W.keepIn X.K (.ref Cc) = true) (r : Raises X (.ref Cc)) (hg : Gl X x)
    (hdb : (x == ("__debug__" : Str)) = false := by decide) : PMk X (.Call (.Name x p) [] [] pos) (fun _ H Q => Q (.ref Cc) none H) := by
  intro pins s σ H Q I h
  refine wpAny_Call_Name_kw (ld_glob I hg gC ?_ hdb)
  refine PySem.W.callWith_K0 I.kIn kC ?_
  show wpAny _ _ (call (.ref Cc) []) _ _ _
  obtain ⟨bm, N, nm, qn, bs, hdct, sn, sub, ab, col, dd, k0, k1, k2, k3, k5, mN, hC, hN, hni, T⟩ := exc_obj I.kIn q
  refine wpAny_call_exc_subT F T hC hN hni (fun h' e hm => ?_) (by show 0 ≤ sizeLine; rw [sizeLine_eq]; omega)
  exact mk_of I hm r h (I.hok.gone hm.new)
/-- what is known of an exception's class -/
structure ExF (X : Cx) (C : Ct) (x : Str) : Prop where
  cl : ∃ bmB B newId initId, ExcBaseFacts B newId initId bmB ∧ PySem.W.excIn X.K (C.xa x) bmB newId = true
  gC : X.mg x = some (.ref (C.xa x))
  kC : PySem.W.keepIn X.K (.ref (C.xa x)) = true
  r : Raises X (.ref (C.xa x))
def sRaise (x : Str) : FS := fun e m => .exc x e m
theorem ds_raise0 {x : Str} {p pos pos2 : Pos} (hc : X.calm = true) (tk : Takes X Wx) (F : ExF X C x) (hg : Gl X x := by rfl) (hdb : (x == ("__debug__" : Str)) = false := by decide) : DS X C Wx (.Raise (some (.Call (.Name x p) [] [] pos)) none pos2) (sRaise x) := by
  obtain ⟨bmB, B, n, i, F1, F2⟩ := F.cl
  exact ⟨PS_imp (ps_raise hc tk (pmk_own0 F1 F2 F.gC F.kC F.r hg hdb)) fun D σ H ⟨M, m, e, ok, rs, q⟩ => q σ M H Go.refl ok rs⟩
/-- try: .. except X: .. (one own class; the others pass on) -/
def noXS : SR → SR
  | .exc _ _ _ => .bad
  | z => z
theorem noXS_post {C : Ct} {Wx Wx' : WX} {M : Ad} {H : Hp} {r : SR} {D : Ends} (q : SPost C Wx M H (noXS r) D) : SPost C Wx' M H r D := by
  cases r with
  | exc x e m => exact q.elim
  | _ => exact q
def sTry (x : Str) (no : List Str) (b h : FS) : FS := fun e m => match b e m with
  | .exc y e1 m1 => if y = x then noXS (h e1 m1) else if y ∈ no then .exc y e1 m1 else .bad
  | z => z
theorem ds_try {x : Str} {no : List Str} {body suite : List Stmt} {b₀ : Stmt} {np pos pos' : Pos} {h : FS} (hs : X.stack = X.env :: X.outer) (hf : X.env.frame = some X.env.locals) (tk : Takes X Wx) (gC : X.mg x = some (.ref (C.xa x))) (hyes : PySem.W.exmOne X.K (.ref (C.xa x)) (.ref (C.xa x)) = some true)
    (hno : ∀ y ∈ no, PySem.W.exmOne X.K (.ref (C.xa y)) (.ref (C.xa x)) = some false)
    (hb : ∀ (W : WX) (pn : List (Addr × Obj)) (xe : Value → Shared → Prop), Takes (X.tr pn xe) W → PassesOwn (model X.prog X.w) X.A X.env xe → DSs (X.tr pn xe) C W body s)
    (hsu : ∀ (a : Addr) (pn : List (Addr × Obj)), DSs (X.suite a pn) C W0 (b₀ :: suite) h) (hg : Gl X x := by rfl) (hdb : (x == ("__debug__" : Str)) = false := by decide) :
    DS X C Wx (.Try body [.ExceptHandler (some (.Name x np)) none (b₀ :: suite) pos'] [] [] pos) (sTry x no s h) := by
  refine ⟨PS_imp (ps_try_only (c := .ref (C.xa x)) (tb := fun W => tS C W s) (ts := fun _ _ _ => tS C W0 h) (Wout := Wx) hs hf ⟨hg, hdb, .inl gC⟩ tk (fun W pn xe t po => (hb W pn xe t po).pss) (fun a oe cls d pn _ _ => (hsu a _).pss)) fun D σ H ⟨M, m, e, ok, rs, q⟩ => ?_⟩
  refine ⟨M, m, e, ok, rs, ?_⟩
  unfold sTry at q
  cases hse : s e m with
  | exc y e1 m1 =>
    rw [hse] at q
    simp only at q
    intro σ' M' H' gg oo rr
    split at q
    · rename_i hy
      subst hy
      exact ⟨true, hyes, fun _ a ha => ⟨M', m1, e1, oo, rr, noXS_post (SPost.go gg q)⟩, fun z => by cases z⟩
    · split at q
      · rename_i hy
        exact ⟨false, hno y hy, fun z => (by cases z), fun _ => q σ' M' H' gg oo rr⟩
      · exact q.elim
  | nx e1 m1 => rw [hse] at q; exact q
  | rt e1 m1 => rw [hse] at q; exact q
  | bk e1 m1 => rw [hse] at q; exact q
  | ct e1 m1 => rw [hse] at q; exact q
  | bad => rw [hse] at q; exact q
end
end Pd

set_option Elab.async false
set_option linter.all false
set_option maxRecDepth 100000
set_option maxHeartbeats 1000000
namespace Pd
open PySem PySem.Spec PyProof.Rows L2
/-! ### short words for what a printer writes -/
section
variable {X : Cx} {C : Ct} {Wx : WX} {a b c : Expr} {f g h : FE} {r : FA} {t u : FT} {pos p : Pos}
def eNeg (f : FE) : FE := fun e m => (f e m).bind fun w m1 => match w with
  | .d (.int i) => .ok (.d (.int (-i))) m1
  | _ => .bad
theorem de_neg (ha : DE X C Wx a f) : DE X C Wx (.UnaryOp .USub a pos) (eNeg f) := ⟨PE_imp (pe_un un_neg ha.pe) fun σ H Q ⟨M, m, e, o, rs, q⟩ => tE_bind o rs q fun v w M1 m1 H1 g1 o1 r1 rv q1 => by
  split at q1
  · cases rv; exact ⟨_, rfl, q1.now o1 _ (Rp.int _)⟩
  · exact q1.elim⟩
/-- a + b of two of one kind -/
def pPlus : W → W → Sto → R W
  | .d (.int i), .d (.int j), m => .ok (.d (.int (i + j))) m
  | .d (.str i), .d (.str j), m => pCatS (.d (.str i)) (.d (.str j)) m
  | .d (.tuple i), .d (.tuple j), m => pCatT (.d (.tuple i)) (.d (.tuple j)) m
  | .d (.list i), .d (.list j), m => pCatL (.d (.list i)) (.d (.list j)) m
  | _, _, _ => .bad
theorem de_plus (ha : DE X C Wx a f) (hb : DE X C Wx b g) (hK : X.K = C.K := by rfl) : DE X C Wx (.BinOp a .Add b pos) (eBin pPlus f g) :=
  de_bin (op_add.or (op_add_str.or (op_catT.or op_catL))) (by
    rw [hK]
    intro σ M m H x y w z Q o rx ry q
    unfold pPlus at q
    split at q
    · exact .inl (od_add (Wx := Wx) (σ := σ) o rx ry q)
    · exact .inr (.inl (od_catS (Wx := Wx) (σ := σ) o rx ry q))
    · exact .inr (.inr (.inl (od_catT (Wx := Wx) (σ := σ) o rx ry q)))
    · exact .inr (.inr (.inr (od_catL (Wx := Wx) (σ := σ) o rx ry q)))
    · exact q.elim) ha hb
theorem dt_eq (hu : X.A.units + 65 < cLine) (ha : DE X C Wx a f) (hb : DE X C Wx b g) (hK : X.K = C.K := by rfl) : DT X C Wx (.Compare a [.Eq] [b] pos) (tV (eBin pEq f g)) := dt_cmp1 (op_eqD (by omega)) (by rw [hK]; exact od_eq) ha hb (nomark _)
theorem dt_ne (hu : X.A.units + 65 < cLine) (ha : DE X C Wx a f) (hb : DE X C Wx b g) (hK : X.K = C.K := by rfl) : DT X C Wx (.Compare a [.NotEq] [b] pos) (tV (eBin pNe f g)) := dt_cmp1 (op_neD (by omega)) (by rw [hK]; exact od_ne) ha hb (nomark _)
theorem dt_lt (ha : DE X C Wx a f) (hb : DE X C Wx b g) : DT X C Wx (.Compare a [.Lt] [b] pos) (tV (eBin pLt f g)) := dt_cmp1 (op_lt.or op_lt_str) od_ord ha hb (nomark _)
theorem dt_le (ha : DE X C Wx a f) (hb : DE X C Wx b g) : DT X C Wx (.Compare a [.LtE] [b] pos) (tV (eBin pLe f g)) := dt_cmp1 (op_le.or op_le_str) od_ord ha hb (nomark _)
theorem dt_gt (ha : DE X C Wx a f) (hb : DE X C Wx b g) : DT X C Wx (.Compare a [.Gt] [b] pos) (tV (eBin pGt f g)) := dt_cmp1 (op_gt.or op_gt_str) od_ord ha hb (nomark _)
theorem dt_ge (ha : DE X C Wx a f) (hb : DE X C Wx b g) : DT X C Wx (.Compare a [.GtE] [b] pos) (tV (eBin pGe f g)) := dt_cmp1 (op_ge.or op_ge_str) od_ord ha hb (nomark _)
theorem dt_is (ha : DE X C Wx a f) (hb : DE X C Wx b g) : DT X C Wx (.Compare a [.Is] [b] pos) (tV (eBin (pIs true) f g)) := dt_cmp1 (op_isN.or op_isBl) od_is ha hb (nomark _)
theorem dt_isnt (ha : DE X C Wx a f) (hb : DE X C Wx b g) : DT X C Wx (.Compare a [.IsNot] [b] pos) (tV (eBin (pIs false) f g)) := dt_cmp1 (op_notN.or op_notBl) od_isnt ha hb (nomark _)
theorem dt_in (hu : X.A.units + 65 < cLine) (ha : DE X C Wx a f) (hb : DE X C Wx b g) (hK : X.K = C.K := by rfl) (hm : behindInMarks .In b = false := by with_unfolding_all rfl) : DT X C Wx (.Compare a [.In] [b] pos) (tV (eBin (pIn true) f g)) := dt_cmp1 (op_in_str'.or (op_inT hu)) (by rw [hK]; exact od_in true) ha hb hm
theorem dt_notIn (hu : X.A.units + 65 < cLine) (ha : DE X C Wx a f) (hb : DE X C Wx b g) (hK : X.K = C.K := by rfl) (hm : behindInMarks .NotIn b = false := by with_unfolding_all rfl) : DT X C Wx (.Compare a [.NotIn] [b] pos) (tV (eBin (pIn false) f g)) := dt_cmp1 (op_notin_str'.or (op_notInT hu)) (by rw [hK]; exact od_in false) ha hb hm
/-- a <= b <= c: of ints or texts -/
theorem de_lele (ha : DE X C Wx a f) (hb : DE X C Wx b g) (hc : DE X C Wx c h) (hm : lastMarks [.LtE, .LtE] [b, c] = false := by with_unfolding_all rfl) : DE X C Wx (.Compare a [.LtE, .LtE] [b, c] pos) (eChain pLe pLe f g h) := de_chain (op_le.or op_le_str) (op_le.or op_le_str) od_ord od_ord ha hb hc hm
theorem bool_of {C : Ct} {H : Hp} {M : Ad} {m : Sto} {Ex : Str → Sto → Ad → Hp → Prop} {w : W} {Kk : Bool → Ad → Sto → Hp → Prop} {v : V} (q : Post C Ex M H (toB w m) Kk) (o : Ok C M m H) (rv : RW C.K H M v w) : ∃ k, v = .bl k ∧ Kk k M m H := by
  cases w with
  | loc n => exact q.elim
  | d x =>
    cases x with
    | bool k => cases rv; exact ⟨k, rfl, q.now o⟩
    | _ => exact q.elim
theorem dt_lele (ha : DE X C Wx a f) (hb : DE X C Wx b g) (hc : DE X C Wx c h) (hm : lastMarks [.LtE, .LtE] [b, c] = false := by with_unfolding_all rfl) : DT X C Wx (.Compare a [.LtE, .LtE] [b, c] pos) (tV (eChain pLe pLe f g h)) :=
  ⟨PT_imp (pt_chain (op_le.or op_le_str) (op_le.or op_le_str) ha.pe hb.pe hc.pe hm) fun σ H Q ⟨M, m, e, o, rs, q⟩ => by
    have q' := Post.bind q
    unfold eChain at q'
    refine tE_bind o rs q' fun v w M1 m1 H1 g1 o1 r1 rv q1 => tE_bind o1 r1 q1 fun v2 w2 M2 m2 H2 g2 o2 r2 rv2 q2 => od_ord (Wx := Wx) (σ := σ) o2 (rv.go g2) rv2 (Post.mono q2.bind fun z M3 m3 H3 g3 o3 q3 v3 rv3 => ?_)
    cases z with
    | loc n => exact q3.elim
    | d z =>
      cases z with
      | bool k =>
        cases rv3
        refine ⟨k, rfl, ?_⟩
        cases k with
        | true => exact tE_bind o3 (r2.go g3) q3 fun v4 w4 M4 m4 H4 g4 o4 r4 rv4 q4 => od_ord (Wx := Wx) (σ := σ) o4 ((rv2.go g3).go g4) rv4 (Post.mono q4 fun w5 M5 m5 H5 g5 o5 q5 v5 rv5 => bool_of q5 o5 rv5)
        | false => exact ⟨false, rfl, Post.now (show Post _ _ _ _ (.ok false m3) _ from q3.now o3) o3⟩
      | _ => exact q3.elim⟩
/-! ### built-ins by name -/
theorem de_tuple {x : Str} (hx : x = "tuple") (hm : X.mg x = none) (ha : DA X C Wx [a] r) (hg : Gl X x := by rfl) (hK : X.K = C.K := by rfl) (he : starEach [a] X.env = (false, eval a X.env) :: starEach [] X.env := by rfl) (hpl : (backTo pos (starEach [] X.env)).any (·.1) = false := by rfl) :
    DE X C Wx (.Call (.Name x p) [a] [] pos) (eB qTup r) := by
  subst hx
  exact de_callT (id := "tuple") call_tuple_of (by rw [hK]; exact cd_tup) hm PyProof.Rows.boot_tuple ha hg (by decide) (by decide) he hpl
theorem de_list {x : Str} (hx : x = "list") (hc : X.calm = true) (hm : X.mg x = none) (ha : DA X C Wx [a] r) (hg : Gl X x := by rfl) (hK : X.K = C.K := by rfl) (he : starEach [a] X.env = (false, eval a X.env) :: starEach [] X.env := by rfl) (hpl : (backTo pos (starEach [] X.env)).any (·.1) = false := by rfl) :
    DE X C Wx (.Call (.Name x p) [a] [] pos) (eB qList r) := by
  subst hx
  exact de_callT (id := "list") (CallR_or call_list_of (call_listS hc)) (by rw [hK]; exact cd_list) hm PyProof.Rows.boot_list ha hg (by decide) (by decide) he hpl
theorem de_toInt {x : Str} (hx : x = "int") (hm : X.mg x = none) (ha : DA X C Wx [a] r) (hg : Gl X x := by rfl) (he : starEach [a] X.env = (false, eval a X.env) :: starEach [] X.env := by rfl) (hpl : (backTo pos (starEach [] X.env)).any (·.1) = false := by rfl) :
    DE X C Wx (.Call (.Name x p) [a] [] pos) (eB qInt r) := by
  subst hx
  exact de_callT (id := "int") call_int1 cd_int hm PyProof.Rows.boot_int ha hg (by decide) (by decide) he hpl
theorem de_sum {x : Str} (hx : x = "sum") (hc : X.calm = true) (hm : X.mg x = none) (ha : DA X C Wx [a] r) (hg : Gl X x := by rfl) (hK : X.K = C.K := by rfl) (he : starEach [a] X.env = (false, eval a X.env) :: starEach [] X.env := by rfl) (hpl : (backTo pos (starEach [] X.env)).any (·.1) = false := by rfl) :
    DE X C Wx (.Call (.Name x p) [a] [] pos) (eB qSum r) := by
  subst hx
  exact de_callB (id := "sum") (cr_sum hc) (by rw [hK]; exact cd_sum) hm PyProof.Rows.boot_sum ha hg (by decide) (by decide) he hpl
theorem de_sortedS {x : Str} (hx : x = "sorted") (hm : X.mg x = none) (ha : DA X C Wx [a] r) (hg : Gl X x := by rfl) (hK : X.K = C.K := by rfl) (he : starEach [a] X.env = (false, eval a X.env) :: starEach [] X.env := by rfl) (hpl : (backTo pos (starEach [] X.env)).any (·.1) = false := by rfl) :
    DE X C Wx (.Call (.Name x p) [a] [] pos) (eB qSortS r) := by
  subst hx
  exact de_callB (id := "sorted") cr_sortedS (by rw [hK]; exact cd_sortS) hm PyProof.Rows.boot_sorted ha hg (by decide) (by decide) he hpl
end
end Pd

set_option Elab.async false
set_option linter.all false
set_option maxRecDepth 100000
set_option maxHeartbeats 1000000
/-! sets whose members are tuples of texts, numbers, None and such tuples -/
namespace Pd
open PySem PySem.Spec PyProof.Rows L2
abbrev Mem := Addr × NestedKey
abbrev memH (w : World) (q : Mem) : Int := q.2.hash w
def memRows (w : World) (L : List Mem) : List (Int × Value) := L.map fun q => (memH w q, Value.ref q.1)
structure KeyIn (h : Heap) (q : Mem) : Prop where
  is : NestedIs h q.2 (.ref q.1)
  dep : q.2.depth ≤ 7
theorem memRows_len (w : World) (L : List Mem) : (memRows w L).length = L.length := List.length_map ..
section
variable {P : Program} {w : World}
def Says (P : Program) (w : World) (s : Shared) (m : Sem Bool) (b : Bool → Prop) : Prop := ∀ (A : Around) (E : Value → Shared → Prop) (Q : Bool → Shared → Prop), (∀ r, b r → Q r s) → wpAny (model P w) A m Q E s
theorem says_pure {s : Shared} {r : Bool} {b : Bool → Prop} (h : b r) : Says P w s (pure r) b := fun A E Q q => wpAny_pure (q r h)
mutual
theorem stmt_key : ∀ (k : NestedKey) (v : Value) (n : Nat) (s : Shared), NestedIs s.heap k v → k.depth ≤ n → Says P w s (ofAClassStatement n v) (· = false)
  | .none, _, n, s, x, _ => by cases x; cases n <;> exact says_pure rfl
  | .num _, _, n, s, x, _ => by cases x <;> cases n <;> exact says_pure rfl
  | .text _, _, n, s, x, _ => by cases x; cases n <;> exact says_pure rfl
  | .tup ks, _, n, s, x, hn => by
    cases x with
    | @tup a o vs m _ ho hc hd hk =>
      simp only [NestedKey.depth] at hn
      cases n with
      | zero => omega
      | succ n =>
        intro A E Q q
        have hT : s.TypeIs (.ref a) "tuple" := ⟨o, ho, hc⟩
        unfold ofAClassStatement
        refine wpAny_bind (wpAny_typeOf hT ?_)
        dsimp only
        have e : (("tuple" : String) == "tuple") = true := by decide
        simp only [e, if_true, Bool.not_true, Bool.false_eq_true, if_false]
        try refine wpAny_bind (wpAny_pure ?_)
        try simp only [Bool.not_true, Bool.false_eq_true, if_false]
        refine wpAny_bind (wpAny_seqItems ho hd ?_)
        dsimp only
        refine wpAny_bind ?_
        show wpAny _ _ (forIn vs _ _) _ _ s
        rw [← Array.forIn_toList]
        refine wpAny_forIn_list _ (fun rest r z => r.1 = none ∧ z = s ∧ ∀ u ∈ rest, u ∈ vs.toList) _ ?_ ?_ _ _ ⟨rfl, rfl, fun u hu => hu⟩
        · intro u rest r z I
          obtain ⟨hr, rfl, hu⟩ := I
          refine wpAny_bind (stmt_keys ks vs.toList n z hk (by omega) u (hu u List.mem_cons_self) _ _ _ fun r2 e2 => ?_)
          subst e2
          simp only [Bool.false_eq_true, if_false]
          exact wpAny_pure ⟨rfl, rfl, fun y hy => hu y (List.mem_cons_of_mem _ hy)⟩
        · intro r z I
          obtain ⟨r1, r2⟩ := r
          obtain ⟨hr, rfl, _⟩ := I
          simp only at hr
          subst hr
          exact wpAny_pure (q _ rfl)
theorem stmt_keys : ∀ (ks : List NestedKey) (vs : List Value) (n : Nat) (s : Shared), NestedAll s.heap ks vs → NestedKey.depthAll ks ≤ n → ∀ v ∈ vs, Says P w s (ofAClassStatement n v) (· = false)
  | [], _, n, s, x, _, v, hv => by cases x; cases hv
  | k :: ks, _, n, s, x, hn, v, hv => by
    cases x with
    | cons x1 x2 =>
      simp only [NestedKey.depthAll] at hn
      rcases List.mem_cons.mp hv with e | hv
      · rw [e]; exact stmt_key k _ n s x1 (by omega)
      · exact stmt_keys ks _ n s x2 (by omega) v hv
end
mutual
/-- the hash by value: some answer, and nothing else -/
theorem byVal_key : ∀ (k : NestedKey) (v : Value) (n : Nat) (s : Shared), NestedIs s.heap k v → k.depth ≤ n → Says P w s (hashByValue n v) (fun _ => True)
  | .none, _, n, s, x, _ => by cases x; cases n <;> exact says_pure trivial
  | .num _, _, n, s, x, _ => by cases x <;> cases n <;> exact says_pure trivial
  | .text _, _, n, s, x, _ => by cases x; cases n <;> exact says_pure trivial
  | .tup ks, _, n, s, x, hn => by
    cases x with
    | @tup a o vs m _ ho hc hd hk =>
      simp only [NestedKey.depth] at hn
      cases n with
      | zero => omega
      | succ n =>
        intro A E Q q
        have hT : s.TypeIs (.ref a) "tuple" := ⟨o, ho, hc⟩
        unfold hashByValue
        refine wpAny_bind (wpAny_specialOf hT F.slot_tuple_hash.lookup ?_)
        show wpAny _ _ (seqItems? (.ref a) >>= _) _ _ s
        refine wpAny_bind (wpAny_seqItems ho hd ?_)
        refine wpAny_bind ?_
        show wpAny _ _ (forIn vs _ _) _ _ s
        rw [← Array.forIn_toList]
        refine wpAny_forIn_list _ (fun rest r z => r.1 = none ∧ z = s ∧ ∀ u ∈ rest, u ∈ vs.toList) _ ?_ ?_ _ _ ⟨rfl, rfl, fun u hu => hu⟩
        · intro u rest r z I
          obtain ⟨hr, rfl, hu⟩ := I
          refine wpAny_bind (byVal_keys ks vs.toList n z hk (by omega) u (hu u List.mem_cons_self) _ _ _ fun r2 _ => ?_)
          cases r2 with
          | true =>
            simp only [Bool.not_true, Bool.false_eq_true, if_false]
            exact wpAny_pure ⟨rfl, rfl, fun y hy => hu y (List.mem_cons_of_mem _ hy)⟩
          | false =>
            simp only [Bool.not_false, if_true]
            refine wpAny_pure ?_
            exact wpAny_pure (q _ trivial)
        · intro r z I
          obtain ⟨r1, r2⟩ := r
          obtain ⟨hr, rfl, _⟩ := I
          simp only at hr
          subst hr
          exact wpAny_pure (q _ trivial)
theorem byVal_keys : ∀ (ks : List NestedKey) (vs : List Value) (n : Nat) (s : Shared), NestedAll s.heap ks vs → NestedKey.depthAll ks ≤ n → ∀ v ∈ vs, Says P w s (hashByValue n v) (fun _ => True)
  | [], _, n, s, x, _, v, hv => by cases x; cases hv
  | k :: ks, _, n, s, x, hn, v, hv => by
    cases x with
    | cons x1 x2 =>
      simp only [NestedKey.depthAll] at hn
      rcases List.mem_cons.mp hv with e | hv
      · rw [e]; exact byVal_key k _ n s x1 (by omega)
      · exact byVal_keys ks _ n s x2 (by omega) v hv
end
/-- members ask each other nothing that is seen -/
theorem unseen {s : Shared} {q : Mem} (hq : KeyIn s.heap q) {ys : List Value} (hy : ∀ y ∈ ys, ∃ p : Mem, y = Value.ref p.1 ∧ KeyIn s.heap p) : Says P w s (searchCouldBeSeen (.ref q.1) ys) (· = false) := by
  intro A E Q h
  unfold searchCouldBeSeen
  refine wpAny_bind ?_
  refine wpAny_forIn_list _ (fun rest r z => r.1 = none ∧ z = s ∧ ∀ u ∈ rest, u ∈ ys) _ ?_ ?_ _ _ ⟨rfl, rfl, fun u hu => hu⟩
  · intro u rest r z I
    obtain ⟨hr, rfl, hu⟩ := I
    obtain ⟨p, rfl, hp⟩ := hy u (hu u List.mem_cons_self)
    have I' : ∀ y ∈ rest, y ∈ ys := fun y hy => hu y (List.mem_cons_of_mem _ hy)
    dsimp only
    by_cases same : (q.1 == p.1 || (carriedByValue (.ref q.1) && carriedByValue (.ref p.1))) = true
    · refine wp_if_pos same ?_
      exact wpAny_pure ⟨rfl, rfl, I'⟩
    · refine wp_if_neg same ?_
      refine wpAny_bind (quiet_key q.2 _ 8 z hq.is (Nat.le_succ_of_le hq.dep) _ _ _ ?_)
      simp only [Bool.not_true, Bool.false_eq_true, if_false]
      refine wpAny_bind (quiet_key p.2 _ 8 z hp.is (Nat.le_succ_of_le hp.dep) _ _ _ ?_)
      simp only [Bool.not_true, Bool.false_eq_true, if_false]
      refine wpAny_bind (stmt_key q.2 _ 8 z hq.is (Nat.le_succ_of_le hq.dep) _ _ _ fun r2 e2 => ?_)
      subst e2
      simp only [Bool.false_eq_true, if_false]
      refine wpAny_bind (stmt_key p.2 _ 8 z hp.is (Nat.le_succ_of_le hp.dep) _ _ _ fun r2 e2 => ?_)
      subst e2
      simp only [Bool.false_eq_true, if_false]
      exact wpAny_pure ⟨rfl, rfl, I'⟩
  · intro r z I
    obtain ⟨r1, r2⟩ := r
    obtain ⟨hr, rfl, _⟩ := I
    simp only at hr
    subst hr
    exact wpAny_pure (h _ rfl)
end
end Pd

set_option Elab.async false
set_option linter.all false
set_option maxRecDepth 100000
set_option maxHeartbeats 2000000
namespace Pd
open PySem PySem.Spec PyProof.Rows L2
structure MSet (w : World) (h : Heap) (a : Addr) (L : List Mem) (es : Array (Int × Value)) (ep : Nat) (t : SetTable) : Prop where
  ob : ∃ o, h.get? a = some o ∧ o.ExactSet ∧ o.data = .set es ep t
  rows : es.toList = memRows w L
  tab : TabOk t (L.map (memH w))
  nd : (L.map (·.2)).Nodup
  key : ∀ q ∈ L, KeyIn h q
  room : L.length * 5 < t.mask * 3
  few : L.length < 64
section
variable {P : Program} {w : World} {A : Around} {E : Value → Shared → Prop} {s : Shared} {a : Addr} {L : List Mem} {es : Array (Int × Value)} {ep : Nat} {t : SetTable}
theorem rows_size {L : List Mem} (h : es.toList = memRows w L) : es.size = L.length := by rw [← Array.length_toList, h, memRows_len]
theorem rows_at {L : List Mem} (h : es.toList = memRows w L) {i : Nat} {q : Mem} (hi : L[i]? = some q) : es[i]? = some (memH w q, Value.ref q.1) := by
  rw [← Array.getElem?_toList, h]
  unfold memRows
  rw [List.getElem?_map, hi]
  rfl
theorem fits_of {n : Nat} (hd : t.dummies = #[]) (hs : t.place.size = n) (hm : n ≤ t.mask) : t.fits n = true := by
  unfold SetTable.fits SetTable.fill
  rw [hd, Bool.and_eq_true, beq_iff_eq, decide_eq_true_eq]
  exact ⟨hs, by show t.place.size + 0 ≤ _; omega⟩
theorem MSet.placed {h : Heap} (S : MSet w h a L es ep t) : t.place.size = L.length := by have h := S.tab.sz; rwa [List.length_map] at h
theorem MSet.fit {h : Heap} (S : MSet w h a L es ep t) : t.fits es.size = true := by
  have h1 := S.room
  rw [rows_size S.rows]
  exact fits_of S.tab.dm S.placed (by omega)
theorem probe_clean (m : Nat) : ∀ (n : Nat) (q : SetTable.Probe), q.dummy = none → (nth m q n).dummy = none
  | 0, _, h => h
  | n + 1, q, h => probe_clean m n (adv m q) (by unfold adv; split <;> exact h)
abbrev walk0 (t : SetTable) (z : Int) : SetTable.Probe := runAt t.mask (SetTable.bits z % (t.mask + 1)) (SetTable.bits z)

theorem put_perm' {α : Type} (L : List α) (p : Nat) (x : α) : (L.take p ++ x :: L.drop p).Perm (x :: L) := by
  have h := List.perm_middle (a := x) (l₁ := L.take p) (l₂ := L.drop p)
  rwa [List.take_append_drop] at h
/-- the search, from the c-th place of the way on; K is the way's first empty place -/
theorem mset_search (S : MSet w s.heap a L es ep t) {x : Mem} (hx : KeyIn s.heap x) (hu : A.units + 8 < cLine) {K : Nat} (hKf : K < 10 * SetTable.turns t.mask)
    (hK : way t.mask (memH w x) K ∉ t.place.toList) (hKb : ∀ c, c < K → way t.mask (memH w x) c ∈ t.place.toList) {Q : SetFound → Shared → Prop}
    (hin : x.2 ∈ L.map (·.2) → Q (.there none) s) (hout : x.2 ∉ L.map (·.2) → Q (.free (way t.mask (memH w x) K) false) s) :
    ∀ (f c : Nat) (st : Option SetTable.Probe), st.getD (t.probeStart (memH w x)) = nth t.mask (walk0 t (memH w x)) c → c ≤ K → K - c < f →
      (∀ (i : Nat) q, L[i]? = some q → q.2 = x.2 → ∃ d, c ≤ d ∧ d < K ∧ t.place.toList[i]? = some (way t.mask (memH w x) d)) →
      wpAny (model P w) A (setSearchFrom a (.ref x.1) (memH w x) true f st) Q E s
  | 0, c, st, _, _, hf, _ => absurd hf (Nat.not_lt_zero _)
  | f + 1, c, st, hst, hc, hf, ahead => by
    obtain ⟨o, ho, hex, hd⟩ := S.ob
    have odd : ¬ t.gaveWay = true := by unfold SetTable.gaveWay; rw [mask_odd S.tab.mok]; decide
    rw [setSearchFrom_succ]
    refine wpAny_bind (wpAny_setState_of ho hd S.fit ?_)
    dsimp only
    refine wp_if_neg odd ?_
    try refine wpAny_bind (wpAny_pure ?_)
    have later : ∀ n, nth t.mask (nth t.mask (walk0 t (memH w x)) c) n = nth t.mask (walk0 t (memH w x)) (c + n) := fun n => (nth_add t.mask c _ n).symm
    have laterJ : ∀ n, (nth t.mask (nth t.mask (walk0 t (memH w x)) c) n).j = way t.mask (memH w x) (c + n) := fun n => congrArg SetTable.Probe.j (later n)
    have toK : c + (K - c) = K := by omega
    have found := go_spec t S.tab.ris S.tab.dm (fun i => (es[i]?.map (·.1)).getD 0) (memH w x) (10 * SetTable.turns t.mask) (K - c) _ (probe_clean t.mask c _ rfl) (by omega)
      (fun n hn => by rw [laterJ]; exact hKb (c + n) (by omega)) (by rw [laterJ, toK]; exact hK)
    have hashOf : ∀ (i : Nat) q, L[i]? = some q → (es[i]?.map (·.1)).getD 0 = memH w q := fun i q hq => by rw [rows_at S.rows hq]; rfl
    rcases found with ⟨n, i, hn, hi, hh, before, met⟩ | ⟨before, met⟩
    · -- somebody with this hash
      rw [laterJ] at hi
      have met' : t.probe (fun i => (es[i]?.map (·.1)).getD 0) (memH w x) (st.getD (t.probeStart (memH w x))) = some (.candidate (way t.mask (memH w x) (c + n)) i (nth t.mask (walk0 t (memH w x)) (c + (n + 1)))) := by
        rw [hst, ← laterJ, ← later]
        exact met
      rw [met']
      dsimp only
      have hil : i < L.length := by
        have h1 : i < t.place.toList.length := (List.getElem?_eq_some_iff.mp hi).1
        rwa [Array.length_toList, S.placed] at h1
      have hq : L[i]? = some L[i] := List.getElem?_eq_getElem hil
      generalize L[i] = q at hq
      have mem : q ∈ L := List.mem_of_getElem? hq
      have hqk := S.key q mem
      have go : wpAny (model P w) A (searchRest a (.ref x.1) (memH w x) true f es t (way t.mask (memH w x) (c + n)) i (nth t.mask (walk0 t (memH w x)) (c + (n + 1)))) Q E s := by
        unfold searchRest
        rw [rows_at S.rows hq]
        dsimp only
        refine wpAny_bind (wpAny_holding (eqAt_key q.2 x.2 A s _ _ hqk.is hx.is (by have := hqk.dep; omega) _ _ _ _ ?_))
        refine wpAny_bind (wpAny_setState_of ho hd S.fit ?_)
        dsimp only
        rw [← NestedKey.decide_eq]
        by_cases same : q.2 = x.2
        · refine wp_if_pos (by simp [same]) ?_
          exact wpAny_pure (hin (List.mem_map.mpr ⟨q, mem, same⟩))
        · refine wp_if_neg (by simp [same]) ?_
          try refine wpAny_bind (wpAny_pure ?_)
          rw [sameMem]
          dsimp only
          have here : t.slot (way t.mask (memH w x) (c + n)) = .live i := slot_live S.tab.ris hi
          simp only [if_true, here, rows_at S.rows hq]
          refine wpAny_bind (wpAny_isSame_ref_self (wpAny_bind (wpAny_pure ?_)))
          simp only [if_true]
          refine wp_if_neg (by simp [same]) ?_
          refine mset_search S hx hu hKf hK hKb hin hout f (c + (n + 1)) _ rfl (by omega) (by omega) fun i0 q0 h0 k0 => ?_
          obtain ⟨d, d1, d2, d3⟩ := ahead i0 q0 h0 k0
          refine ⟨d, ?_, d2, d3⟩
          rcases Nat.lt_trichotomy d (c + n) with z | z | z
          · exact (before (d - c) i0 (by omega) (by rw [laterJ, show c + (d - c) = d by omega]; exact d3) ((hashOf i0 q0 h0).trans (congrArg (NestedKey.hash w) k0))).elim
          · rw [z] at d3
            have e0 := slot_live S.tab.ris d3
            rw [here] at e0
            injection e0 with e0
            rw [← e0, hq] at h0
            exact (same ((congrArg Prod.snd (Option.some.inj h0)).trans k0)).elim
          · omega
      by_cases led : t.led = true
      · refine wp_if_neg (by simp [led]) ?_
        try refine wpAny_bind (wpAny_pure ?_)
        exact go
      · refine wp_if_pos (by simp [led]) ?_
        refine wpAny_bind (unseen hx (fun y hy => ?_) _ _ _ fun r e => ?_)
        · obtain ⟨u, hu1, hu2⟩ := List.mem_map.mp hy
          have h1 : u ∈ es.toList := by
            have : u ∈ es ∧ u.1 = memH w x := by simpa using hu1
            simpa using this.1
          rw [S.rows] at h1
          obtain ⟨p, hp, rfl⟩ := List.mem_map.mp h1
          exact ⟨p, hu2.symm, S.key p hp⟩
        · subst e
          refine wp_if_neg (by decide) ?_
          try refine wpAny_bind (wpAny_pure ?_)
          exact go
    · -- nobody
      have met' : t.probe (fun i => (es[i]?.map (·.1)).getD 0) (memH w x) (st.getD (t.probeStart (memH w x))) = some (.empty (way t.mask (memH w x) K) none) := by
        have e2 : way t.mask (memH w x) K = (nth t.mask (nth t.mask (walk0 t (memH w x)) c) (K - c)).j := by rw [laterJ, toK]
        rw [hst, e2]
        exact met
      rw [met']
      dsimp only
      refine wpAny_pure (hout fun hm => ?_)
      obtain ⟨q0, m0, k0⟩ := List.mem_map.mp hm
      obtain ⟨i0, h0⟩ := List.mem_iff_getElem?.mp m0
      obtain ⟨d, d1, d2, d3⟩ := ahead i0 q0 h0 k0
      exact before (d - c) i0 (by omega) (by rw [laterJ, show c + (d - c) = d by omega]; exact d3) ((hashOf i0 q0 h0).trans (congrArg (NestedKey.hash w) k0))
theorem mset_find (S : MSet w s.heap a L es ep t) {x : Mem} (hx : KeyIn s.heap x) (hu : A.units + 8 < cLine) {Q : SetFound → Shared → Prop}
    (hin : x.2 ∈ L.map (·.2) → Q (.there none) s)
    (hout : ∀ K, x.2 ∉ L.map (·.2) → way t.mask (memH w x) K ∉ t.place.toList → (∀ c, c < K → way t.mask (memH w x) c ∈ t.place.toList) → Q (.free (way t.mask (memH w x) K) false) s) :
    wpAny (model P w) A (setSearch a (.ref x.1) (memH w x) true) Q E s := by
  have free := S.room
  obtain ⟨K, hKf, hK, hKb⟩ := S.tab.first (by rw [List.length_map]; omega) (memH w x)
  have small : 10 * SetTable.turns t.mask ≤ 1420 := by
    unfold SetTable.turns
    rcases S.tab.mok with e | e | e <;> omega
  unfold setSearch
  refine mset_search S hx hu hKf hK hKb hin (fun no => hout K no hK hKb) 100000 0 none rfl (Nat.zero_le _) (by omega) fun i q hq hk => ?_
  have h1 : (L.map (memH w))[i]? = some (memH w x) := by
    rw [List.getElem?_map, hq]
    exact congrArg (fun z => some (NestedKey.hash w z)) hk
  have h2 : i < t.place.toList.length := by rw [Array.length_toList, S.placed]; exact (List.getElem?_eq_some_iff.mp hq).1
  have h3 := List.getElem?_eq_getElem h2
  obtain ⟨d, hd, e⟩ := S.tab.before hK h1 h3
  exact ⟨d, Nat.zero_le _, hd, by rw [h3, e]⟩

/-! ### storing -/
theorem key_same {h h' : Heap} {q : Mem} {o : Obj} (x : KeyIn h q) (ho : h.get? a = some o) (hd : o.data = .set es ep t) (hs : Heap.SameBut a h h') : KeyIn h' q :=
  ⟨NestedIs.at (fun b ob vs n hb hc => (hs.2 b fun e => by
    subst e
    rw [ho] at hb
    cases hb
    rw [hd] at hc
    cases hc).trans hb) q.2 _ x.is, x.dep⟩
theorem key_kept {h h' : Heap} {q : Mem} (x : KeyIn h q) (hk : ∀ c o, h.get? c = some o → h'.get? c = some o) : KeyIn h' q := ⟨NestedIs.at (fun b ob vs n hb _ => hk b ob hb) q.2 _ x.is, x.dep⟩
theorem put_rows (L : List Mem) (p : Nat) (x : Mem) : memRows w (L.take p ++ x :: L.drop p) = (memRows w L).take p ++ (memH w x, Value.ref x.1) :: (memRows w L).drop p := by
  unfold memRows
  rw [List.map_append, List.map_cons, List.map_take, List.map_drop]
/-- rows in another order are rows of the members in that order -/
theorem rows_order (order : List Nat) (h : es.toList = memRows w L) (hl : ∀ i ∈ order, i < L.length) :
    order.filterMap (es[·]?) = memRows w (order.filterMap (L[·]?)) ∧ (order.filterMap (L[·]?)).map (memH w) = order.map fun i => (es.map (·.1)).getD i 0 := by
  induction order with
  | nil => exact ⟨rfl, rfl⟩
  | cons i r ih =>
    have hi := hl i List.mem_cons_self
    obtain ⟨e1, e2⟩ := ih fun j hj => hl j (List.mem_cons_of_mem _ hj)
    have g := List.getElem?_eq_getElem hi
    have ge := rows_at h g
    refine ⟨?_, ?_⟩
    · rw [List.filterMap_cons_some ge, List.filterMap_cons_some g, e1]
      rfl
    · rw [List.filterMap_cons_some g, List.map_cons, List.map_cons, e2]
      have : (es.map (·.1))[i]? = some (memH w L[i]) := by rw [Array.getElem?_map, ge]; rfl
      simp [Array.getD_eq_getD_getElem?, this]
theorem all_in_order (l : List Mem) : ∀ n, n ≤ l.length → (List.range n).filterMap (fun i => l[i]?) = l.take n
  | 0, _ => rfl
  | n + 1, h => by
    have g := List.getElem?_eq_getElem (show n < l.length from h)
    rw [List.range_succ, List.filterMap_append, all_in_order l n (Nat.le_of_succ_le h), List.take_succ, g, List.filterMap_cons_some g]
    rfl
theorem mset_relay {o : Obj} (ho : s.heap.get? a = some o) (hex : o.ExactSet) (hd : o.data = .set es ep t) (hr : es.toList = memRows w L) (hp : t.place.size = L.length) (hdm : t.dummies = #[]) (hfl : L.length ≤ t.mask)
    (nd : (L.map (·.2)).Nodup) (key : ∀ q ∈ L, KeyIn s.heap q) (few : L.length < 64) {wanted M : Nat} (hw : SetTable.sizeAbove wanted - 1 = M) (hM : MaskOk M) (hw2 : SetTable.sizeAbove wanted ≤ 128) (hn : L.length * 5 < M * 3) {Q : Unit → Shared → Prop}
    (q : ∀ h' L' es' ep' t', Heap.SameBut a s.heap h' → MSet w h' a L' es' ep' t' → L'.Perm L → Q () { s with heap := h' }) : wpAny (model P w) A (setRelay a wanted) Q E s := by
  have hsz := rows_size hr
  obtain ⟨t2, order, e, perm, T, em, _, _, _⟩ := relaid_ok t (hs := es.map (·.1)) (wanted := wanted) hw hM (by rw [Array.size_map, hsz]; omega)
  rw [Array.size_map, hsz] at perm
  obtain ⟨r1, r2⟩ := rows_order order.toList hr fun i hi => List.mem_range.mp (perm.mem_iff.mp hi)
  have pL : (order.toList.filterMap fun i => L[i]?).Perm L := by
    have := perm.filterMap fun i => L[i]?
    rwa [all_in_order L L.length (Nat.le_refl _), List.take_length] at this
  rw [← r2] at T
  have r3 : (order.filterMap (es[·]?)).toList = memRows w (order.toList.filterMap fun i => L[i]?) := by rw [Array.toList_filterMap]; exact r1
  have hs2 : (order.filterMap (es[·]?)).size = es.size := by rw [rows_size r3, pL.length_eq, hsz]
  rw [setRelay_eq]
  refine wpAny_bind (wpAny_setState_of ho hd (by rw [hsz]; exact fits_of hdm hp hfl) ?_)
  dsimp only
  refine wp_if_neg (by rw [sizeLine_eq]; omega) ?_
  try refine wpAny_bind (wpAny_pure ?_)
  rw [e]
  dsimp only
  refine wpAny_bind ?_
  refine wp_if_neg (by rw [hs2]; simp) ?_
  try refine wpAny_bind (wpAny_pure ?_)
  refine wpAny_pure ?_
  dsimp only
  refine wpAny_storeSet_of ho hd ?_ (by rw [hs2, hsz, sizeLine_eq]; omega)
  have sb : Heap.SameBut a s.heap (s.heap.update a (Obj.putSet (order.filterMap (es[·]?)) t2)) := Heap.SameBut.update ..
  exact q _ _ _ (ep + 1) t2 sb ⟨⟨_, store_at ho hd, ⟨hex.1, hex.2.1, hex.2.2⟩, rfl⟩, r3, T, (pL.map (·.2)).nodup_iff.mpr nd, fun z hz => key_same (key z (pL.mem_iff.mp hz)) ho hd sb, by rw [pL.length_eq, em]; exact hn, by rw [pL.length_eq]; exact few⟩ pL
theorem TabOk.unplain {t : SetTable} {hs : List Int} (T : TabOk t hs) {b : Bool} : TabOk { t with plain := b } hs := ⟨T.ris, T.dm, T.sz, T.mok, T.bd, T.reach⟩
/-- adding a member whose hash is told -/
theorem mset_add (S : MSet w s.heap a L es ep t) {x : Mem} (hx : KeyIn s.heap x) (hu : A.units + 8 < cLine) (hfew : L.length + 1 < 64) {Q : Bool → Shared → Prop}
    (q : ∀ b h' L' es' ep' t', Heap.SameBut a s.heap h' → MSet w h' a L' es' ep' t' → (x.2 ∈ L.map (·.2) → L' = L) → (x.2 ∉ L.map (·.2) → L'.Perm (x :: L)) → Q b { s with heap := h' }) :
    wpAny (model P w) A (setAddHashed a (.ref x.1) (memH w x)) Q E s := by
  obtain ⟨o, ho, hex, hd⟩ := S.ob
  have hsz := rows_size S.rows
  have free := S.room
  unfold setAddHashed
  refine wpAny_holding ?_
  rw [show (100000 : Nat) = 99999 + 1 from rfl, setAddHashedIn_succ]
  refine wpAny_bind (wpAny_setState_of ho hd S.fit ?_)
  dsimp only
  refine wp_if_neg (by simp [byScan, Value.scannable]) ?_
  try refine wpAny_bind (wpAny_pure ?_)
  refine wpAny_bind (mset_find S hx hu (fun hm => ?_) fun K hm hK hb => ?_)
  · dsimp only
    exact wpAny_pure (q false s.heap L es ep t (Heap.SameBut.refl a s.heap) S (fun _ => rfl) fun z => absurd hm z)
  · dsimp only
    refine wpAny_bind (wpAny_setState_of ho hd S.fit ?_)
    dsimp only
    obtain ⟨q1, q2, q3, q4, _, _, _, _, q9⟩ := S.tab.put hK hb
    generalize t.put (way t.mask (memH w x) K) = pt at q1 q3 q4 q9 ⊢
    obtain ⟨t1, p⟩ := pt
    dsimp only at q1 q3 q4 q9 ⊢
    subst q1
    have rows1 : (SetTable.insertAt es (SetTable.below t.place (way t.mask (memH w x) K)) (memH w x, Value.ref x.1)).toList = memRows w (L.take (SetTable.below t.place (way t.mask (memH w x) K)) ++ x :: L.drop (SetTable.below t.place (way t.mask (memH w x) K))) := by
      rw [SetTable.toList_insertAt, put_rows, S.rows]
    generalize SetTable.below t.place (way t.mask (memH w x) K) = p at q2 q3 rows1 ⊢
    have pm := put_perm' L p x
    have hs1 : (L.take p ++ x :: L.drop p).map (memH w) = (L.map (memH w)).take p ++ memH w x :: (L.map (memH w)).drop p := by
      rw [List.map_append, List.map_cons, List.map_take, List.map_drop]
    rw [← hs1] at q3
    generalize SetTable.insertAt es p (memH w x, Value.ref x.1) = es1 at rows1 ⊢
    generalize L.take p ++ x :: L.drop p = L1 at pm q3 rows1
    have len1 : L1.length = L.length + 1 := pm.length_eq
    have sz1 : es1.size = L.length + 1 := by rw [rows_size rows1, len1]
    have nd1 : (L1.map (·.2)).Nodup := (pm.map (·.2)).nodup_iff.mpr (List.nodup_cons.mpr ⟨hm, S.nd⟩)
    have mask1 : t1.mask = t.mask := q4
    -- whatever is told of the hash by value
    have rest : ∀ t2 : SetTable, TabOk t2 (L1.map (memH w)) → t2.mask = t.mask → t2.fill = L.length + 1 →
        wpAny (model P w) A (storeSet a es1 t2) (fun _ s' => wpAny (model P w) A (do
          if !false && t2.tooFull then setRelay a (SetTable.grown (es.size + 1))
          return true) Q E s') E s := fun t2 T2 m2 f2 => by
      refine wpAny_storeSet_of ho hd ?_ (by rw [sz1, sizeLine_eq]; omega)
      have sb : Heap.SameBut a s.heap (s.heap.update a (Obj.putSet es1 t2)) := Heap.SameBut.update ..
      have ho1 := store_at (es' := es1) (t' := t2) ho hd
      generalize s.heap.update a (Obj.putSet es1 t2) = h1 at sb ho1 ⊢
      have key1 : ∀ z ∈ L1, KeyIn h1 z := fun z hz => by
        rcases List.mem_cons.mp (pm.mem_iff.mp hz) with e | hz
        · rw [e]; exact key_same hx ho hd sb
        · exact key_same (S.key z hz) ho hd sb
      by_cases full : t2.tooFull = true
      · have fullN : (L.length + 1) * 5 ≥ t2.mask * 3 := by
          have h := full
          unfold SetTable.tooFull at h
          rwa [decide_eq_true_eq, f2] at h
        have which : (t.mask = 7 ∧ L.length = 4) ∨ (t.mask = 31 ∧ L.length = 18) := by
          rcases S.tab.mok with e | e | e
          · left; rw [m2, e] at fullN; rw [e] at free; exact ⟨e, by omega⟩
          · right; rw [m2, e] at fullN; rw [e] at free; exact ⟨e, by omega⟩
          · exfalso; rw [m2, e] at fullN; omega
        have go : ∀ M, SetTable.sizeAbove (SetTable.grown (L.length + 1)) - 1 = M → MaskOk M → SetTable.sizeAbove (SetTable.grown (L.length + 1)) ≤ 128 → (L.length + 1) * 5 < M * 3 →
            wpAny (model P w) A (setRelay a (SetTable.grown (L.length + 1))) (fun _ s' => wpAny (model P w) A (pure true) Q E s') E { s with heap := h1 } := fun M e1 e2 e3 e4 => by
          refine mset_relay (s := { s with heap := h1 }) ho1 ⟨hex.1, hex.2.1, hex.2.2⟩ rfl rows1 (by have := T2.sz; rwa [List.length_map] at this) T2.dm (by rw [len1, m2]; rcases which with ⟨a1, a2⟩ | ⟨a1, a2⟩ <;> omega) nd1 key1 (by omega) e1 e2 e3 (by rw [len1]; exact e4) ?_
          intro h2 L2 es2 ep2 t3 sb2 S2 pm2
          exact wpAny_pure (q true h2 L2 es2 ep2 t3 (sb.trans sb2) S2 (fun z => absurd z hm) fun _ => pm2.trans pm)
        rw [hsz]
        first
          | (refine wpAny_bind ?_; refine wp_if_pos (by simp [full]) ?_)
          | (refine wp_if_pos (by simp [full]) ?_; refine wpAny_bind ?_)
        rcases which with ⟨_, e2⟩ | ⟨_, e2⟩
        · exact go 31 (by rw [e2, size_20]) (.inr (.inl rfl)) (by rw [e2, size_20]; decide) (by omega)
        · exact go 127 (by rw [e2, size_76]) (.inr (.inr rfl)) (by rw [e2, size_76]; decide) (by omega)
      · first
          | refine wp_if_neg (by simp [full]) ?_
          | (refine wpAny_bind ?_; refine wp_if_neg (by simp [full]) ?_; refine wpAny_pure ?_)
        refine wpAny_pure (q true h1 L1 es1 (ep + 1) t2 sb ⟨⟨_, ho1, ⟨hex.1, hex.2.1, hex.2.2⟩, rfl⟩, rows1, T2, nd1, key1, ?_, by omega⟩ (fun z => absurd z hm) fun _ => pm)
        have h := full
        unfold SetTable.tooFull at h
        rw [decide_eq_true_eq, f2] at h
        rw [len1]
        omega
    have fill1 : t1.fill = L.length + 1 := by rw [q9, List.length_map]
    have fillP : ∀ b, ({ t1 with plain := b } : SetTable).fill = L.length + 1 := fun b => fill1
    cases hpl : t1.plain with
    | true =>
      first
        | (refine wpAny_bind ?_; refine wp_if_pos rfl ?_; refine byVal_key x.2 _ 8 s hx.is (Nat.le_succ_of_le hx.dep) _ _ _ fun r _ => ?_)
        | refine wp_if_pos rfl (wpAny_bind (byVal_key x.2 _ 8 s hx.is (Nat.le_succ_of_le hx.dep) _ _ _ fun r _ => ?_))
      cases r with
      | true =>
        simp only [if_true]
        exact wpAny_bind (rest t1 q3 mask1 fill1)
      | false =>
        simp only [Bool.false_eq_true, if_false]
        exact wpAny_bind (rest _ (TabOk.unplain q3) mask1 (fillP _))
    | false =>
      first
        | (refine wpAny_bind ?_; refine wp_if_neg (by decide) ?_; refine wpAny_pure ?_)
        | refine wp_if_neg (by decide) (wpAny_bind (wpAny_pure ?_))
      simp only [if_true]
      exact wpAny_bind (rest t1 q3 mask1 fill1)
end
end Pd

set_option Elab.async false
set_option linter.all false
set_option maxRecDepth 100000
set_option maxHeartbeats 3200000
namespace Pd
open PySem PySem.Spec PyProof.Rows L2
/-- what is in the set of the first i of ks -/
structure From (ks : List Mem) (i : Nat) (L : List Mem) : Prop where
  sub : ∀ q ∈ L, q ∈ ks.take i
  all : ∀ q ∈ ks.take i, q.2 ∈ L.map (·.2)
  len : L.length ≤ i
theorem From.none (ks : List Mem) : From ks 0 [] := ⟨fun _ h => (nomatch h), fun _ h => (by simp at h), Nat.le_refl _⟩
theorem From.next {ks L L' : List Mem} {i : Nat} {x : Mem} (g : From ks i L) (hx : ks[i]? = some x) (c1 : x.2 ∈ L.map (·.2) → L' = L) (c2 : x.2 ∉ L.map (·.2) → L'.Perm (x :: L)) : From ks (i + 1) L' := by
  have tk : ks.take (i + 1) = ks.take i ++ [x] := by rw [List.take_succ, hx]; rfl
  rcases Classical.em (x.2 ∈ L.map (·.2)) with c | c
  · rw [c1 c]
    refine ⟨fun q hq => by rw [tk]; exact List.mem_append_left _ (g.sub q hq), fun q hq => ?_, Nat.le_succ_of_le g.len⟩
    rw [tk] at hq
    rcases List.mem_append.mp hq with z | z
    · exact g.all q z
    · rw [List.mem_singleton.mp z]; exact c
  · have pm := c2 c
    refine ⟨fun q hq => ?_, fun q hq => ?_, ?_⟩
    · rw [tk]
      rcases List.mem_cons.mp (pm.mem_iff.mp hq) with e | z
      · rw [e]; exact List.mem_append_right _ (List.mem_singleton.mpr rfl)
      · exact List.mem_append_left _ (g.sub q z)
    · rw [(pm.map (·.2)).mem_iff, List.map_cons]
      rw [tk] at hq
      rcases List.mem_append.mp hq with z | z
      · exact List.mem_cons_of_mem _ (g.all q z)
      · rw [List.mem_singleton.mp z]; exact List.mem_cons_self
    · rw [pm.length_eq, List.length_cons]; exact Nat.succ_le_succ g.len
section
variable {P : Program} {w : World} {A : Around} {E : Value → Shared → Prop} {s : Shared}
theorem MSet.kept {h h' : Heap} {a : Addr} {L : List Mem} {es : Array (Int × Value)} {ep : Nat} {t : SetTable} (S : MSet w h a L es ep t) (ha : ∀ o, h.get? a = some o → h'.get? a = some o) (hk : ∀ q ∈ L, KeyIn h' q) : MSet w h' a L es ep t :=
  let ⟨o, ho, r⟩ := S.ob
  ⟨⟨o, ha o ho, r⟩, S.rows, S.tab, S.nd, hk, S.room, S.few⟩
abbrev bareSet (w : World) : Obj := { cls := .type "set", dict := none, data := .set #[] 0 (.fresh 0 0 (!w.params.followText "set-order")) }
theorem mset_bare {h : Heap} {a : Addr} (ho : h.get? a = some (bareSet w)) : MSet w h a [] #[] 0 (.fresh 0 0 (!w.params.followText "set-order")) where
  ob := ⟨_, ho, ⟨rfl, rfl, rfl⟩, rfl⟩
  rows := rfl
  tab := ⟨List.Pairwise.nil, rfl, rfl, .inl rfl, fun x hx => (nomatch hx), fun i h j hi => (by simp at hi)⟩
  nd := List.nodup_nil
  key := fun _ h => nomatch h
  room := by show 0 * 5 < 7 * 3; decide
  few := by show 0 < 64; decide
/-- the loop that fills the set -/
theorem mset_fill {I : Addr} {fp wr : List Addr} {G : Array GenState → Array GenState → Prop} {n : Nat} {Pv : Nat → Value → Prop} {St : Nat → Shared → Prop} {R : Result → Shared → Prop}
    (W : WalksS P w A.in1 I fp wr G n Pv St) (S : Addr) (out : S ∉ fp) (ks : List Mem) (hn : n = ks.length) (hfew : ks.length < 64) (item : ∀ i v, Pv i v → ∃ q, ks[i]? = some q ∧ v = .ref q.1)
    (h0 : Heap) (hk : ∀ q ∈ ks, KeyIn h0 q) (S0 : h0.get? S = none) (w0 : ∀ b ∈ wr, h0.get? b = none) (hu : A.in1.units + 8 < cLine) :
    ∀ (k i : Nat) (s : Shared), n - i = k → i ≤ n → St i s → (∀ b o, h0.get? b = some o → s.heap.get? b = some o) → (∃ L es ep t, MSet w s.heap S L es ep t ∧ From ks i L) →
      (∀ z L es ep t, Moved (S :: wr) G s z → MSet w z.heap S L es ep t → From ks n L → (∀ b o, h0.get? b = some o → z.heap.get? b = some o) → R (.ok (.ret .none)) z) →
      codeAny (model P w) A (.builtin "set.update.loop" ⟨[.ref S, .ref I], []⟩) R s := by
  have hSw : S ∉ wr := fun h => out (W.sub _ h)
  have up : ∀ b ∈ wr, b ∈ S :: wr := fun b hb => List.mem_cons_of_mem _ hb
  have stays : ∀ {s z : Shared}, Moved wr G s z → (∀ b o, h0.get? b = some o → s.heap.get? b = some o) → ∀ b o, h0.get? b = some o → z.heap.get? b = some o := fun hm hkp b o e =>
    hm.heap b o (fun hb => by rw [w0 b hb] at e; cases e) (hkp b o e)
  intro k
  induction k with
  | zero =>
    intro i s left hi hst hkp have_ hR
    obtain ⟨L, es, ep, t, hS, g⟩ := have_
    obtain rfl : i = n := by omega
    refine codeAny_builtin F.entry_set_update_loop ?_
    rw [Around.under_plainId F.plain_set_update_loop _]
    refine wpAny_bind (W.done s _ _ hst fun z hm => ?_)
    have kp := stays hm hkp
    have sub : ∀ q ∈ L, q ∈ ks := fun q hq => List.mem_of_mem_take (g.sub q hq)
    exact wpAny_pure (hR z L es ep t (hm.mono up) (hS.kept (fun o e => hm.heap S o hSw e) fun q hq => key_kept (hk q (sub q hq)) kp) g kp)
  | succ k ih =>
    intro i s left hi hst hkp have_ hR
    obtain ⟨L, es, ep, t, hS, g⟩ := have_
    have hlt : i < n := by omega
    refine codeAny_builtin F.entry_set_update_loop ?_
    rw [Around.under_plainId F.plain_set_update_loop _]
    refine wpAny_bind (W.item i s _ _ hlt hst fun v z hP hst' hm => ?_)
    obtain ⟨q, hq, rfl⟩ := item i v hP
    have kp := stays hm hkp
    have sub : ∀ q ∈ L, q ∈ ks := fun q hq => List.mem_of_mem_take (g.sub q hq)
    have hS' := hS.kept (fun o e => hm.heap S o hSw e) fun q hq => key_kept (hk q (sub q hq)) kp
    have hx : KeyIn z.heap q := key_kept (hk q (List.mem_of_getElem? hq)) kp
    show wpAny _ A.in1 (holding [Value.ref q.1] (setAdd S (.ref q.1)) >>= _) _ _ z
    refine wpAny_bind (wpAny_holding ?_)
    unfold setAdd
    refine wpAny_holding ?_
    refine wpAny_bind (pyHash_key q.2 _ _ z _ hx.is (by have := hx.dep; omega) ?_)
    refine mset_add (s := { z with toks := z.toks + q.2.draws }) hS' hx hu (by have := g.len; omega) fun b h' L' es' ep' t' same S2 c1 c2 => ?_
    have kp2 : ∀ b o, h0.get? b = some o → h'.get? b = some o := fun b o e => (same.2 b (fun y => by rw [y, S0] at e; cases e)).trans (kp b o e)
    refine wpAny_pure ⟨plainId_quiet F.plain_set_update_loop _, ih (i + 1) _ (by omega) hlt (W.frame _ z _ _ hst' (Nat.le_add_right _ _) fun b hb o e => ?_) kp2 ⟨L', es', ep', t', S2, g.next hq c1 c2⟩ fun y L2 es2 ep2 t2 hm2 S3 g3 kp3 => ?_⟩
    · rw [same.2 b fun h : b = S => out (h ▸ hb)]; exact e
    · refine hR y L2 es2 ep2 t2 (Moved.trans W.gtrans ((hm.mono up).then_heap (Nat.le_add_right _ _) fun b o hb e => ?_) hm2) S3 g3 kp3
      rw [same.2 b fun h : b = S => hb (h ▸ List.mem_cons_self)]; exact e
/-- set(t) of a tuple -/
theorem call_mset {l : Addr} {items : Array Value} (ks : List Mem) {Q : Value → Shared → Prop} (hh : A.handled = none) (hl : s.heap.IsTuple l items) (hit : items.toList = ks.map fun q => Value.ref q.1)
    (hk : ∀ q ∈ ks, KeyIn s.heap q) (hfew : ks.length < 64) (hu : A.units + 16 < cLine)
    (h : ∀ (h' : Heap) (tk : Nat) L es ep t, MSet w h' s.heap.objs.size L es ep t → From ks ks.length L → (∀ b o, s.heap.get? b = some o → h'.get? b = some o) → Q (.ref s.heap.objs.size) { s with heap := h', toks := tk }) :
    wpAny (model P w) A (call (.type "set") [.ref l]) Q E s := by
  have hisz : items.size = ks.length := by rw [← Array.length_toList, hit, List.length_map]
  obtain ⟨c, tl, hmro⟩ := F.called_set.mro
  have hmade := F.called_set.made
  have hsub := F.called_set.sub
  have h1 := F.called_set.notType
  have h2 := F.called_set.canCreate
  have hct := F.typeCall_set_1 (.ref l)
  refine wpAny_call (codeAny_of_tree ?_)
  show wpAny _ _ (callAny (.type "set") _) _ _ _
  refine wpAny_pure ⟨Code.quiet_builtin _ (by decide +kernel), codeAny_builtin F.entry_type_call ?_⟩
  rw [Around.under_plain (weight_type_call_type "set" [.ref l] []) rfl]
  repeat (any_goals (first | assumption | wp_step))
  refine codeAny_mono (code_set_led1 (.ref l) (E := E) (Q₁ := fun ob z => ob = .ref s.heap.objs.size ∧ z = { s with heap := s.heap.push (bareSet w) }) ⟨rfl, rfl⟩) fun r z hr => ?_
  cases r with
  | error e => exact hr
  | ok fl =>
    cases fl with
    | ret ob =>
      obtain ⟨rfl, rfl⟩ := hr
      have hS : (s.heap.push (bareSet w)).get? s.heap.objs.size = some (bareSet w) := Heap.get?_push_size _ rfl
      have hT : Shared.TypeIs { s with heap := s.heap.push (bareSet w) } (.ref s.heap.objs.size) "set" := ⟨_, hS, rfl⟩
      have hli := F.called_set.init.lookup
      have hbi := F.called_set.init.bind (.ref s.heap.objs.size)
      repeat (any_goals (first | assumption | wp_step))
      refine codeAny_mono (codeAny_call_builtin (R := wants (fun r z => r = .none ∧ ∃ h' tk L es ep t, z = { s with heap := h', toks := tk } ∧ MSet w h' s.heap.objs.size L es ep t ∧ From ks ks.length L ∧
          (∀ b o, s.heap.get? b = some o → h'.get? b = some o)) E) F.called_set.init.plain F.entry_set_init (check_set_init_1 hT ?_)) fun r2 z2 hr2 => ?_
      · obtain ⟨ol, hol, hcl, nl, hdl⟩ := hl
        obtain ⟨ocls, odict, odata, oslots⟩ := ol
        simp only at hcl hdl
        subst hcl; subst hdl
        have hol2 : (s.heap.push (bareSet w)).get? l = some { cls := .type "tuple", dict := odict, data := .seq items nl, slots := oslots } := Heap.get?_push_of_some _ hol
        have f1 := F.sub_tuple_set
        have f2 := F.sub_tuple_frozenset
        have f3 : (Value.type "tuple" == Value.type "dict") = false := by decide
        have hl1 : (s.heap.push (bareSet w)).IsTuple l items := ⟨_, hol2, rfl, nl, rfl⟩
        unfold Builtin.«set.__init__» noKeywords Builtin.Frozenset.updateFrom
        generalize hPI : pyIter = PI
        wp_walk
        subst hPI
        refine wpAny_pyIter_tuple hl1 ?_
        refine wpAny_bind (wpAny_runValue ?_)
        have hlS : l < s.heap.objs.size := Heap.lt_size hol
        have quiet3 : A.in1.in1.in1.handled = none := by simp [hh]
        have sz : (s.heap.push (bareSet w)).objs.size = s.heap.objs.size + 1 := Heap.size_push ..
        have hneI : l ≠ (s.heap.push (bareSet w)).objs.size := by rw [sz]; exact Nat.ne_of_lt (Nat.lt_succ_of_lt hlS)
        have out : s.heap.objs.size ∉ [(s.heap.push (bareSet w)).objs.size, l] := by
          rw [sz]; simp only [List.mem_cons, List.mem_singleton, List.not_mem_nil, or_false, not_or]
          exact ⟨Nat.ne_of_lt (Nat.lt_succ_self _), Nat.ne_of_gt hlS⟩
        have item : ∀ (i : Nat) (v : Value), items[i]? = some v → ∃ q, ks[i]? = some q ∧ v = .ref q.1 := fun i v hv => by
          rw [← Array.getElem?_toList, hit, List.getElem?_map] at hv
          obtain ⟨q, e1, e2⟩ := Option.map_eq_some_iff.mp hv
          exact ⟨q, e1, e2.symm⟩
        have none_of : ∀ b, s.heap.objs.size ≤ b → s.heap.get? b = none := fun b hb => by
          cases q : s.heap.get? b with
          | none => rfl
          | some o => exact absurd (Nat.lt_of_lt_of_le (Heap.lt_size q) hb) (Nat.lt_irrefl _)
        refine mset_fill ((Walks.tuple quiet3 _ l hneI items).toS) s.heap.objs.size
          out ks hisz hfew item s.heap hk (none_of _ (Nat.le_refl _)) (fun b hb => none_of b (by
            rw [List.mem_singleton.mp hb, sz]
            exact Nat.le_succ _)) (by simp only [Around.in1_units] at *; omega) (items.size - 0) 0 _ (by omega) (Nat.zero_le _)
          ⟨⟨_, Heap.get?_push_size _ rfl, rfl, rfl⟩, (hl1.push _)⟩ (fun b o e => Heap.get?_push_of_some _ (Heap.get?_push_of_some _ e)) ⟨[], #[], 0, _, mset_bare (Heap.get?_push_of_some _ hS), From.none ks⟩ ?hR
        case hR =>
          intro z L es ep t hm hS2 g2 hkp
          obtain ⟨h', g', d', tk', os'⟩ := z
          obtain rfl : g' = s.gens := hm.gens
          obtain rfl : d' = s.drawn := hm.drawn
          obtain rfl : os' = s.os := hm.os
          refine wpAny_pure ?_
          show wpAny _ _ (ret Value.none) _ _ _
          rw [hisz] at g2
          exact wpAny_pure ⟨rfl, h', tk', L, es, ep, t, rfl, hS2, g2, hkp⟩
      · cases r2 with
        | error e => exact hr2
        | ok fl2 =>
          cases fl2 with
          | ret r =>
            obtain ⟨rfl, h', tk, L, es, ep, t, rfl, hS2, g2, hk2⟩ := hr2
            repeat (any_goals (first | assumption | wp_step))
            exact h _ _ _ _ _ _ hS2 g2 hk2
          | _ => exact hr2.elim
    | _ => exact hr.elim
end
end Pd

set_option Elab.async false
set_option linter.all false
set_option maxRecDepth 100000
set_option maxHeartbeats 1000000
namespace Pd
open PySem PySem.Spec PyProof.Rows L2
section
variable {X : Cx} {C : Ct} {Wx : WX} {a b c : Expr} {f g h : FE} {r : FA} {t u : FT} {pos p p2 pos2 : Pos}
def pairS : PyData → Option (Str × Str)
  | .tuple [.str x, .str y] => some (x, y)
  | _ => none
def pairsS : List PyData → Option (List (Str × Str))
  | [] => some []
  | d :: ds => match pairS d, pairsS ds with
    | some p, some ps => some (p :: ps)
    | _, _ => none
/-- len(set(v)), v a tuple of pairs of texts -/
def eLenSet (f : FE) : FE := fun e m => (f e m).bind fun w m1 => match w with
  | .d (.tuple ds) => match pairsS ds with
    | some ps => if ps.length < 64 then .ok (.d (.int ps.eraseDups.length)) m1 else .bad
    | none => .bad
  | _ => .bad
def pairK (q : Str × Str) : NestedKey := .tup [.text q.1, .text q.2]
theorem pairK_inj {q z : Str × Str} (h : pairK q = pairK z) : q = z := by
  unfold pairK at h
  injection h with h
  injection h with h1 h2
  injection h1 with h1
  injection h2 with h2 _
  injection h2 with h2
  exact Prod.ext h1 h2
theorem dups_len_nd {α : Type} [BEq α] [LawfulBEq α] : ∀ (n : Nat) (l : List α), l.length ≤ n → l.eraseDups.Nodup
  | _, [], _ => by simp
  | n + 1, x :: l, h => by
    rw [List.eraseDups_cons]
    refine List.nodup_cons.mpr ⟨fun z => ?_, dups_len_nd n _ (Nat.le_trans (List.length_filter_le _ _) (Nat.le_of_succ_le_succ h))⟩
    rw [List.mem_eraseDups, List.mem_filter] at z
    simp at z
theorem from_len {ps : List (Str × Str)} {ks L : List Mem} (hk : ks.map (·.2) = ps.map pairK) (nd : (L.map (·.2)).Nodup) (g : From ks ks.length L) : L.length = ps.eraseDups.length := by
  have n2 : (ps.eraseDups.map pairK).Nodup := (List.Pairwise.map _ (fun _ _ h e => h (pairK_inj e)) (dups_len_nd _ ps (Nat.le_refl _)))
  have pm : (L.map (·.2)).Perm (ps.eraseDups.map pairK) := (List.perm_ext_iff_of_nodup nd n2).mpr fun z => by
    constructor
    · intro hz
      obtain ⟨q, hq, rfl⟩ := List.mem_map.mp hz
      have h1 : q.2 ∈ ks.map (·.2) := List.mem_map.mpr ⟨q, List.mem_of_mem_take (g.sub q hq), rfl⟩
      rw [hk] at h1
      obtain ⟨p, hp, e⟩ := List.mem_map.mp h1
      exact List.mem_map.mpr ⟨p, List.mem_eraseDups.mpr hp, e⟩
    · intro hz
      obtain ⟨p, hp, rfl⟩ := List.mem_map.mp hz
      have h1 : pairK p ∈ ks.map (·.2) := by rw [hk]; exact List.mem_map.mpr ⟨p, List.mem_eraseDups.mp hp, rfl⟩
      obtain ⟨q, hq, e⟩ := List.mem_map.mp h1
      rw [← e]
      exact g.all q (by rw [List.take_length]; exact hq)
  have := pm.length_eq
  rwa [List.length_map, List.length_map] at this
theorem pairS_of {d : PyData} {q : Str × Str} (h : pairS d = some q) : d = .tuple [.str q.1, .str q.2] := by
  unfold pairS at h
  split at h
  · cases h; rfl
  · cases h
theorem pairs_mem {pins : List (Addr × Obj)} {σ : St} {H : Hp} {M : Ad} {s : Shared} (I : Inv X pins σ H s) : ∀ {ds : List PyData} {vs : List V} {ps : List (Str × Str)}, RpA X.K H M vs ds → pairsS ds = some ps →
    ∃ ks : List Mem, vs = ks.map (fun q => V.ref q.1) ∧ ks.map (·.2) = ps.map pairK ∧ ∀ q ∈ ks, KeyIn s.heap q
  | [], _, _, rr, e => by cases rr; cases e; exact ⟨[], rfl, rfl, fun _ h => (nomatch h)⟩
  | d :: ds, _, ps, rr, e => by
    cases rr with | cons x y =>
    unfold pairsS at e
    split at e
    · rename_i q ps' e1 e2
      cases e
      have ed := pairS_of e1
      subst ed
      obtain ⟨ks, h1, h2, h3⟩ := pairs_mem I y e2
      cases x with | @tup b xs _ x1 x2 =>
      cases x2 with | cons a1 a2 =>
      cases a2 with | cons a3 a4 =>
      cases a1; cases a3; cases a4
      obtain ⟨its, rv, ⟨o, ho, hc, n, hd⟩, _⟩ := I.tuple x1.sq
      refine ⟨(b, pairK q) :: ks, by rw [h1]; rfl, by rw [List.map_cons, List.map_cons, h2], fun z hz => ?_⟩
      rcases List.mem_cons.mp hz with e | hz
      · subst e
        refine ⟨.tup ho hc hd ?_, by show (pairK q).depth ≤ 7; unfold pairK; simp [NestedKey.depth, NestedKey.depthAll]⟩
        cases rv with | cons r1 r2 =>
        cases r2 with | cons r3 r4 =>
        cases r4
        obtain ⟨t1, rfl⟩ := r1
        obtain ⟨t2, rfl⟩ := r3
        exact .cons (.text _ _) (.cons (.text _ _) .nil)
      · exact h3 z hz
    · cases e
theorem vals_mem : ∀ {ks : List Mem} {us : List Value}, Vals (ks.map fun q => V.ref q.1) us → us = ks.map fun q => Value.ref q.1
  | [], _, .nil => rfl
  | q :: ks, _, .cons r t => by cases r; rw [vals_mem t]; rfl
theorem de_lenSet {x y : Str} (hx : x = "len") (hy : y = "set") (hc : X.calm = true) (hu : X.A.units + 65 < cLine) (hm : X.mg x = none) (hm2 : X.mg y = none) (ha : DE X C Wx a f) (hg : Gl X x := by rfl) (hg2 : Gl X y := by rfl) (hK : X.K = C.K := by rfl)
    (na : starEach [a] X.env = (false, eval a X.env) :: starEach [] X.env := by rfl) : DE X C Wx (.Call (.Name x p) [.Call (.Name y p2) [a] [] pos2] [] pos) (eLenSet f) := by
  subst hx hy
  refine ⟨⟨fun pins s σ H Q I h => ?_⟩⟩
  obtain ⟨M, m, e, o, rs, q⟩ := h
  refine Call_ (ld_blt I hg hm PySem.boot_len ?_)
  refine PyProof.Rows.callWith_builtin1 (PyProof.Rows.args_cons ?_ rfl) rfl rfl
  refine Call_ (ld_blt I hg2 hm2 PyProof.Rows.boot_set ?_)
  refine PyProof.Rows.callWith_type1 (PyProof.Rows.args_cons (thn (ha.pe.run pins s σ H (fun v H1 => ∃ l M1 ds ps m1, v = .ref l ∧ Ok C M1 m1 H1 ∧ Rp C.K H1 M1 (.ref l) (.tuple ds) ∧ pairsS ds = some ps ∧ ps.length < 64 ∧ Q (.int ps.eraseDups.length) H1) I
    (tE_bind o rs q fun v w M1 m1 H1 g1 o1 r1 rv q1 => ?_)) fun v s1 ⟨x, H1, I1, r1, q1⟩ => PyProof.Rows.args_nil ?_) na) na rfl
  · split at q1
    · split at q1
      · rename_i ds _ ps e1
        split at q1
        · rename_i hl
          cases rv with | tup h1 h2 =>
          exact ⟨_, M1, ds, ps, m1, rfl, o1, .tup h1 h2, e1, hl, q1.now o1 _ (Rp.int _)⟩
        · exact q1.elim
      · exact q1.elim
    · exact q1.elim
  · obtain ⟨l, M1, ds, ps, m1, rfl, o1, rv, e1, hl, q1⟩ := q1
    obtain rfl : v = Value.ref l := r1
    rw [← hK] at rv
    cases rv with | @tup _ vs _ h1 h2 =>
    obtain ⟨its, rv, pl, _⟩ := I1.tuple h1.sq
    obtain ⟨ks, k1, k2, k3⟩ := pairs_mem I1 h2 e1
    subst k1
    have kl : ks.length = ps.length := by have := congrArg List.length k2; rwa [List.length_map, List.length_map] at this
    refine call_mset ks (I1.ok.hd hc) pl (by simpa using vals_mem rv) k3 (by omega) (by omega) fun h' tk L es ep t S fr hk => ?_
    have len := from_len k2 S.nd fr
    refine PyProof.Rows.args_nil ?_
    obtain ⟨ob, ho, hex, hd⟩ := S.ob
    have I2 : Inv X pins σ H1 { s1 with heap := h', toks := tk } := I1.kept hk
    refine call_len_set ho hex hd S.fit (by rw [rows_size S.rows]; have := S.few; omega) ⟨.int ps.eraseDups.length, H1, I2.tok _, ⟨_, congrArg (fun n : Nat => Value.int (n : Int) _) ((rows_size S.rows).trans len)⟩, q1⟩
end
end Pd

set_option Elab.async false
set_option linter.all false
set_option maxRecDepth 100000
set_option maxHeartbeats 1000000
namespace Pd
open PySem PySem.Spec PyProof.Rows L2
theorem rpA_ints {K : PySem.W.Frag} {H : Hp} {M : Ad} : ∀ ns : List Int, RpA K H M (ns.map V.int) (ns.map PyData.int)
  | [] => .nil
  | n :: ns => .cons (.int n) (rpA_ints ns)
/-- the law's def at a script -/
theorem law_spD {C : Ct} {F : List W → Sto → R W} {H : Hp} {a : Addr} {ns : List Int} {m' : Sto} (ht : ∀ P ∈ C.T, H P = some (.tbl #[])) (hS : SqL C.K H a (ns.map V.int)) (e : F [.d (.list (ns.map PyData.int))] [] = .ok (.d (.bool true)) m') :
    spD C 1 F [.ref a] H (fun v _ => v = .bl true) fun _ _ _ => False := by
  refine ⟨rfl, ⟨[], []⟩, [], [.d (.list (ns.map PyData.int))], ⟨fun P hP => ⟨#[], ht P hP, trivial⟩, rfl, fun n a c h _ => (by simp at h), List.nodup_nil, fun a h => (by cases h)⟩, .cons (Rp.lst ?_ (rpA_ints ns)) .nil, ?_⟩
  · exact hS.imp (fun z => ⟨z, by exact ⟨fun h => (by cases h), fun h => (by cases h)⟩⟩) id
  · rw [e]
    exact fun M' H' g o v r => by cases r; rfl
end Pd

set_option Elab.async false
set_option linter.all false
set_option maxRecDepth 100000
set_option maxHeartbeats 1000000
namespace Pd
open PySem PySem.Spec PyProof.Rows L2
/-! ### reckoning with what the terms mean -/
/-- no changing list holds a changing list that is not there -/
def Fl (m : Sto) : Prop := m.all (Cell.low m.length) = true
theorem dEnd_rt {m : Sto} {x : PyData} (h : Fl m) : dEnd m.length (.rt (.d x) m) = .ok (.d x) m := by
  have h' : m.all (Cell.low m.length) = true := h
  simp only [dEnd, List.take_length, h', W.low, Bool.and_self, if_true]
theorem dEnd_nx {m : Sto} {e : Env} (h : Fl m) : dEnd m.length (.nx e m) = .ok (.d .none) m := by
  have h' : m.all (Cell.low m.length) = true := h
  simp only [dEnd, List.take_length, h', W.low, Bool.and_self, if_true]
theorem dEnd_exc {m : Sto} {e : Env} {x : Str} (h : Fl m) : dEnd m.length (.exc x e m) = .exc x m := by
  have h' : m.all (Cell.low m.length) = true := h
  simp only [dEnd, List.take_length, h', W.low, Bool.and_self, if_true]
theorem Fl.nil : Fl [] := rfl
section
variable {k0 : Bool} {tg : FG} {tt : FT} {f : FE} {e : Env} {m : Sto}
theorem loopQ_pure {p : W → Bool} : ∀ {ws : List W}, (∀ w ∈ ws, ∃ e1, tg w e = some e1 ∧ f e1 m = .ok (.d (.bool (p w))) m) → loopQ k0 tg f e ws m = .ok (if k0 then ws.all p else ws.any p) m
  | [], _ => by
    unfold loopQ
    cases k0 <;> rfl
  | w :: ws, h => by
    obtain ⟨e1, h1, h2⟩ := h w List.mem_cons_self
    unfold loopQ
    rw [h1]
    simp only [h2, noX, R.bind, toB]
    have ih := loopQ_pure (fun w hw => h w (List.mem_cons_of_mem _ hw))
    cases hp : p w <;> cases k0 <;> simp [hp] <;> exact ih
theorem loopC_pure {c : W → Bool} {g : W → PyData} : ∀ {ws : List W} {acc : List PyData}, (∀ w ∈ ws, ∃ e1, tg w e = some e1 ∧ tt e1 m = .ok (c w) m ∧ (c w = true → f e1 m = .ok (.d (g w)) m)) → acc.length + ws.length ≤ sizeLine →
    loopC tg tt f e ws acc m = .ok (acc ++ (ws.filter c).map g) m
  | [], acc, _, _ => by
    unfold loopC
    simp
  | w :: ws, acc, h, hl => by
    obtain ⟨e1, h1, h2, h3⟩ := h w List.mem_cons_self
    have hl' : acc.length + (ws.length + 1) ≤ sizeLine := hl
    unfold loopC
    rw [h1]
    simp only [h2, noX, R.bind]
    cases hc : c w with
    | true =>
      have ih := loopC_pure (acc := acc ++ [g w]) (fun w hw => h w (List.mem_cons_of_mem _ hw)) (by simp only [List.length_append, List.length_cons, List.length_nil]; omega)
      simp only [if_true, h3 hc, noX, unW]
      rw [if_pos (by omega), ih, List.filter_cons_of_pos hc, List.map_cons, List.append_assoc]
      rfl
    | false =>
      have ih := loopC_pure (acc := acc) (fun w hw => h w (List.mem_cons_of_mem _ hw)) (by omega)
      simp only [Bool.false_eq_true, if_false]
      rw [ih, List.filter_cons_of_neg (by rw [hc]; decide)]
theorem loopQ_map {α : Type} {g : α → W} {p : α → Bool} : ∀ {l : List α}, (∀ a ∈ l, ∃ e1, tg (g a) e = some e1 ∧ f e1 m = .ok (.d (.bool (p a))) m) → loopQ k0 tg f e (l.map g) m = .ok (if k0 then l.all p else l.any p) m
  | [], _ => by
    unfold loopQ
    cases k0 <;> rfl
  | w :: ws, h => by
    obtain ⟨e1, h1, h2⟩ := h w List.mem_cons_self
    rw [List.map_cons]
    unfold loopQ
    rw [h1]
    simp only [h2, noX, R.bind, toB]
    have ih := loopQ_map (l := ws) (fun w hw => h w (List.mem_cons_of_mem _ hw))
    cases hp : p w <;> cases k0 <;> simp [hp] <;> exact ih
theorem loopC_map {α : Type} {g0 : α → W} {c : α → Bool} {g : α → PyData} : ∀ {l : List α} {acc : List PyData}, (∀ a ∈ l, ∃ e1, tg (g0 a) e = some e1 ∧ tt e1 m = .ok (c a) m ∧ (c a = true → f e1 m = .ok (.d (g a)) m)) → acc.length + l.length ≤ sizeLine →
    loopC tg tt f e (l.map g0) acc m = .ok (acc ++ (l.filter c).map g) m
  | [], acc, _, _ => by
    rw [List.map_nil]
    unfold loopC
    simp
  | w :: ws, acc, h, hl => by
    obtain ⟨e1, h1, h2, h3⟩ := h w List.mem_cons_self
    have hl' : acc.length + (ws.length + 1) ≤ sizeLine := hl
    rw [List.map_cons]
    unfold loopC
    rw [h1]
    simp only [h2, noX, R.bind]
    cases hc : c w with
    | true =>
      have ih := loopC_map (l := ws) (acc := acc ++ [g w]) (fun w hw => h w (List.mem_cons_of_mem _ hw)) (by simp only [List.length_append, List.length_cons, List.length_nil]; omega)
      simp only [if_true, h3 hc, noX, unW]
      rw [if_pos (by omega), ih, List.filter_cons_of_pos hc, List.map_cons, List.append_assoc]
      rfl
    | false =>
      have ih := loopC_map (l := ws) (acc := acc) (fun w hw => h w (List.mem_cons_of_mem _ hw)) (by omega)
      simp only [Bool.false_eq_true, if_false]
      rw [ih, List.filter_cons_of_neg (by rw [hc]; decide)]
end
end Pd

set_option Elab.async false
set_option linter.all false
set_option maxRecDepth 100000
namespace Pd
open PySem PySem.Spec PyProof.Rows L2
/-! ### each word of the terms, at an environment and a store -/
theorem eVar_ap (i : Nat) (e : Env) (m : Sto) : Pd.eVar i e m = (match e[i]? with
  | some (some w) => .ok w m
  | _ => .bad) := rfl
theorem eC_ap (d : PyData) (e : Env) (m : Sto) : Pd.eC d e m = (.ok (.d d) m) := rfl
theorem eBin_ap (p : W → W → Sto → R W) (f g : FE) (e : Env) (m : Sto) : Pd.eBin p f g e m = ((f e m).bind fun x m1 => (g e m1).bind fun y m2 => p x y m2) := rfl
theorem eChain_ap (p p' : W → W → Sto → R W) (f g h : FE) (e : Env) (m : Sto) : Pd.eChain p p' f g h e m = ((f e m).bind fun x m1 => (g e m1).bind fun y m2 => (p x y m2).bind fun z m3 => match z with
  | .d (.bool true) => (h e m3).bind fun w m4 => p' y w m4
  | .d (.bool false) => .ok (.d (.bool false)) m3
  | _ => .bad) := rfl
theorem tV_ap (f : FE) (e : Env) (m : Sto) : Pd.tV f e m = ((f e m).bind toB) := rfl
theorem tNot_ap (t : FT) (e : Env) (m : Sto) : Pd.tNot t e m = ((t e m).bind fun k m1 => .ok (!k) m1) := rfl
theorem tAnd_ap (t u : FT) (e : Env) (m : Sto) : Pd.tAnd t u e m = ((t e m).bind fun k m1 => if k then u e m1 else .ok false m1) := rfl
theorem tOr_ap (t u : FT) (e : Env) (m : Sto) : Pd.tOr t u e m = ((t e m).bind fun k m1 => if k then .ok true m1 else u e m1) := rfl
theorem eAnd_ap (f g : FE) (e : Env) (m : Sto) : Pd.eAnd f g e m = ((f e m).bind fun w m1 => (toB w m1).bind fun k m2 => if k then g e m2 else .ok (.d (.bool false)) m2) := rfl
theorem eOr_ap (f g : FE) (e : Env) (m : Sto) : Pd.eOr f g e m = ((f e m).bind fun w m1 => (toB w m1).bind fun k m2 => if k then .ok (.d (.bool true)) m2 else g e m2) := rfl
theorem eNot_ap (f : FE) (e : Env) (m : Sto) : Pd.eNot f e m = ((f e m).bind fun w m1 => (toB w m1).bind fun k m2 => .ok (.d (.bool (!k))) m2) := rfl
theorem eIf_ap (t : FT) (f g : FE) (e : Env) (m : Sto) : Pd.eIf t f g e m = ((t e m).bind fun k m1 => if k then f e m1 else g e m1) := rfl
theorem aNil_ap (e : Env) (m : Sto) : Pd.aNil  e m = (.ok [] m) := rfl
theorem aCons_ap (f : FE) (r : FA) (e : Env) (m : Sto) : Pd.aCons f r e m = ((f e m).bind fun w m1 => (r e m1).bind fun ws m2 => .ok (w :: ws) m2) := rfl
theorem eTup_ap (r : FA) (e : Env) (m : Sto) : Pd.eTup r e m = ((r e m).bind fun ws m1 => match unWs ws with
  | some ds => if ds.length ≤ sizeLine then .ok (.d (.tuple ds)) m1 else .bad
  | none => .bad) := rfl
theorem eLst_ap (r : FA) (e : Env) (m : Sto) : Pd.eLst r e m = ((r e m).bind fun ws m1 => match unWs ws with
  | some ds => if ds.length ≤ sizeLine then .ok (.d (.list ds)) m1 else .bad
  | none => .bad) := rfl
theorem eLstM_ap (r : FA) (e : Env) (m : Sto) : Pd.eLstM r e m = ((r e m).bind fun ws m1 => if ws.length ≤ sizeLine then .ok (.loc m1.length) (m1 ++ [.lst ws]) else .bad) := rfl
theorem eRep_ap (r : FA) (g : FE) (e : Env) (m : Sto) : Pd.eRep r g e m = ((eLst r e m).bind fun w m1 => (g e m1).bind fun z m2 => match w, z with
  | .d (.list xs), .d (.int k) => if -(2 ^ 63) ≤ k ∧ k < 2 ^ 63 ∧ xs.length * k.toNat ≤ sizeLine then .ok (.d (.list (List.replicate k.toNat xs).flatten)) m2 else .bad
  | _, _ => .bad) := rfl
theorem eCall_ap (n : Nat) (F : List W → Sto → R W) (r : FA) (e : Env) (m : Sto) : Pd.eCall n F r e m = ((r e m).bind fun ws m1 => if ws.length = n then F ws m1 else .bad) := rfl
theorem eB_ap (q : List W → Sto → R W) (r : FA) (e : Env) (m : Sto) : Pd.eB q r e m = ((r e m).bind q) := rfl
theorem eIsi_ap (Ts : List String) (f : FE) (e : Env) (m : Sto) : Pd.eIsi Ts f e m = ((f e m).bind fun w m1 => if locOk m1 w = true then .ok (.d (.bool (Ts.any fun T => isTW T w))) m1 else .bad) := rfl
theorem eMl_ap (q : W → List W → Sto → R W) (f : FE) (r : FA) (e : Env) (m : Sto) : Pd.eMl q f r e m = ((f e m).bind fun w m1 => match w with
  | .loc n => match m1[n]? with
    | some (.lst _) => (r e m1).bind fun ws m2 => q (.loc n) ws m2
    | none => .bad
  | _ => .bad) := rfl
theorem eMs_ap (q : W → List W → Sto → R W) (f g : FE) (e : Env) (m : Sto) : Pd.eMs q f g e m = ((f e m).bind fun w m1 => match w with
  | .d (.str z) => (g e m1).bind fun z2 m2 => q (.d (.str z)) [z2] m2
  | _ => .bad) := rfl
theorem oNone_ap (e : Env) (m : Sto) : Pd.oNone  e m = (.ok none m) := rfl
theorem oSome_ap (f : FE) (e : Env) (m : Sto) : Pd.oSome f e m = ((f e m).bind fun w m1 => match w with
  | .d (.int i) => .ok (some i) m1
  | _ => .bad) := rfl
theorem eSl_ap (f : FE) (lo hi : FO) (e : Env) (m : Sto) : Pd.eSl f lo hi e m = ((f e m).bind fun w m1 => (lo e m1).bind fun i m2 => (hi e m2).bind fun j m3 => match w with
  | .d (.list ds) => .ok (.d (.list (cutD ds i j))) m3
  | .d (.tuple ds) => if ¬ (HT.sIx ds.length 0 i = 0 ∧ HT.sIx ds.length ds.length j = ds.length) then .ok (.d (.tuple (cutD ds i j))) m3 else .bad
  | .d (.str s) => if s.length ≤ sizeLine then .ok (.d (.str (cutS s i j))) m3 else .bad
  | _ => .bad) := rfl
theorem sNil_ap (e : Env) (m : Sto) : Pd.sNil  e m = (.nx e m) := rfl
theorem sSeq_ap (s1 s2 : FS) (e : Env) (m : Sto) : Pd.sSeq s1 s2 e m = (match s1 e m with
  | .nx e1 m1 => s2 e1 m1
  | z => z) := rfl
theorem sRet_ap (f : FE) (e : Env) (m : Sto) : Pd.sRet f e m = (ofR e (f e m) fun w m1 => .rt w m1) := rfl
theorem sExpr_ap (f : FE) (e : Env) (m : Sto) : Pd.sExpr f e m = (ofR e (f e m) fun _ m1 => .nx e m1) := rfl
theorem sIf_ap (t : FT) (s1 s2 : FS) (e : Env) (m : Sto) : Pd.sIf t s1 s2 e m = (ofR e (t e m) fun k m1 => if k then s1 e m1 else s2 e m1) := rfl
theorem sSet_ap (i : Nat) (f : FE) (e : Env) (m : Sto) : Pd.sSet i f e m = (ofR e (f e m) fun w m1 => .nx (e.set i (some w)) m1) := rfl
theorem sAsg_ap (f : FE) (t : FG) (e : Env) (m : Sto) : Pd.sAsg f t e m = (ofR e (f e m) fun w m1 => match t w e with
  | some e' => .nx e' m1
  | none => .bad) := rfl
theorem sPar_ap (i j : Nat) (r : FA) (e : Env) (m : Sto) : Pd.sPar i j r e m = (ofR e (r e m) fun ws m1 => match ws with
  | [w, z] => .nx ((e.set i (some w)).set j (some z)) m1
  | _ => .bad) := rfl
theorem sPut_ap (fo fi fv : FE) (e : Env) (m : Sto) : Pd.sPut fo fi fv e m = (ofR e (fv e m) fun v m1 => ofR e (fo e m1) fun w m2 => ofR e (fi e m2) fun i m3 => match w, i with
  | .loc n, .d (.int k) => match m3[n]? with
    | some (.lst ws) => match ixN ws.length k with
      | some j => .nx e (stSet m3 n (ws.set j v))
      | none => .bad
    | _ => .bad
  | _, _ => .bad) := rfl
theorem sAug_ap (i : Nat) (p : W → W → Sto → R W) (f : FE) (e : Env) (m : Sto) : Pd.sAug i p f e m = (match e[i]? with
  | some (some w0) => ofR e (f e m) fun w m1 => ofR e (p w0 w m1) fun z m2 => .nx (e.set i (some z)) m2
  | _ => .bad) := rfl
theorem iSeq_ap (f : FE) (e : Env) (m : Sto) : Pd.iSeq f e m = ((f e m).bind fun w m1 => match w with
  | .d (.list ds) => .ok (ds.map W.d) m1
  | .d (.tuple ds) => .ok (ds.map W.d) m1
  | .d (.str s) => .ok ((signs s).map W.d) m1
  | _ => .bad) := rfl
theorem iRg1_ap (r : FA) (e : Env) (m : Sto) : Pd.iRg1 r e m = ((r e m).bind fun ws m1 => match ws with
  | [.d (.int j)] => if -(2 ^ 62) ≤ j ∧ j < 2 ^ 62 then .ok (rng 0 j.toNat) m1 else .bad
  | _ => .bad) := rfl
theorem iRg2_ap (r : FA) (e : Env) (m : Sto) : Pd.iRg2 r e m = ((r e m).bind fun ws m1 => match ws with
  | [.d (.int i), .d (.int j)] => if -(2 ^ 62) ≤ i ∧ i < 2 ^ 62 ∧ -(2 ^ 62) ≤ j ∧ j < 2 ^ 62 then .ok (rng i (j - i).toNat) m1 else .bad
  | _ => .bad) := rfl
theorem sFor_ap (it : FI) (tg : FG) (body : FS) (e : Env) (m : Sto) : Pd.sFor it tg body e m = (ofR e (it e m) fun items m1 => loopF tg body items e m1) := rfl
theorem eLc_ap (vs : List Nat) (it : FI) (tg : FG) (tt : FT) (f : FE) (e : Env) (m : Sto) : Pd.eLc vs it tg tt f e m = ((it e m).bind fun items m1 => (loopC tg tt f (wipeE e vs) items [] m1).bind fun ds m2 => .ok (.d (.list ds)) m2) := rfl
theorem fYes_ap (e : Env) (m : Sto) : Pd.fYes  e m = (.ok true m) := rfl
theorem eQ_ap (k0 : Bool) (vs : List Nat) (it : FI) (tg : FG) (f : FE) (e : Env) (m : Sto) : Pd.eQ k0 vs it tg f e m = ((it e m).bind fun items m1 => (loopQ k0 tg f (wipeE e vs) items m1).bind fun b m2 => .ok (.d (.bool b)) m2) := rfl
theorem iZ2_ap (r : FA) (e : Env) (m : Sto) : Pd.iZ2 r e m = ((r e m).bind fun ws m1 => match ws with
  | [a, b] => match seqW a, seqW b with
    | some ds, some es => .ok (zip2 ds es) m1
    | _, _ => .bad
  | _ => .bad) := rfl
theorem iZ3_ap (r : FA) (e : Env) (m : Sto) : Pd.iZ3 r e m = ((r e m).bind fun ws m1 => match ws with
  | [a, b, c] => match seqW a, seqW b, seqW c with
    | some ds, some es, some fs => .ok (zip3 ds es fs) m1
    | _, _, _ => .bad
  | _ => .bad) := rfl
theorem sRaise_ap (x : Str) (e : Env) (m : Sto) : Pd.sRaise x e m = (.exc x e m) := rfl
theorem sTry_ap (x : Str) (no : List Str) (b h : FS) (e : Env) (m : Sto) : Pd.sTry x no b h e m = (match b e m with
  | .exc y e1 m1 => if y = x then noXS (h e1 m1) else if y ∈ no then .exc y e1 m1 else .bad
  | z => z) := rfl
theorem eNeg_ap (f : FE) (e : Env) (m : Sto) : Pd.eNeg f e m = ((f e m).bind fun w m1 => match w with
  | .d (.int i) => .ok (.d (.int (-i))) m1
  | _ => .bad) := rfl
theorem eLenSet_ap (f : FE) (e : Env) (m : Sto) : Pd.eLenSet f e m = ((f e m).bind fun w m1 => match w with
  | .d (.tuple ds) => match pairsS ds with
    | some ps => if ps.length < 64 then .ok (.d (.int ps.eraseDups.length)) m1 else .bad
    | none => .bad
  | _ => .bad) := rfl
theorem runD_ap (N : Nat) (fs : FS) (ws : List W) (m : Sto) : runD N fs ws m = dEnd m.length (fs (startE N ws) m) := rfl
section
variable (i j : Int) (x y : Str) (m : Sto)
theorem pLt_i : pLt (.d (.int i)) (.d (.int j)) m = .ok (.d (.bool (decide (i < j)))) m := rfl
theorem pLe_i : pLe (.d (.int i)) (.d (.int j)) m = .ok (.d (.bool (decide (i ≤ j)))) m := rfl
theorem pGt_i : pGt (.d (.int i)) (.d (.int j)) m = .ok (.d (.bool (decide (j < i)))) m := rfl
theorem pGe_i : pGe (.d (.int i)) (.d (.int j)) m = .ok (.d (.bool (decide (j ≤ i)))) m := rfl
theorem pLt_s : pLt (.d (.str x)) (.d (.str y)) m = .ok (.d (.bool (sLt x y))) m := rfl
theorem pLe_s : pLe (.d (.str x)) (.d (.str y)) m = .ok (.d (.bool (!sLt y x))) m := rfl
theorem pGt_s : pGt (.d (.str x)) (.d (.str y)) m = .ok (.d (.bool (sLt y x))) m := rfl
theorem pGe_s : pGe (.d (.str x)) (.d (.str y)) m = .ok (.d (.bool (!sLt x y))) m := rfl
theorem pSub_i : pSub (.d (.int i)) (.d (.int j)) m = .ok (.d (.int (i - j))) m := rfl
theorem pMul_i (h : (-(2 ^ 64) < i ∧ i < 2 ^ 64) ∨ (-(2 ^ 64) < j ∧ j < 2 ^ 64)) : pMul (.d (.int i)) (.d (.int j)) m = .ok (.d (.int (i * j))) m := by
  unfold pMul oI
  simp only [if_pos h]
theorem pDiv_i (h : 0 < j ∧ j < 1073741824) : pDiv (.d (.int i)) (.d (.int j)) m = .ok (.d (.int (i / j))) m := by
  unfold pDiv oI
  simp only [if_pos h]
theorem pMod_i (h : 0 < j) : pMod (.d (.int i)) (.d (.int j)) m = .ok (.d (.int (i % j))) m := by
  unfold pMod oI
  simp only [if_pos h]
theorem pPow_i (h : 0 ≤ j ∧ j ≤ 1000000 ∧ i.natAbs < 2 ^ 64) : pPow (.d (.int i)) (.d (.int j)) m = .ok (.d (.int (i ^ j.toNat))) m := by
  unfold pPow oI
  simp only [if_pos h]
end
section
variable (x y : PyData) (ds es : List PyData) (s t : Str) (i j : Int) (n : Nat) (k b c : Bool) (m : Sto) (w : W)
theorem pEq_d : pEq (.d x) (.d y) m = if SeqAt.shaped x = true ∧ SeqAt.shaped y = true then .ok (.d (.bool (PyData.eqv x y))) m else .bad := rfl
theorem pNe_d : pNe (.d x) (.d y) m = if SeqAt.shaped x = true ∧ SeqAt.shaped y = true then .ok (.d (.bool (!PyData.eqv x y))) m else .bad := rfl
theorem pIx_l : pIx (.d (.list ds)) (.d (.int i)) m = match L2.atI ds i with | some d => .ok (.d d) m | none => .bad := rfl
theorem pIx_t : pIx (.d (.tuple ds)) (.d (.int i)) m = match L2.atI ds i with | some d => .ok (.d d) m | none => .bad := rfl
theorem pIx_s : pIx (.d (.str s)) (.d (.int i)) m = if s.length ≤ sizeLine then match L2.atI s.cps.toList i with | some c => .ok (.d (.str ⟨#[c]⟩)) m | none => .bad else .bad := rfl
theorem pIx_loc {ws : List W} (h : m[n]? = some (.lst ws)) : pIx (.loc n) (.d (.int i)) m = match L2.atI ws i with | some w => .ok w m | none => .bad := by
  unfold pIx
  simp only [h] <;> rfl
theorem pIn_s : pIn k (.d (.str s)) (.d (.str t)) m = .ok (.d (.bool ((!(Builtin.Str.occurrences t s 0 t.length 1).isEmpty) == k))) m := rfl
theorem pIn_l : pIn k (.d x) (.d (.list ds)) m = if SeqAt.shaped x = true ∧ SeqAt.shaped (.list ds) = true then .ok (.d (.bool ((ds.any fun z => PyData.eqv z x) == k))) m else .bad := by
  cases x <;> rfl
theorem pIn_t : pIn k (.d x) (.d (.tuple ds)) m = if SeqAt.shaped x = true ∧ SeqAt.shaped (.list ds) = true then .ok (.d (.bool ((ds.any fun z => PyData.eqv z x) == k))) m else .bad := by
  cases x <;> rfl
theorem pIn_loc {ws : List W} (h : m[n]? = some (.lst ws)) (h2 : unWs ws = some ds) : pIn k (.d x) (.loc n) m = if SeqAt.shaped x = true ∧ SeqAt.shaped (.list ds) = true then .ok (.d (.bool ((ds.any fun z => PyData.eqv z x) == k))) m else .bad := by
  cases x <;> (unfold pIn; simp only [h, h2])
theorem seqW_l : seqW (.d (.list ds)) = some ds := rfl
theorem seqW_t : seqW (.d (.tuple ds)) = some ds := rfl
theorem qLen_s : qLen [.d (.str s)] m = if s.length ≤ sizeLine then .ok (.d (.int s.length)) m else .bad := rfl
theorem qLen_l : qLen [.d (.list ds)] m = .ok (.d (.int ds.length)) m := rfl
theorem qLen_t : qLen [.d (.tuple ds)] m = .ok (.d (.int ds.length)) m := rfl
theorem qLen_loc {ws : List W} (h : m[n]? = some (.lst ws)) : qLen [.loc n] m = .ok (.d (.int ws.length)) m := by
  unfold qLen
  simp only [h]
theorem qInt_i : qInt [.d (.int i)] m = .ok (.d (.int i)) m := rfl
theorem qInt_b : qInt [.d (.bool b)] m = .ok (.d (.int (if b then 1 else 0))) m := rfl
theorem qTup_l : qTup [.d (.list ds)] m = .ok (.d (.tuple ds)) m := rfl
theorem qTup_t : qTup [.d (.tuple ds)] m = .ok (.d (.tuple ds)) m := rfl
theorem qTup_loc {ws : List W} (h : m[n]? = some (.lst ws)) (h2 : unWs ws = some ds) : qTup [.loc n] m = .ok (.d (.tuple ds)) m := by
  unfold qTup
  simp only [h, h2]
theorem qList_l : qList [.d (.list ds)] m = .ok (.d (.list ds)) m := rfl
theorem qList_t : qList [.d (.tuple ds)] m = .ok (.d (.list ds)) m := rfl
theorem qList_s (h : s.cps.size ≤ sizeLine) : qList [.d (.str s)] m = .ok (.d (.list (signs s))) m := by
  unfold qList
  simp only [h, if_true]
theorem pPlus_i : pPlus (.d (.int i)) (.d (.int j)) m = .ok (.d (.int (i + j))) m := rfl
theorem pPlus_l : pPlus (.d (.list ds)) (.d (.list es)) m = pCatL (.d (.list ds)) (.d (.list es)) m := rfl
theorem pPlus_t : pPlus (.d (.tuple ds)) (.d (.tuple es)) m = pCatT (.d (.tuple ds)) (.d (.tuple es)) m := rfl
theorem pPlus_s : pPlus (.d (.str s)) (.d (.str t)) m = pCatS (.d (.str s)) (.d (.str t)) m := rfl
theorem pIs_n : pIs k (.d .none) (.d .none) m = .ok (.d (.bool k)) m := rfl
theorem pIs_t : pIs k (.d (.tuple ds)) (.d .none) m = .ok (.d (.bool (!k))) m := rfl
theorem pIs_l : pIs k (.d (.list ds)) (.d .none) m = .ok (.d (.bool (!k))) m := rfl
theorem pIs_s : pIs k (.d (.str s)) (.d .none) m = .ok (.d (.bool (!k))) m := rfl
theorem pIs_i : pIs k (.d (.int i)) (.d .none) m = .ok (.d (.bool (!k))) m := rfl
theorem pIs_bn : pIs k (.d (.bool b)) (.d .none) m = .ok (.d (.bool (!k))) m := rfl
theorem pIs_b : pIs k (.d (.bool b)) (.d (.bool c)) m = .ok (.d (.bool (decide (b = c) == k))) m := rfl
theorem toB_b : toB (.d (.bool b)) m = .ok b m := rfl
end
theorem atI_nat {α : Type} (xs : List α) (i : Nat) : L2.atI xs (i : Int) = xs[i]? := by
  unfold L2.atI L2.ixN
  by_cases h : i < xs.length
  · simp [h]
  · simp [h, List.getElem?_eq_none (Nat.le_of_not_lt h)]
theorem atI_nat1 {α : Type} (xs : List α) (i : Nat) : L2.atI xs ((i : Int) + 1) = xs[i + 1]? := atI_nat xs (i + 1)
section
variable {k0 : Bool} {vs : List Nat} {it : FI} {tg : FG} {tt : FT} {f : FE} {e : Env} {m m1 : Sto} {items : List W}
theorem eQ_pure {p : W → Bool} (hi : it e m = .ok items m1) (h : ∀ w ∈ items, ∃ e1, tg w (wipeE e vs) = some e1 ∧ f e1 m1 = .ok (.d (.bool (p w))) m1) : eQ k0 vs it tg f e m = .ok (.d (.bool (if k0 then items.all p else items.any p))) m1 := by
  rw [eQ_ap, hi]
  simp only [R.bind]
  rw [loopQ_pure h]
theorem eLc_pure {c : W → Bool} {g : W → PyData} (hi : it e m = .ok items m1) (h : ∀ w ∈ items, ∃ e1, tg w (wipeE e vs) = some e1 ∧ tt e1 m1 = .ok (c w) m1 ∧ (c w = true → f e1 m1 = .ok (.d (g w)) m1)) (hl : items.length ≤ sizeLine) :
    eLc vs it tg tt f e m = .ok (.d (.list ((items.filter c).map g))) m1 := by
  rw [eLc_ap, hi]
  simp only [R.bind]
  rw [loopC_pure h (by simpa using hl)]
  rfl
theorem eQ_map {α : Type} {g : α → W} {l : List α} {p : α → Bool} (hi : it e m = .ok (l.map g) m1) (h : ∀ a ∈ l, ∃ e1, tg (g a) (wipeE e vs) = some e1 ∧ f e1 m1 = .ok (.d (.bool (p a))) m1) : eQ k0 vs it tg f e m = .ok (.d (.bool (if k0 then l.all p else l.any p))) m1 := by
  rw [eQ_ap, hi]
  simp only [R.bind]
  rw [loopQ_map h]
theorem eLc_map {α : Type} {g0 : α → W} {l : List α} {c : α → Bool} {g : α → PyData} (hi : it e m = .ok (l.map g0) m1) (h : ∀ a ∈ l, ∃ e1, tg (g0 a) (wipeE e vs) = some e1 ∧ tt e1 m1 = .ok (c a) m1 ∧ (c a = true → f e1 m1 = .ok (.d (g a)) m1)) (hl : l.length ≤ sizeLine) :
    eLc vs it tg tt f e m = .ok (.d (.list ((l.filter c).map g))) m1 := by
  rw [eLc_ap, hi]
  simp only [R.bind]
  rw [loopC_map h (by simpa using hl)]
  rfl
theorem signs_items (s : Str) : (signs s).map W.d = s.cps.toList.map fun c => W.d (.str ⟨#[c]⟩) := by
  unfold signs
  rw [List.map_map]
  rfl
end
end Pd

set_option Elab.async false
set_option linter.all false
set_option maxRecDepth 100000
set_option maxHeartbeats 4000000
namespace K00
open PySem PySem.Spec PyProof.Rows L2 Pd
/-! ### the text -/
def topS (i : Nat) : Stmt := PySem.Challenge.pw_meetfolk_k00_whole_meetings.main.body.getD i (.Pass ⟨0, 0, 0, 0⟩)
abbrev s_is_pair : Stmt := topS 12
abbrev s_are_moods : Stmt := topS 13
abbrev s_are_two : Stmt := topS 14
abbrev s_is_rule : Stmt := topS 15
abbrev s_are_rules : Stmt := topS 16
abbrev s_is_folk : Stmt := topS 17
abbrev s_demand_folk : Stmt := topS 19
abbrev s_is_integer : Stmt := topS 11
abbrev s_is_crowd : Stmt := topS 18
abbrev s_demand_crowd : Stmt := topS 20
abbrev s_numbers_of : Stmt := topS 22
abbrev s_can_be_used : Stmt := topS 23
abbrev s_meetings : Stmt := topS 26
abbrev s_demand_room : Stmt := topS 21
abbrev s_behind_rule : Stmt := topS 24
abbrev s_met : Stmt := topS 27
abbrev s_is_at_rest : Stmt := topS 28
abbrev s_behind_row : Stmt := topS 25
abbrev s_met_all : Stmt := topS 29
abbrev s__law_taken : Stmt := topS 31
abbrev s__law_pick : Stmt := topS 32
abbrev s__law_alike : Stmt := topS 33
abbrev s__law_two : Stmt := topS 34
abbrev s__law_moods : Stmt := topS 35
abbrev s__law_weight : Stmt := topS 37
abbrev s__law_folk : Stmt := topS 36
abbrev s__law_counts : Stmt := topS 38
abbrev s__law_usable : Stmt := topS 39
abbrev s__law_behind : Stmt := topS 40
abbrev s__law_led : Stmt := topS 41
abbrev s__law_crowd : Stmt := topS 42
abbrev s_law : Stmt := topS 43
/-! ### what each def does -/
def fs_is_pair : FS := (sRet (eAnd (eIsi ["tuple"] (eVar 0)) (eBin pEq (eB qLen (aCons (eVar 0) aNil)) (eC (.int 2)))))
def F_is_pair : List W → Sto → R W := runD 1 fs_is_pair
def fs_are_moods : FS := (sSeq (sIf (Pd.tOr (Pd.tNot (tV (eIsi ["str"] (eVar 0)))) (Pd.tNot (tV (eChain pLe pLe (eC (.int 1)) (eB qLen (aCons (eVar 0) aNil)) (eC (.int (6))))))) (sRet (eC (.bool false))) sNil) (sSeq (sIf (Pd.tNot (tV (eQ true [2] (iSeq (eVar 0)) (gN 2) (eChain pLe pLe (eC (.str "a")) (eVar 2) (eC (.str "z")))))) (sRet (eC (.bool false))) sNil) (sRet (eQ true [1] (iRg1 (aCons (eBin pSub (eB qLen (aCons (eVar 0) aNil)) (eC (.int 1))) aNil)) (gN 1) (eBin pLt (eBin pIx (eVar 0) (eVar 1)) (eBin pIx (eVar 0) (eBin pPlus (eVar 1) (eC (.int 1)))))))))
def F_are_moods : List W → Sto → R W := runD 3 fs_are_moods
def fs_are_two : FS := (sSeq (sIf (Pd.tOr (Pd.tNot (tV (eIsi ["str"] (eVar 1)))) (tV (eBin pNe (eB qLen (aCons (eVar 1) aNil)) (eC (.int 2))))) (sRet (eC (.bool false))) sNil) (sRet (eAnd (eBin (pIn true) (eBin pIx (eVar 1) (eC (.int 0))) (eVar 0)) (eAnd (eBin (pIn true) (eBin pIx (eVar 1) (eC (.int 1))) (eVar 0)) (eBin pLe (eBin pIx (eVar 1) (eC (.int 0))) (eBin pIx (eVar 1) (eC (.int 1))))))))
def F_are_two : List W → Sto → R W := runD 2 fs_are_two
def fs_is_rule : FS := (sSeq (sIf (Pd.tNot (tV (eCall 1 F_is_pair (aCons (eVar 1) aNil)))) (sRet (eC (.bool false))) sNil) (sRet (eAnd (eCall 2 F_are_two (aCons (eVar 0) (aCons (eBin pIx (eVar 1) (eC (.int 0))) aNil))) (eAnd (eCall 2 F_are_two (aCons (eVar 0) (aCons (eBin pIx (eVar 1) (eC (.int 1))) aNil))) (eBin pNe (eBin pIx (eVar 1) (eC (.int 0))) (eBin pIx (eVar 1) (eC (.int 1))))))))
def F_is_rule : List W → Sto → R W := runD 2 fs_is_rule
def fs_are_rules : FS := (sSeq (sIf (Pd.tOr (Pd.tNot (tV (eIsi ["tuple"] (eVar 1)))) (tV (eBin pGt (eB qLen (aCons (eVar 1) aNil)) (eC (.int (12)))))) (sRet (eC (.bool false))) sNil) (sRet (eAnd (eQ true [2] (iSeq (eVar 1)) (gN 2) (eCall 2 F_is_rule (aCons (eVar 0) (aCons (eVar 2) aNil)))) (eBin pEq (eLenSet (eVar 1)) (eB qLen (aCons (eVar 1) aNil))))))
def F_are_rules : List W → Sto → R W := runD 3 fs_are_rules
def fs_is_folk : FS := (sRet (eAnd (eCall 1 F_is_pair (aCons (eVar 0) aNil)) (eAnd (eCall 1 F_are_moods (aCons (eBin pIx (eVar 0) (eC (.int 0))) aNil)) (eCall 2 F_are_rules (aCons (eBin pIx (eVar 0) (eC (.int 0))) (aCons (eBin pIx (eVar 0) (eC (.int 1))) aNil))))))
def F_is_folk : List W → Sto → R W := runD 1 fs_is_folk
def fs_demand_folk : FS := (sIf (Pd.tNot (tV (eCall 1 F_is_folk (aCons (eVar 0) aNil)))) (sRaise "BadFolk") sNil)
def F_demand_folk : List W → Sto → R W := runD 1 fs_demand_folk
def fs_is_integer : FS := (sRet (eAnd (eIsi ["int"] (eVar 0)) (eNot (eIsi ["bool"] (eVar 0)))))
def F_is_integer : List W → Sto → R W := runD 1 fs_is_integer
def fs_is_crowd : FS := (sSeq (sIf (Pd.tOr (Pd.tNot (tV (eIsi ["tuple"] (eVar 1)))) (tV (eBin pNe (eB qLen (aCons (eVar 1) aNil)) (eB qLen (aCons (eBin pIx (eVar 0) (eC (.int 0))) aNil))))) (sRet (eC (.bool false))) sNil) (sRet (eQ true [2] (iSeq (eVar 1)) (gN 2) (eAnd (eCall 1 F_is_integer (aCons (eVar 2) aNil)) (eChain pLe pLe (eC (.int 0)) (eVar 2) (eC (.int (10000000000000000000000000000000000000000))))))))
def F_is_crowd : List W → Sto → R W := runD 3 fs_is_crowd
def fs_demand_crowd : FS := (sIf (Pd.tNot (tV (eCall 2 F_is_crowd (aCons (eVar 0) (aCons (eVar 1) aNil))))) (sRaise "BadCrowd") sNil)
def F_demand_crowd : List W → Sto → R W := runD 2 fs_demand_crowd
def fs_numbers_of : FS := (sRet (eB qTup (aCons (eLc [2] (iSeq (eVar 0)) (gN 2) fYes (eMs qCount (eVar 1) (eVar 2))) aNil)))
def F_numbers_of : List W → Sto → R W := runD 3 fs_numbers_of
def fs_can_be_used : FS := (sSeq (sIf (tV (eBin (pIn false) (eVar 2) (eBin pIx (eVar 0) (eC (.int 1))))) (sRet (eC (.bool false))) sNil) (sSeq (sSet 3 (eCall 2 F_numbers_of (aCons (eBin pIx (eVar 0) (eC (.int 0))) (aCons (eBin pIx (eVar 2) (eC (.int 0))) aNil)))) (sRet (eQ true [4, 5] (iZ2 (aCons (eVar 1) (aCons (eVar 3) aNil))) (gT 2 (gsCons (gN 4) (gsCons (gN 5) gsNil))) (eBin pGe (eVar 4) (eVar 5))))))
def F_can_be_used : List W → Sto → R W := runD 6 fs_can_be_used
def fs_meetings : FS := (sSeq (sExpr (eCall 1 F_demand_folk (aCons (eVar 0) aNil))) (sSeq (sExpr (eCall 2 F_demand_crowd (aCons (eVar 0) (aCons (eVar 1) aNil)))) (sRet (eB qTup (aCons (eLc [2] (iSeq (eBin pIx (eVar 0) (eC (.int 1)))) (gN 2) (tV (eCall 3 F_can_be_used (aCons (eVar 0) (aCons (eVar 1) (aCons (eVar 2) aNil))))) (eVar 2)) aNil)))))
def F_meetings : List W → Sto → R W := runD 3 fs_meetings
def fs_demand_room : FS := (sIf (tV (eQ false [1] (iSeq (eVar 0)) (gN 1) (eBin pGt (eVar 1) (eC (.int (10000000000000000000000000000000000000000)))))) (sRaise "TooGreat") sNil)
def F_demand_room : List W → Sto → R W := runD 2 fs_demand_room
def fs_behind_rule : FS := (sSeq (sSet 3 (eCall 2 F_numbers_of (aCons (eBin pIx (eVar 0) (eC (.int 0))) (aCons (eBin pIx (eVar 2) (eC (.int 0))) aNil)))) (sSeq (sSet 4 (eCall 2 F_numbers_of (aCons (eBin pIx (eVar 0) (eC (.int 0))) (aCons (eBin pIx (eVar 2) (eC (.int 1))) aNil)))) (sRet (eB qTup (aCons (eLc [5, 6, 7] (iZ3 (aCons (eVar 1) (aCons (eVar 3) (aCons (eVar 4) aNil)))) (gT 3 (gsCons (gN 5) (gsCons (gN 6) (gsCons (gN 7) gsNil)))) fYes (eBin pPlus (eBin pSub (eVar 5) (eVar 6)) (eVar 7))) aNil)))))
def F_behind_rule : List W → Sto → R W := runD 8 fs_behind_rule
def fs_met : FS := (sSeq (sExpr (eCall 1 F_demand_folk (aCons (eVar 0) aNil))) (sSeq (sExpr (eCall 2 F_demand_crowd (aCons (eVar 0) (aCons (eVar 1) aNil)))) (sSeq (sIf (Pd.tNot (tV (eCall 3 F_can_be_used (aCons (eVar 0) (aCons (eVar 1) (aCons (eVar 2) aNil)))))) (sRaise "BadRule") sNil) (sSeq (sSet 3 (eCall 3 F_behind_rule (aCons (eVar 0) (aCons (eVar 1) (aCons (eVar 2) aNil))))) (sSeq (sExpr (eCall 1 F_demand_room (aCons (eVar 3) aNil))) (sRet (eVar 3)))))))
def F_met : List W → Sto → R W := runD 4 fs_met
def fs_is_at_rest : FS := (sRet (eBin pEq (eB qLen (aCons (eCall 2 F_meetings (aCons (eVar 0) (aCons (eVar 1) aNil))) aNil)) (eC (.int 0))))
def F_is_at_rest : List W → Sto → R W := runD 2 fs_is_at_rest
def fs_behind_row : FS := (sSeq (sIf (Pd.tNot (tV (eIsi ["tuple"] (eVar 2)))) (sRet (eC .none)) sNil) (sSeq (sFor (iSeq (eVar 2)) (gN 3) (sSeq (sIf (Pd.tNot (tV (eCall 3 F_can_be_used (aCons (eVar 0) (aCons (eVar 1) (aCons (eVar 3) aNil)))))) (sRet (eC .none)) sNil) (sSet 1 (eCall 3 F_behind_rule (aCons (eVar 0) (aCons (eVar 1) (aCons (eVar 3) aNil))))))) (sRet (eVar 1))))
def F_behind_row : List W → Sto → R W := runD 4 fs_behind_row
def fs_met_all : FS := (sSeq (sExpr (eCall 1 F_demand_folk (aCons (eVar 0) aNil))) (sSeq (sExpr (eCall 2 F_demand_crowd (aCons (eVar 0) (aCons (eVar 1) aNil)))) (sSeq (sSet 3 (eCall 3 F_behind_row (aCons (eVar 0) (aCons (eVar 1) (aCons (eVar 2) aNil))))) (sSeq (sIf (tV (eBin (pIs true) (eVar 3) (eC .none))) (sRaise "BadRow") sNil) (sSeq (sExpr (eCall 1 F_demand_room (aCons (eVar 3) aNil))) (sRet (eVar 3)))))))
def F_met_all : List W → Sto → R W := runD 4 fs_met_all
def fs__law_taken : FS := (sSeq (sIf (tV (eBin pGt (eBin pIx (eVar 0) (eC (.int 3))) (eC (.int 0)))) (sSeq (sSet 3 (eBin pMod (eB qInt (aCons (eBin pIx (eVar 0) (eC (.int 3))) aNil)) (eVar 1))) (sSeq (sPut (eVar 0) (eC (.int 3)) (eBin pDiv (eBin pIx (eVar 0) (eC (.int 3))) (eVar 1))) (sRet (eVar 3)))) sNil) (sSeq (sPut (eVar 0) (eC (.int 1)) (eBin pPlus (eBin pIx (eVar 0) (eC (.int 1))) (eC (.int 1)))) (sSeq (sIf (tV (eBin pGt (eBin pIx (eVar 0) (eC (.int 1))) (eB qLen (aCons (eBin pIx (eVar 0) (eC (.int 0))) aNil)))) (sSeq (sPut (eVar 0) (eC (.int 2)) (eBin pMod (eB qInt (aCons (eBin pPlus (eBin pMul (eBin pIx (eVar 0) (eC (.int 2))) (eC (.int 48271))) (eC (.int 11))) aNil)) (eC (.int 2147483647)))) (sRet (eBin pMod (eB qInt (aCons (eBin pDiv (eBin pIx (eVar 0) (eC (.int 2))) (eC (.int 7))) aNil)) (eVar 1)))) sNil) (sSeq (sSet 2 (eBin pIx (eBin pIx (eVar 0) (eC (.int 0))) (eBin pSub (eBin pIx (eVar 0) (eC (.int 1))) (eC (.int 1))))) (sSeq (sPut (eVar 0) (eC (.int 2)) (eBin pMod (eB qInt (aCons (eBin pPlus (eBin pPlus (eBin pMul (eBin pIx (eVar 0) (eC (.int 2))) (eC (.int 48271))) (eVar 2)) (eC (.int 11))) aNil)) (eC (.int 2147483647)))) (sSeq (sIf (tV (eBin pGe (eVar 2) (eBin pPow (eC (.int 10)) (eC (.int 18))))) (sPut (eVar 0) (eC (.int 3)) (eBin pDiv (eVar 2) (eVar 1))) sNil) (sRet (eBin pMod (eB qInt (aCons (eVar 2) aNil)) (eVar 1)))))))))
def F__law_taken : List W → Sto → R W := runD 4 fs__law_taken
def fs__law_pick : FS := (sRet (eBin pIx (eVar 1) (eCall 2 F__law_taken (aCons (eVar 0) (aCons (eB qLen (aCons (eVar 1) aNil)) aNil)))))
def F__law_pick : List W → Sto → R W := runD 2 fs__law_pick
def fs__law_alike (F : List W → Sto → R W) : FS := (sSeq (sIf (tV (eIsi ["tuple", "list"] (eVar 1))) (sSeq (sIf (Pd.tOr (Pd.tNot (tV (eIsi ["tuple", "list"] (eVar 0)))) (tV (eBin pNe (eIsi ["list"] (eVar 0)) (eIsi ["list"] (eVar 1))))) (sRet (eC (.bool false))) sNil) (sSeq (sIf (tV (eBin pNe (eB qLen (aCons (eVar 0) aNil)) (eB qLen (aCons (eVar 1) aNil)))) (sRet (eC (.bool false))) sNil) (sRet (eBin pEq (eLc [2] (iRg1 (aCons (eB qLen (aCons (eVar 1) aNil)) aNil)) (gN 2) (Pd.tNot (tV (eCall 2 F (aCons (eBin pIx (eVar 0) (eVar 2)) (aCons (eBin pIx (eVar 1) (eVar 2)) aNil))))) (eVar 2)) (eLst aNil))))) sNil) (sSeq (sIf (tV (eIsi ["dict"] (eVar 1))) (fun _ _ => .bad) sNil) (sSeq (sIf (Pd.tOr (tV (eBin (pIs true) (eVar 1) (eC .none))) (tV (eIsi ["str"] (eVar 1)))) (sRet (eAnd (eBin pEq (eVar 0) (eVar 1)) (eBin pEq (eIsi ["str"] (eVar 0)) (eIsi ["str"] (eVar 1))))) sNil) (sRet (eAnd (eIsi ["int"] (eVar 0)) (eAnd (eBin pEq (eIsi ["bool"] (eVar 0)) (eIsi ["bool"] (eVar 1))) (eBin pEq (eVar 0) (eVar 1))))))))
def FJ__law_alike : Nat → List W → Sto → R W
  | 0 => fun _ _ => .bad
  | j + 1 => runD 4 (fs__law_alike (FJ__law_alike j))
def F__law_alike : List W → Sto → R W := FJ__law_alike 8
def fs__law_two : FS := (sRet (eMs qJoin (eC (.str "")) (eB qSortS (aCons (eLst (aCons (eCall 2 F__law_pick (aCons (eVar 0) (aCons (eB qList (aCons (eVar 1) aNil)) aNil))) (aCons (eCall 2 F__law_pick (aCons (eVar 0) (aCons (eB qList (aCons (eVar 1) aNil)) aNil))) aNil))) aNil))))
def F__law_two : List W → Sto → R W := runD 2 fs__law_two
def fs__law_moods : FS := (sRet (eCall 2 F__law_pick (aCons (eVar 0) (aCons (eLst (aCons (eC (.str "a")) (aCons (eC (.str "ab")) (aCons (eC (.str "ab")) (aCons (eC (.str "abc")) (aCons (eC (.str "abc")) (aCons (eC (.str "bxz")) (aCons (eC (.str "abcd")) (aCons (eC (.str "abcd")) (aCons (eC (.str "abcde")) (aCons (eC (.str "cdefgh")) aNil))))))))))) aNil))))
def F__law_moods : List W → Sto → R W := runD 1 fs__law_moods
def fs__law_weight : FS := (sRet (eB qSum (aCons (eLc [3] (iSeq (eVar 2)) (gN 3) fYes (eBin pIx (eVar 1) (eMs qIndex (eVar 0) (eVar 3)))) aNil)))
def F__law_weight : List W → Sto → R W := runD 4 fs__law_weight
def fs__law_folk : FS := (sSeq (sPar 3 4 (aCons (eCall 1 F__law_moods (aCons (eVar 0) aNil)) (aCons (eLstM aNil) aNil))) (sSeq (sPar 5 6 (aCons (eLc [10] (iSeq (eVar 3)) (gN 10) fYes (eCall 2 F__law_taken (aCons (eVar 0) (aCons (eC (.int 6)) aNil)))) (aCons (eCall 2 F__law_taken (aCons (eVar 0) (aCons (eC (.int 4)) aNil))) aNil))) (sSeq (sFor (iRg1 (aCons (eCall 2 F__law_taken (aCons (eVar 0) (aCons (eBin pPlus (eVar 1) (eC (.int 1))) aNil))) aNil)) (gN 2) (sSeq (sPar 8 9 (aCons (eCall 2 F__law_two (aCons (eVar 0) (aCons (eVar 3) aNil))) (aCons (eCall 2 F__law_two (aCons (eVar 0) (aCons (eVar 3) aNil))) aNil))) (sSeq (sIf (Pd.tAnd (tV (eBin pGt (eVar 6) (eC (.int 0)))) (tV (eBin pLt (eCall 3 F__law_weight (aCons (eVar 3) (aCons (eVar 5) (aCons (eVar 8) aNil)))) (eCall 3 F__law_weight (aCons (eVar 3) (aCons (eVar 5) (aCons (eVar 9) aNil))))))) (sPar 8 9 (aCons (eVar 9) (aCons (eVar 8) aNil))) sNil) (sSeq (sSet 7 (eOr (eBin pEq (eVar 6) (eC (.int 0))) (eBin pGt (eCall 3 F__law_weight (aCons (eVar 3) (aCons (eVar 5) (aCons (eVar 8) aNil)))) (eCall 3 F__law_weight (aCons (eVar 3) (aCons (eVar 5) (aCons (eVar 9) aNil))))))) (sIf (Pd.tAnd (tV (eBin pNe (eVar 8) (eVar 9))) (Pd.tAnd (tV (eBin (pIn false) (eTup (aCons (eVar 8) (aCons (eVar 9) aNil))) (eVar 4))) (tV (eVar 7)))) (sExpr (eMl qApp (eVar 4) (aCons (eTup (aCons (eVar 8) (aCons (eVar 9) aNil))) aNil))) sNil))))) (sRet (eTup (aCons (eVar 3) (aCons (eB qTup (aCons (eVar 4) aNil)) aNil)))))))
def F__law_folk : List W → Sto → R W := runD 11 fs__law_folk
def fs__law_counts : FS := (sRet (eB qTup (aCons (eLc [2] (iSeq (eVar 0)) (gN 2) fYes (eB qLen (aCons (eLc [3] (iSeq (eVar 1)) (gN 3) (tV (eBin pEq (eVar 3) (eVar 2))) (eC (.int 1))) aNil))) aNil)))
def F__law_counts : List W → Sto → R W := runD 4 fs__law_counts
def fs__law_usable : FS := (sSeq (sSet 2 (eLst aNil)) (sSeq (sFor (iSeq (eBin pIx (eVar 0) (eC (.int 1)))) (gN 3) (sSeq (sSet 4 (eCall 2 F__law_counts (aCons (eBin pIx (eVar 0) (eC (.int 0))) (aCons (eBin pIx (eVar 3) (eC (.int 0))) aNil)))) (sSet 2 (eBin pPlus (eVar 2) (eRep (aCons (eVar 3) aNil) (eB qInt (aCons (eBin pEq (eLc [5, 6] (iZ2 (aCons (eVar 1) (aCons (eVar 4) aNil))) (gT 2 (gsCons (gN 5) (gsCons (gN 6) gsNil))) (tV (eBin pLt (eVar 5) (eVar 6))) (eC (.int 1))) (eLst aNil)) aNil))))))) (sRet (eVar 2))))
def F__law_usable : List W → Sto → R W := runD 7 fs__law_usable
def fs__law_behind : FS := (sSeq (sPar 3 4 (aCons (eCall 2 F__law_counts (aCons (eBin pIx (eVar 0) (eC (.int 0))) (aCons (eBin pIx (eVar 2) (eC (.int 0))) aNil))) (aCons (eCall 2 F__law_counts (aCons (eBin pIx (eVar 0) (eC (.int 0))) (aCons (eBin pIx (eVar 2) (eC (.int 1))) aNil))) aNil))) (sRet (eB qTup (aCons (eLc [5, 6, 7] (iZ3 (aCons (eVar 1) (aCons (eVar 3) (aCons (eVar 4) aNil)))) (gT 3 (gsCons (gN 5) (gsCons (gN 6) (gsCons (gN 7) gsNil)))) fYes (eBin pPlus (eBin pSub (eVar 5) (eVar 6)) (eVar 7))) aNil))))
def F__law_behind : List W → Sto → R W := runD 8 fs__law_behind
def fs__law_led : FS := (sSeq (sFor (iSeq (eVar 2)) (gN 3) (sSeq (sIf (tV (eBin (pIn false) (eVar 3) (eCall 2 F__law_usable (aCons (eVar 0) (aCons (eVar 1) aNil))))) (sRet (eC .none)) sNil) (sSet 1 (eCall 3 F__law_behind (aCons (eVar 0) (aCons (eVar 1) (aCons (eVar 3) aNil))))))) (sRet (eVar 1)))
def F__law_led : List W → Sto → R W := runD 4 fs__law_led
def fs__law_crowd : FS := (sRet (eCall 2 F__law_counts (aCons (eBin pIx (eVar 1) (eC (.int 0))) (aCons (eMs qJoin (eC (.str "")) (eLc [3] (iRg1 (aCons (eCall 2 F__law_taken (aCons (eVar 0) (aCons (eBin pPlus (eVar 2) (eC (.int 1))) aNil))) aNil)) (gN 3) fYes (eCall 2 F__law_pick (aCons (eVar 0) (aCons (eB qList (aCons (eBin pIx (eVar 1) (eC (.int 0))) aNil)) aNil))))) aNil))))
def F__law_crowd : List W → Sto → R W := runD 4 fs__law_crowd
def fs_law : FS := (sSeq (sSet 1 (eLstM (aCons (eVar 0) (aCons (eC (.int 0)) (aCons (eC (.int 7500)) (aCons (eC (.int 0)) aNil)))))) (sSeq (sSet 2 (eCall 2 F__law_folk (aCons (eVar 1) (aCons (eC (.int 8)) aNil)))) (sSeq (sSet 3 (eCall 3 F__law_crowd (aCons (eVar 1) (aCons (eVar 2) (aCons (eC (.int 7)) aNil))))) (sSeq (sSet 4 (eCall 2 F__law_usable (aCons (eVar 2) (aCons (eVar 3) aNil)))) (sSeq (sIf (Pd.tOr (tV (eBin (pIs false) (eCall 1 F_is_folk (aCons (eVar 2) aNil)) (eC (.bool true)))) (Pd.tNot (tV (eCall 2 F__law_alike (aCons (eLst (aCons (eCall 2 F_meetings (aCons (eVar 2) (aCons (eVar 3) aNil))) (aCons (eCall 2 F_is_at_rest (aCons (eVar 2) (aCons (eVar 3) aNil))) aNil))) (aCons (eLst (aCons (eB qTup (aCons (eVar 4) aNil)) (aCons (eBin pEq (eVar 4) (eLst aNil)) aNil))) aNil)))))) (sRet (eC (.bool false))) sNil) (sSeq (sFor (iSeq (eVar 4)) (gN 5) (sIf (Pd.tNot (tV (eCall 2 F__law_alike (aCons (eCall 3 F_met (aCons (eVar 2) (aCons (eVar 3) (aCons (eVar 5) aNil)))) (aCons (eCall 3 F__law_behind (aCons (eVar 2) (aCons (eVar 3) (aCons (eVar 5) aNil)))) aNil))))) (sRet (eC (.bool false))) sNil)) (sSeq (sPar 10 11 (aCons (eVar 3) (aCons (eLstM aNil) aNil))) (sSeq (sFor (iRg1 (aCons (eCall 2 F__law_taken (aCons (eVar 1) (aCons (eC (.int 6)) aNil))) aNil)) (gN 6) (sSeq (sSet 12 (eCall 2 F__law_usable (aCons (eVar 2) (aCons (eVar 10) aNil)))) (sIf (tV (eBin pNe (eVar 12) (eLst aNil))) (sSeq (sExpr (eMl qApp (eVar 11) (aCons (eCall 2 F__law_pick (aCons (eVar 1) (aCons (eVar 12) aNil))) aNil))) (sSet 10 (eCall 3 F__law_behind (aCons (eVar 2) (aCons (eVar 10) (aCons (eBin pIx (eVar 11) (eNeg (eC (.int 1)))) aNil)))))) sNil))) (sSeq (sIf (Pd.tNot (tV (eCall 2 F__law_alike (aCons (eCall 3 F_met_all (aCons (eVar 2) (aCons (eVar 3) (aCons (eB qTup (aCons (eVar 11) aNil)) aNil)))) (aCons (eVar 10) aNil))))) (sRet (eC (.bool false))) sNil) (sSeq (sSet 7 (eIf (tV (eBin pNe (eBin pIx (eVar 2) (eC (.int 1))) (eTup aNil))) (eB qTup (aCons (eLc [6] (iRg1 (aCons (eCall 2 F__law_taken (aCons (eVar 1) (aCons (eC (.int 4)) aNil))) aNil)) (gN 6) fYes (eCall 2 F__law_pick (aCons (eVar 1) (aCons (eB qList (aCons (eBin pIx (eVar 2) (eC (.int 1))) aNil)) aNil)))) aNil)) (eTup aNil))) (sSeq (sSet 8 (eCall 3 F__law_led (aCons (eVar 2) (aCons (eVar 3) (aCons (eVar 7) aNil))))) (sSeq (sTry "BadRow" [] (sIf (Pd.tOr (Pd.tNot (tV (eCall 2 F__law_alike (aCons (eCall 3 F_met_all (aCons (eVar 2) (aCons (eVar 3) (aCons (eVar 7) aNil)))) (aCons (eVar 8) aNil))))) (tV (eBin (pIs true) (eVar 8) (eC .none)))) (sRet (eC (.bool false))) sNil) (sIf (tV (eBin (pIs false) (eVar 8) (eC .none))) (sRet (eC (.bool false))) sNil)) (sSeq (sAsg (eVar 2) (gT 2 (gsCons (gN 13) (gsCons (gN 14) gsNil)))) (sSeq (sSet 9 (eLst (aCons (eC .none) (aCons (eTup aNil) (aCons (eLst (aCons (eVar 13) (aCons (eVar 14) aNil))) (aCons (eTup (aCons (eVar 13) aNil)) (aCons (eTup (aCons (eC (.str "")) (aCons (eTup aNil) aNil))) (aCons (eTup (aCons (eC (.str "ba")) (aCons (eTup aNil) aNil))) (aCons (eTup (aCons (eC (.str "aa")) (aCons (eTup aNil) aNil))) (aCons (eTup (aCons (eC (.str "abcdefg")) (aCons (eTup aNil) aNil))) (aCons (eTup (aCons (eVar 13) (aCons (eB qList (aCons (eVar 14) aNil)) aNil))) (aCons (eTup (aCons (eC (.str "ab")) (aCons (eTup (aCons (eTup (aCons (eC (.str "ba")) (aCons (eC (.str "aa")) aNil))) aNil)) aNil))) (aCons (eC (.int 3)) aNil))))))))))))) (sSeq (sSet 9 (eBin pPlus (eVar 9) (eLst (aCons (eTup (aCons (eC (.str "ab")) (aCons (eTup (aCons (eTup (aCons (eC (.str "ab")) (aCons (eC (.str "ab")) aNil))) aNil)) aNil))) (aCons (eTup (aCons (eC (.str "ab")) (aCons (eTup (aCons (eTup (aCons (eC (.str "a")) (aCons (eC (.str "b")) aNil))) aNil)) aNil))) (aCons (eTup (aCons (eC (.str "ab")) (aCons (eTup (aCons (eTup (aCons (eC (.str "ac")) (aCons (eC (.str "bb")) aNil))) aNil)) aNil))) (aCons (eTup (aCons (eC (.str "ab")) (aCons (eTup (aCons (eLst (aCons (eC (.str "ab")) (aCons (eC (.str "aa")) aNil))) aNil)) aNil))) (aCons (eTup (aCons (eC (.str "ab")) (aCons (eTup (aCons (eTup (aCons (eC (.str "ab")) (aCons (eC (.str "aa")) aNil))) (aCons (eTup (aCons (eC (.str "ab")) (aCons (eC (.str "aa")) aNil))) aNil))) aNil))) aNil)))))))) (sRet (eBin pEq (eLc [15] (iSeq (eBin pPlus (eVar 9) (eLst (aCons (eTup (aCons (eC (.str "ab")) (aCons (eTup (aCons (eTup (aCons (eC (.str "ab")) aNil)) aNil)) aNil))) (aCons (eTup (aCons (eVar 13) (aCons (eC (.int 3)) aNil))) (aCons (eTup (aCons (eC (.str "A")) (aCons (eTup aNil) aNil))) (aCons (eTup (aCons (eC (.str "ab")) (aCons (eTup (aCons (eC (.str "ab")) (aCons (eC (.str "aa")) aNil))) aNil))) aNil))))))) (gN 15) (tV (eBin (pIs false) (eCall 1 F_is_folk (aCons (eVar 15) aNil)) (eC (.bool false)))) (eVar 15)) (eLst aNil))))))))))))))))))
def F_law : List W → Sto → R W := runD 16 fs_law
/-! ### scopes -/
theorem sc_is_pair : FnScope ["value"] ["value"] (defScope s_is_pair) := ⟨rfl, rfl, rfl, by decide +kernel, rfl, by decide +kernel, by decide +kernel⟩
theorem sc_are_moods : FnScope ["value", "at", "mood"] ["value"] (defScope s_are_moods) := ⟨rfl, rfl, rfl, by decide +kernel, rfl, by decide +kernel, by decide +kernel⟩
theorem sc_are_two : FnScope ["moods", "value"] ["moods", "value"] (defScope s_are_two) := ⟨rfl, rfl, rfl, by decide +kernel, rfl, by decide +kernel, by decide +kernel⟩
theorem sc_is_rule : FnScope ["moods", "value"] ["moods", "value"] (defScope s_is_rule) := ⟨rfl, rfl, rfl, by decide +kernel, rfl, by decide +kernel, by decide +kernel⟩
theorem sc_are_rules : FnScope ["moods", "value", "rule"] ["moods", "value"] (defScope s_are_rules) := ⟨rfl, rfl, rfl, by decide +kernel, rfl, by decide +kernel, by decide +kernel⟩
theorem sc_is_folk : FnScope ["value"] ["value"] (defScope s_is_folk) := ⟨rfl, rfl, rfl, by decide +kernel, rfl, by decide +kernel, by decide +kernel⟩
theorem sc_demand_folk : FnScope ["value"] ["value"] (defScope s_demand_folk) := ⟨rfl, rfl, rfl, by decide +kernel, rfl, by decide +kernel, by decide +kernel⟩
theorem sc_is_integer : FnScope ["value"] ["value"] (defScope s_is_integer) := ⟨rfl, rfl, rfl, by decide +kernel, rfl, by decide +kernel, by decide +kernel⟩
theorem sc_is_crowd : FnScope ["folk", "value", "many"] ["folk", "value"] (defScope s_is_crowd) := ⟨rfl, rfl, rfl, by decide +kernel, rfl, by decide +kernel, by decide +kernel⟩
theorem sc_demand_crowd : FnScope ["folk", "value"] ["folk", "value"] (defScope s_demand_crowd) := ⟨rfl, rfl, rfl, by decide +kernel, rfl, by decide +kernel, by decide +kernel⟩
theorem sc_numbers_of : FnScope ["moods", "two", "mood"] ["moods", "two"] (defScope s_numbers_of) := ⟨rfl, rfl, rfl, by decide +kernel, rfl, by decide +kernel, by decide +kernel⟩
theorem sc_can_be_used : FnScope ["folk", "crowd", "rule", "needed", "many", "need"] ["folk", "crowd", "rule"] (defScope s_can_be_used) := ⟨rfl, rfl, rfl, by decide +kernel, rfl, by decide +kernel, by decide +kernel⟩
theorem sc_meetings : FnScope ["folk", "crowd", "rule"] ["folk", "crowd"] (defScope s_meetings) := ⟨rfl, rfl, rfl, by decide +kernel, rfl, by decide +kernel, by decide +kernel⟩
theorem sc_demand_room : FnScope ["crowd", "many"] ["crowd"] (defScope s_demand_room) := ⟨rfl, rfl, rfl, by decide +kernel, rfl, by decide +kernel, by decide +kernel⟩
theorem sc_behind_rule : FnScope ["folk", "crowd", "rule", "gone", "come", "many", "less", "more"] ["folk", "crowd", "rule"] (defScope s_behind_rule) := ⟨rfl, rfl, rfl, by decide +kernel, rfl, by decide +kernel, by decide +kernel⟩
theorem sc_met : FnScope ["folk", "crowd", "rule", "behind"] ["folk", "crowd", "rule"] (defScope s_met) := ⟨rfl, rfl, rfl, by decide +kernel, rfl, by decide +kernel, by decide +kernel⟩
theorem sc_is_at_rest : FnScope ["folk", "crowd"] ["folk", "crowd"] (defScope s_is_at_rest) := ⟨rfl, rfl, rfl, by decide +kernel, rfl, by decide +kernel, by decide +kernel⟩
theorem sc_behind_row : FnScope ["folk", "crowd", "row", "rule"] ["folk", "crowd", "row"] (defScope s_behind_row) := ⟨rfl, rfl, rfl, by decide +kernel, rfl, by decide +kernel, by decide +kernel⟩
theorem sc_met_all : FnScope ["folk", "crowd", "row", "behind"] ["folk", "crowd", "row"] (defScope s_met_all) := ⟨rfl, rfl, rfl, by decide +kernel, rfl, by decide +kernel, by decide +kernel⟩
theorem sc__law_taken : FnScope ["row", "many", "cell", "found"] ["row", "many"] (defScope s__law_taken) := ⟨rfl, rfl, rfl, by decide +kernel, rfl, by decide +kernel, by decide +kernel⟩
theorem sc__law_pick : FnScope ["row", "things"] ["row", "things"] (defScope s__law_pick) := ⟨rfl, rfl, rfl, by decide +kernel, rfl, by decide +kernel, by decide +kernel⟩
theorem sc__law_alike : FnScope ["found", "due", "k", "key"] ["found", "due"] (defScope s__law_alike) := ⟨rfl, rfl, rfl, by decide +kernel, rfl, by decide +kernel, by decide +kernel⟩
theorem sc__law_two : FnScope ["row", "moods"] ["row", "moods"] (defScope s__law_two) := ⟨rfl, rfl, rfl, by decide +kernel, rfl, by decide +kernel, by decide +kernel⟩
theorem sc__law_moods : FnScope ["row"] ["row"] (defScope s__law_moods) := ⟨rfl, rfl, rfl, by decide +kernel, rfl, by decide +kernel, by decide +kernel⟩
theorem sc__law_weight : FnScope ["moods", "told", "text", "mood"] ["moods", "told", "text"] (defScope s__law_weight) := ⟨rfl, rfl, rfl, by decide +kernel, rfl, by decide +kernel, by decide +kernel⟩
theorem sc__law_folk : FnScope ["row", "most", "turn", "moods", "rules", "told", "way", "is_loss", "one", "other", "mood"] ["row", "most"] (defScope s__law_folk) := ⟨rfl, rfl, rfl, by decide +kernel, rfl, by decide +kernel, by decide +kernel⟩
theorem sc__law_counts : FnScope ["moods", "text", "mood", "sign"] ["moods", "text"] (defScope s__law_counts) := ⟨rfl, rfl, rfl, by decide +kernel, rfl, by decide +kernel, by decide +kernel⟩
theorem sc__law_usable : FnScope ["folk", "crowd", "found", "rule", "need", "many", "one"] ["folk", "crowd"] (defScope s__law_usable) := ⟨rfl, rfl, rfl, by decide +kernel, rfl, by decide +kernel, by decide +kernel⟩
theorem sc__law_behind : FnScope ["folk", "crowd", "rule", "old", "new", "many", "one", "other"] ["folk", "crowd", "rule"] (defScope s__law_behind) := ⟨rfl, rfl, rfl, by decide +kernel, rfl, by decide +kernel, by decide +kernel⟩
theorem sc__law_led : FnScope ["folk", "crowd", "told", "rule"] ["folk", "crowd", "told"] (defScope s__law_led) := ⟨rfl, rfl, rfl, by decide +kernel, rfl, by decide +kernel, by decide +kernel⟩
theorem sc__law_crowd : FnScope ["row", "folk", "most", "turn"] ["row", "folk", "most"] (defScope s__law_crowd) := ⟨rfl, rfl, rfl, by decide +kernel, rfl, by decide +kernel, by decide +kernel⟩
theorem sc_law : FnScope ["script", "row", "folk", "crowd", "good", "rule", "turn", "some", "due", "odd", "now", "told", "here", "moods", "rules", "value"] ["script"] (defScope s_law) := ⟨rfl, rfl, rfl, by decide +kernel, rfl, by decide +kernel, by decide +kernel⟩
/-! ### what is known of the module -/
structure Txt (K : PySem.W.Frag) (mg : Str → Option Value) (base : Heap) (Ts : List Addr) (xa A cA pA : Str → Addr) (Dd : Str → FuncData) : Prop where
  n_all : mg "all" = none
  n_any : mg "any" = none
  n_bool : mg "bool" = none
  n_dict : mg "dict" = none
  n_int : mg "int" = none
  n_isinstance : mg "isinstance" = none
  n_len : mg "len" = none
  n_list : mg "list" = none
  n_range : mg "range" = none
  n_set : mg "set" = none
  n_sorted : mg "sorted" = none
  n_str : mg "str" = none
  n_sum : mg "sum" = none
  n_tuple : mg "tuple" = none
  n_zip : mg "zip" = none
  c_MOST_IN_A_MOOD : ∃ t, mg "MOST_IN_A_MOOD" = some (.int (10000000000000000000000000000000000000000) t)
  c_MOST_MOODS : ∃ t, mg "MOST_MOODS" = some (.int (6) t)
  c_MOST_RULES : ∃ t, mg "MOST_RULES" = some (.int (12) t)
  x_BadCrowd : (∃ bmB B newId initId, ExcBaseFacts B newId initId bmB ∧ PySem.W.excIn K (xa "BadCrowd") bmB newId = true) ∧ mg "BadCrowd" = some (.ref (xa "BadCrowd")) ∧ PySem.W.keepIn K (.ref (xa "BadCrowd")) = true ∧ PySem.W.subIn K (.ref (xa "BadCrowd")) (.type "BaseException") = some true ∧ PySem.W.typeIn K (.ref (xa "BadCrowd")) = some (.type "type") ∧ PySem.W.exmOne K (.ref (xa "BadCrowd")) (.ref (xa "BadCrowd")) = some true
  x_BadFolk : (∃ bmB B newId initId, ExcBaseFacts B newId initId bmB ∧ PySem.W.excIn K (xa "BadFolk") bmB newId = true) ∧ mg "BadFolk" = some (.ref (xa "BadFolk")) ∧ PySem.W.keepIn K (.ref (xa "BadFolk")) = true ∧ PySem.W.subIn K (.ref (xa "BadFolk")) (.type "BaseException") = some true ∧ PySem.W.typeIn K (.ref (xa "BadFolk")) = some (.type "type") ∧ PySem.W.exmOne K (.ref (xa "BadFolk")) (.ref (xa "BadFolk")) = some true
  x_BadRow : (∃ bmB B newId initId, ExcBaseFacts B newId initId bmB ∧ PySem.W.excIn K (xa "BadRow") bmB newId = true) ∧ mg "BadRow" = some (.ref (xa "BadRow")) ∧ PySem.W.keepIn K (.ref (xa "BadRow")) = true ∧ PySem.W.subIn K (.ref (xa "BadRow")) (.type "BaseException") = some true ∧ PySem.W.typeIn K (.ref (xa "BadRow")) = some (.type "type") ∧ PySem.W.exmOne K (.ref (xa "BadRow")) (.ref (xa "BadRow")) = some true
  x_BadRule : (∃ bmB B newId initId, ExcBaseFacts B newId initId bmB ∧ PySem.W.excIn K (xa "BadRule") bmB newId = true) ∧ mg "BadRule" = some (.ref (xa "BadRule")) ∧ PySem.W.keepIn K (.ref (xa "BadRule")) = true ∧ PySem.W.subIn K (.ref (xa "BadRule")) (.type "BaseException") = some true ∧ PySem.W.typeIn K (.ref (xa "BadRule")) = some (.type "type") ∧ PySem.W.exmOne K (.ref (xa "BadRule")) (.ref (xa "BadRule")) = some true
  x_TooGreat : (∃ bmB B newId initId, ExcBaseFacts B newId initId bmB ∧ PySem.W.excIn K (xa "TooGreat") bmB newId = true) ∧ mg "TooGreat" = some (.ref (xa "TooGreat")) ∧ PySem.W.keepIn K (.ref (xa "TooGreat")) = true ∧ PySem.W.subIn K (.ref (xa "TooGreat")) (.type "BaseException") = some true ∧ PySem.W.typeIn K (.ref (xa "TooGreat")) = some (.type "type") ∧ PySem.W.exmOne K (.ref (xa "TooGreat")) (.ref (xa "TooGreat")) = some true
  f_is_pair : FunD K "is_pair" "is_pair" (defArgs s_is_pair) (defBody s_is_pair) (defScope s_is_pair) [] [] (A "is_pair") (Dd "is_pair")
  g_is_pair : mg "is_pair" = some (.ref (A "is_pair"))
  f_are_moods : FunD K "are_moods" "are_moods" (defArgs s_are_moods) (defBody s_are_moods) (defScope s_are_moods) [] [] (A "are_moods") (Dd "are_moods")
  g_are_moods : mg "are_moods" = some (.ref (A "are_moods"))
  t_are_moods : (Dd "are_moods").code = .ref (cA "are_moods") ∧ GxR.TabB base mg (cA "are_moods") (pA "are_moods") ∧ pA "are_moods" ∈ Ts
  f_are_two : FunD K "are_two" "are_two" (defArgs s_are_two) (defBody s_are_two) (defScope s_are_two) [] [] (A "are_two") (Dd "are_two")
  g_are_two : mg "are_two" = some (.ref (A "are_two"))
  f_is_rule : FunD K "is_rule" "is_rule" (defArgs s_is_rule) (defBody s_is_rule) (defScope s_is_rule) [] [] (A "is_rule") (Dd "is_rule")
  g_is_rule : mg "is_rule" = some (.ref (A "is_rule"))
  f_are_rules : FunD K "are_rules" "are_rules" (defArgs s_are_rules) (defBody s_are_rules) (defScope s_are_rules) [] [] (A "are_rules") (Dd "are_rules")
  g_are_rules : mg "are_rules" = some (.ref (A "are_rules"))
  t_are_rules : (Dd "are_rules").code = .ref (cA "are_rules") ∧ GxR.TabB base mg (cA "are_rules") (pA "are_rules") ∧ pA "are_rules" ∈ Ts
  f_is_folk : FunD K "is_folk" "is_folk" (defArgs s_is_folk) (defBody s_is_folk) (defScope s_is_folk) [] [] (A "is_folk") (Dd "is_folk")
  g_is_folk : mg "is_folk" = some (.ref (A "is_folk"))
  f_demand_folk : FunD K "demand_folk" "demand_folk" (defArgs s_demand_folk) (defBody s_demand_folk) (defScope s_demand_folk) [] [] (A "demand_folk") (Dd "demand_folk")
  g_demand_folk : mg "demand_folk" = some (.ref (A "demand_folk"))
  f_is_integer : FunD K "is_integer" "is_integer" (defArgs s_is_integer) (defBody s_is_integer) (defScope s_is_integer) [] [] (A "is_integer") (Dd "is_integer")
  g_is_integer : mg "is_integer" = some (.ref (A "is_integer"))
  f_is_crowd : FunD K "is_crowd" "is_crowd" (defArgs s_is_crowd) (defBody s_is_crowd) (defScope s_is_crowd) [] [] (A "is_crowd") (Dd "is_crowd")
  g_is_crowd : mg "is_crowd" = some (.ref (A "is_crowd"))
  t_is_crowd : (Dd "is_crowd").code = .ref (cA "is_crowd") ∧ GxR.TabB base mg (cA "is_crowd") (pA "is_crowd") ∧ pA "is_crowd" ∈ Ts
  f_demand_crowd : FunD K "demand_crowd" "demand_crowd" (defArgs s_demand_crowd) (defBody s_demand_crowd) (defScope s_demand_crowd) [] [] (A "demand_crowd") (Dd "demand_crowd")
  g_demand_crowd : mg "demand_crowd" = some (.ref (A "demand_crowd"))
  f_numbers_of : FunD K "numbers_of" "numbers_of" (defArgs s_numbers_of) (defBody s_numbers_of) (defScope s_numbers_of) [] [] (A "numbers_of") (Dd "numbers_of")
  g_numbers_of : mg "numbers_of" = some (.ref (A "numbers_of"))
  f_can_be_used : FunD K "can_be_used" "can_be_used" (defArgs s_can_be_used) (defBody s_can_be_used) (defScope s_can_be_used) [] [] (A "can_be_used") (Dd "can_be_used")
  g_can_be_used : mg "can_be_used" = some (.ref (A "can_be_used"))
  t_can_be_used : (Dd "can_be_used").code = .ref (cA "can_be_used") ∧ GxR.TabB base mg (cA "can_be_used") (pA "can_be_used") ∧ pA "can_be_used" ∈ Ts
  f_meetings : FunD K "meetings" "meetings" (defArgs s_meetings) (defBody s_meetings) (defScope s_meetings) [] [] (A "meetings") (Dd "meetings")
  g_meetings : mg "meetings" = some (.ref (A "meetings"))
  f_demand_room : FunD K "demand_room" "demand_room" (defArgs s_demand_room) (defBody s_demand_room) (defScope s_demand_room) [] [] (A "demand_room") (Dd "demand_room")
  g_demand_room : mg "demand_room" = some (.ref (A "demand_room"))
  t_demand_room : (Dd "demand_room").code = .ref (cA "demand_room") ∧ GxR.TabB base mg (cA "demand_room") (pA "demand_room") ∧ pA "demand_room" ∈ Ts
  f_behind_rule : FunD K "behind_rule" "behind_rule" (defArgs s_behind_rule) (defBody s_behind_rule) (defScope s_behind_rule) [] [] (A "behind_rule") (Dd "behind_rule")
  g_behind_rule : mg "behind_rule" = some (.ref (A "behind_rule"))
  f_met : FunD K "met" "met" (defArgs s_met) (defBody s_met) (defScope s_met) [] [] (A "met") (Dd "met")
  g_met : mg "met" = some (.ref (A "met"))
  f_is_at_rest : FunD K "is_at_rest" "is_at_rest" (defArgs s_is_at_rest) (defBody s_is_at_rest) (defScope s_is_at_rest) [] [] (A "is_at_rest") (Dd "is_at_rest")
  g_is_at_rest : mg "is_at_rest" = some (.ref (A "is_at_rest"))
  f_behind_row : FunD K "behind_row" "behind_row" (defArgs s_behind_row) (defBody s_behind_row) (defScope s_behind_row) [] [] (A "behind_row") (Dd "behind_row")
  g_behind_row : mg "behind_row" = some (.ref (A "behind_row"))
  f_met_all : FunD K "met_all" "met_all" (defArgs s_met_all) (defBody s_met_all) (defScope s_met_all) [] [] (A "met_all") (Dd "met_all")
  g_met_all : mg "met_all" = some (.ref (A "met_all"))
  f__law_taken : FunD K "_law_taken" "_law_taken" (defArgs s__law_taken) (defBody s__law_taken) (defScope s__law_taken) [] [] (A "_law_taken") (Dd "_law_taken")
  g__law_taken : mg "_law_taken" = some (.ref (A "_law_taken"))
  f__law_pick : FunD K "_law_pick" "_law_pick" (defArgs s__law_pick) (defBody s__law_pick) (defScope s__law_pick) [] [] (A "_law_pick") (Dd "_law_pick")
  g__law_pick : mg "_law_pick" = some (.ref (A "_law_pick"))
  f__law_alike : FunD K "_law_alike" "_law_alike" (defArgs s__law_alike) (defBody s__law_alike) (defScope s__law_alike) [] [] (A "_law_alike") (Dd "_law_alike")
  g__law_alike : mg "_law_alike" = some (.ref (A "_law_alike"))
  f__law_two : FunD K "_law_two" "_law_two" (defArgs s__law_two) (defBody s__law_two) (defScope s__law_two) [] [] (A "_law_two") (Dd "_law_two")
  g__law_two : mg "_law_two" = some (.ref (A "_law_two"))
  f__law_moods : FunD K "_law_moods" "_law_moods" (defArgs s__law_moods) (defBody s__law_moods) (defScope s__law_moods) [] [] (A "_law_moods") (Dd "_law_moods")
  g__law_moods : mg "_law_moods" = some (.ref (A "_law_moods"))
  f__law_weight : FunD K "_law_weight" "_law_weight" (defArgs s__law_weight) (defBody s__law_weight) (defScope s__law_weight) [] [] (A "_law_weight") (Dd "_law_weight")
  g__law_weight : mg "_law_weight" = some (.ref (A "_law_weight"))
  f__law_folk : FunD K "_law_folk" "_law_folk" (defArgs s__law_folk) (defBody s__law_folk) (defScope s__law_folk) [] [] (A "_law_folk") (Dd "_law_folk")
  g__law_folk : mg "_law_folk" = some (.ref (A "_law_folk"))
  f__law_counts : FunD K "_law_counts" "_law_counts" (defArgs s__law_counts) (defBody s__law_counts) (defScope s__law_counts) [] [] (A "_law_counts") (Dd "_law_counts")
  g__law_counts : mg "_law_counts" = some (.ref (A "_law_counts"))
  f__law_usable : FunD K "_law_usable" "_law_usable" (defArgs s__law_usable) (defBody s__law_usable) (defScope s__law_usable) [] [] (A "_law_usable") (Dd "_law_usable")
  g__law_usable : mg "_law_usable" = some (.ref (A "_law_usable"))
  f__law_behind : FunD K "_law_behind" "_law_behind" (defArgs s__law_behind) (defBody s__law_behind) (defScope s__law_behind) [] [] (A "_law_behind") (Dd "_law_behind")
  g__law_behind : mg "_law_behind" = some (.ref (A "_law_behind"))
  f__law_led : FunD K "_law_led" "_law_led" (defArgs s__law_led) (defBody s__law_led) (defScope s__law_led) [] [] (A "_law_led") (Dd "_law_led")
  g__law_led : mg "_law_led" = some (.ref (A "_law_led"))
  f__law_crowd : FunD K "_law_crowd" "_law_crowd" (defArgs s__law_crowd) (defBody s__law_crowd) (defScope s__law_crowd) [] [] (A "_law_crowd") (Dd "_law_crowd")
  g__law_crowd : mg "_law_crowd" = some (.ref (A "_law_crowd"))
  f_law : FunD K "law" "law" (defArgs s_law) (defBody s_law) (defScope s_law) [] [] (A "law") (Dd "law")
  g_law : mg "law" = some (.ref (A "law"))
section
variable {P : Program} {w : World} {K : PySem.W.Frag} {mg : Str → Option Value} {base : Heap} {Ts : List Addr} {xa A cA pA : Str → Addr} {Dd : Str → FuncData}
theorem exf {X : Cx} {C : Ct} {x : Str} (h : (∃ bmB B newId initId, ExcBaseFacts B newId initId bmB ∧ PySem.W.excIn X.K (C.xa x) bmB newId = true) ∧ X.mg x = some (.ref (C.xa x)) ∧ PySem.W.keepIn X.K (.ref (C.xa x)) = true ∧ PySem.W.subIn X.K (.ref (C.xa x)) (.type "BaseException") = some true ∧ PySem.W.typeIn X.K (.ref (C.xa x)) = some (.type "type") ∧ PySem.W.exmOne X.K (.ref (C.xa x)) (.ref (C.xa x)) = some true) : ExF X C x := ⟨h.1, h.2.1, h.2.2.1, raises_own h.2.2.2.1 h.2.2.2.2.1⟩
abbrev TT (K : PySem.W.Frag) (Ts : List Addr) (xa : Str → Addr) : Ct := ⟨K, Ts, xa⟩
theorem b_is_pair (T : Txt K mg base Ts xa A cA pA Dd) : Binds K (Dd "is_pair") ["value"] [] := T.f_is_pair.bindsN fun _ _ _ _ _ _ us hl => match us, hl with | [_], _ => rfl
theorem b_are_moods (T : Txt K mg base Ts xa A cA pA Dd) : Binds K (Dd "are_moods") ["value"] [] := T.f_are_moods.bindsN fun _ _ _ _ _ _ us hl => match us, hl with | [_], _ => rfl
theorem b_are_two (T : Txt K mg base Ts xa A cA pA Dd) : Binds K (Dd "are_two") ["moods", "value"] [] := T.f_are_two.bindsN fun _ _ _ _ _ _ us hl => match us, hl with | [_, _], _ => rfl
theorem b_is_rule (T : Txt K mg base Ts xa A cA pA Dd) : Binds K (Dd "is_rule") ["moods", "value"] [] := T.f_is_rule.bindsN fun _ _ _ _ _ _ us hl => match us, hl with | [_, _], _ => rfl
theorem b_are_rules (T : Txt K mg base Ts xa A cA pA Dd) : Binds K (Dd "are_rules") ["moods", "value"] [] := T.f_are_rules.bindsN fun _ _ _ _ _ _ us hl => match us, hl with | [_, _], _ => rfl
theorem b_is_folk (T : Txt K mg base Ts xa A cA pA Dd) : Binds K (Dd "is_folk") ["value"] [] := T.f_is_folk.bindsN fun _ _ _ _ _ _ us hl => match us, hl with | [_], _ => rfl
theorem b_demand_folk (T : Txt K mg base Ts xa A cA pA Dd) : Binds K (Dd "demand_folk") ["value"] [] := T.f_demand_folk.bindsN fun _ _ _ _ _ _ us hl => match us, hl with | [_], _ => rfl
theorem b_is_integer (T : Txt K mg base Ts xa A cA pA Dd) : Binds K (Dd "is_integer") ["value"] [] := T.f_is_integer.bindsN fun _ _ _ _ _ _ us hl => match us, hl with | [_], _ => rfl
theorem b_is_crowd (T : Txt K mg base Ts xa A cA pA Dd) : Binds K (Dd "is_crowd") ["folk", "value"] [] := T.f_is_crowd.bindsN fun _ _ _ _ _ _ us hl => match us, hl with | [_, _], _ => rfl
theorem b_demand_crowd (T : Txt K mg base Ts xa A cA pA Dd) : Binds K (Dd "demand_crowd") ["folk", "value"] [] := T.f_demand_crowd.bindsN fun _ _ _ _ _ _ us hl => match us, hl with | [_, _], _ => rfl
theorem b_numbers_of (T : Txt K mg base Ts xa A cA pA Dd) : Binds K (Dd "numbers_of") ["moods", "two"] [] := T.f_numbers_of.bindsN fun _ _ _ _ _ _ us hl => match us, hl with | [_, _], _ => rfl
theorem b_can_be_used (T : Txt K mg base Ts xa A cA pA Dd) : Binds K (Dd "can_be_used") ["folk", "crowd", "rule"] [] := T.f_can_be_used.bindsN fun _ _ _ _ _ _ us hl => match us, hl with | [_, _, _], _ => rfl
theorem b_meetings (T : Txt K mg base Ts xa A cA pA Dd) : Binds K (Dd "meetings") ["folk", "crowd"] [] := T.f_meetings.bindsN fun _ _ _ _ _ _ us hl => match us, hl with | [_, _], _ => rfl
theorem b_demand_room (T : Txt K mg base Ts xa A cA pA Dd) : Binds K (Dd "demand_room") ["crowd"] [] := T.f_demand_room.bindsN fun _ _ _ _ _ _ us hl => match us, hl with | [_], _ => rfl
theorem b_behind_rule (T : Txt K mg base Ts xa A cA pA Dd) : Binds K (Dd "behind_rule") ["folk", "crowd", "rule"] [] := T.f_behind_rule.bindsN fun _ _ _ _ _ _ us hl => match us, hl with | [_, _, _], _ => rfl
theorem b_met (T : Txt K mg base Ts xa A cA pA Dd) : Binds K (Dd "met") ["folk", "crowd", "rule"] [] := T.f_met.bindsN fun _ _ _ _ _ _ us hl => match us, hl with | [_, _, _], _ => rfl
theorem b_is_at_rest (T : Txt K mg base Ts xa A cA pA Dd) : Binds K (Dd "is_at_rest") ["folk", "crowd"] [] := T.f_is_at_rest.bindsN fun _ _ _ _ _ _ us hl => match us, hl with | [_, _], _ => rfl
theorem b_behind_row (T : Txt K mg base Ts xa A cA pA Dd) : Binds K (Dd "behind_row") ["folk", "crowd", "row"] [] := T.f_behind_row.bindsN fun _ _ _ _ _ _ us hl => match us, hl with | [_, _, _], _ => rfl
theorem b_met_all (T : Txt K mg base Ts xa A cA pA Dd) : Binds K (Dd "met_all") ["folk", "crowd", "row"] [] := T.f_met_all.bindsN fun _ _ _ _ _ _ us hl => match us, hl with | [_, _, _], _ => rfl
theorem b__law_taken (T : Txt K mg base Ts xa A cA pA Dd) : Binds K (Dd "_law_taken") ["row", "many"] [] := T.f__law_taken.bindsN fun _ _ _ _ _ _ us hl => match us, hl with | [_, _], _ => rfl
theorem b__law_pick (T : Txt K mg base Ts xa A cA pA Dd) : Binds K (Dd "_law_pick") ["row", "things"] [] := T.f__law_pick.bindsN fun _ _ _ _ _ _ us hl => match us, hl with | [_, _], _ => rfl
theorem b__law_alike (T : Txt K mg base Ts xa A cA pA Dd) : Binds K (Dd "_law_alike") ["found", "due"] [] := T.f__law_alike.bindsN fun _ _ _ _ _ _ us hl => match us, hl with | [_, _], _ => rfl
theorem b__law_two (T : Txt K mg base Ts xa A cA pA Dd) : Binds K (Dd "_law_two") ["row", "moods"] [] := T.f__law_two.bindsN fun _ _ _ _ _ _ us hl => match us, hl with | [_, _], _ => rfl
theorem b__law_moods (T : Txt K mg base Ts xa A cA pA Dd) : Binds K (Dd "_law_moods") ["row"] [] := T.f__law_moods.bindsN fun _ _ _ _ _ _ us hl => match us, hl with | [_], _ => rfl
theorem b__law_weight (T : Txt K mg base Ts xa A cA pA Dd) : Binds K (Dd "_law_weight") ["moods", "told", "text"] [] := T.f__law_weight.bindsN fun _ _ _ _ _ _ us hl => match us, hl with | [_, _, _], _ => rfl
theorem b__law_folk (T : Txt K mg base Ts xa A cA pA Dd) : Binds K (Dd "_law_folk") ["row", "most"] [] := T.f__law_folk.bindsN fun _ _ _ _ _ _ us hl => match us, hl with | [_, _], _ => rfl
theorem b__law_counts (T : Txt K mg base Ts xa A cA pA Dd) : Binds K (Dd "_law_counts") ["moods", "text"] [] := T.f__law_counts.bindsN fun _ _ _ _ _ _ us hl => match us, hl with | [_, _], _ => rfl
theorem b__law_usable (T : Txt K mg base Ts xa A cA pA Dd) : Binds K (Dd "_law_usable") ["folk", "crowd"] [] := T.f__law_usable.bindsN fun _ _ _ _ _ _ us hl => match us, hl with | [_, _], _ => rfl
theorem b__law_behind (T : Txt K mg base Ts xa A cA pA Dd) : Binds K (Dd "_law_behind") ["folk", "crowd", "rule"] [] := T.f__law_behind.bindsN fun _ _ _ _ _ _ us hl => match us, hl with | [_, _, _], _ => rfl
theorem b__law_led (T : Txt K mg base Ts xa A cA pA Dd) : Binds K (Dd "_law_led") ["folk", "crowd", "told"] [] := T.f__law_led.bindsN fun _ _ _ _ _ _ us hl => match us, hl with | [_, _, _], _ => rfl
theorem b__law_crowd (T : Txt K mg base Ts xa A cA pA Dd) : Binds K (Dd "_law_crowd") ["row", "folk", "most"] [] := T.f__law_crowd.bindsN fun _ _ _ _ _ _ us hl => match us, hl with | [_, _, _], _ => rfl
theorem b_law (T : Txt K mg base Ts xa A cA pA Dd) : Binds K (Dd "law") ["script"] [] := T.f_law.bindsN fun _ _ _ _ _ _ us hl => match us, hl with | [_], _ => rfl
theorem ok_is_pair (T : Txt K mg base Ts xa A cA pA Dd) : FnOk P w K mg base (L2.CX P w) 2 (A "is_pair") (Dd "is_pair") ["value"] (spD (TT K Ts xa) 1 F_is_pair) := by
  have n_isinstance := T.n_isinstance
  have n_len := T.n_len
  have n_tuple := T.n_tuple
  refine def_ok (N := ["value"]) (k := 1) (fs := fs_is_pair) (Pc := fun c => True) T.f_is_pair sc_is_pair rfl rfl trivial fun cdv A outer s H E hc hr => ?_
  have nd := sc_is_pair.nd
  exact (dss_one (ds_ret (de_and (de_isi rfl n_isinstance n_tuple (by decide +kernel) rfl (de_var 0)) (de_one (de_eq (room_u65 hr) (de_len rfl n_len (da_cons (de_var 0) da_nil)) de_int)))))
theorem ok_are_moods (T : Txt K mg base Ts xa A cA pA Dd) : FnOk P w K mg base (L2.CX P w) 3 (A "are_moods") (Dd "are_moods") ["value"] (spD (TT K Ts xa) 1 F_are_moods) := by
  have c_MOST_MOODS := T.c_MOST_MOODS
  have n_all := T.n_all
  have n_isinstance := T.n_isinstance
  have n_len := T.n_len
  have n_range := T.n_range
  have n_str := T.n_str
  obtain ⟨hcd, TB, hP⟩ := T.t_are_moods
  refine def_ok (N := ["value", "at", "mood"]) (k := 2) (fs := fs_are_moods) (Pc := fun c => c = .ref (cA "are_moods")) T.f_are_moods sc_are_moods rfl rfl hcd fun cdv A outer s H E hc hr => ?_
  have nd := sc_are_moods.nd
  subst hc
  exact (dss_cons (ds_if (DW.dt (dw_or (dt_not (dt_val (de_isi rfl n_isinstance n_str (by decide +kernel) rfl (de_var 0)))) (dw_or1 (dt_not (dt_lele de_int (de_len rfl n_len (da_cons (de_var 0) da_nil)) (de_globI c_MOST_MOODS.choose_spec)))))) (dss_one (ds_ret de_bl)) dss_nil) (dss_cons (ds_if (dt_not (dt_val (de_quant (k := 1) (k0 := true) (own := [("mood", 2)]) rfl (hr.mono (by decide)) nd rfl rfl n_all TB rfl hP (di_seq (de_var 0)) (by kernel_rfl) (fun _ _ _ _ _ _ _ hr1 => (dg_name 2 nd)) (fun _ _ _ _ _ _ _ hr1 => (de_lele de_str (de_var 2) de_str))))) (dss_one (ds_ret de_bl)) dss_nil) (dss_one (ds_ret (de_quant (k := 1) (k0 := true) (own := [("at", 1)]) rfl (hr.mono (by decide)) nd rfl rfl n_all TB rfl hP (di_rng1 rfl n_range (da_cons (de_sub (de_len rfl n_len (da_cons (de_var 0) da_nil)) de_int) da_nil)) (by kernel_rfl) (fun _ _ _ _ _ _ _ hr2 => (dg_name 1 nd)) (fun _ _ _ _ _ _ _ hr2 => (de_lt (de_item (de_var 0) (de_var 1)) (de_item (de_var 0) (de_plus (de_var 1) de_int)))))))))
theorem ok_are_two (T : Txt K mg base Ts xa A cA pA Dd) : FnOk P w K mg base (L2.CX P w) 2 (A "are_two") (Dd "are_two") ["moods", "value"] (spD (TT K Ts xa) 2 F_are_two) := by
  have n_isinstance := T.n_isinstance
  have n_len := T.n_len
  have n_str := T.n_str
  refine def_ok (N := ["moods", "value"]) (k := 1) (fs := fs_are_two) (Pc := fun c => True) T.f_are_two sc_are_two rfl rfl trivial fun cdv A outer s H E hc hr => ?_
  have nd := sc_are_two.nd
  exact (dss_cons (ds_if (DW.dt (dw_or (dt_not (dt_val (de_isi rfl n_isinstance n_str (by decide +kernel) rfl (de_var 1)))) (dw_or1 (dt_ne (room_u65 hr) (de_len rfl n_len (da_cons (de_var 1) da_nil)) de_int)))) (dss_one (ds_ret de_bl)) dss_nil) (dss_one (ds_ret (de_and (de_in (room_u65 hr) (de_item (de_var 1) de_int) (de_var 0)) (de_and (de_in (room_u65 hr) (de_item (de_var 1) de_int) (de_var 0)) (de_one (de_le (de_item (de_var 1) de_int) (de_item (de_var 1) de_int))))))))
theorem ok_is_rule (T : Txt K mg base Ts xa A cA pA Dd) : FnOk P w K mg base (L2.CX P w) 3 (A "is_rule") (Dd "is_rule") ["moods", "value"] (spD (TT K Ts xa) 2 F_is_rule) := by
  have b_are_two := b_are_two T
  have b_is_pair := b_is_pair T
  have g_are_two := T.g_are_two
  have g_is_pair := T.g_is_pair
  have k_are_two := T.f_are_two.kp
  have k_is_pair := T.f_is_pair.kp
  refine def_ok (N := ["moods", "value"]) (k := 2) (fs := fs_is_rule) (Pc := fun c => True) T.f_is_rule sc_is_rule rfl rfl trivial fun cdv A outer s H E hc hr => ?_
  have nd := sc_is_rule.nd
  exact (dss_cons (ds_if (dt_not (dt_val (de_call (ok_is_pair T) (hr.mono (by decide)) g_is_pair k_is_pair b_is_pair (takes_of rfl rfl rfl rfl) (da_cons (de_var 1) da_nil)))) (dss_one (ds_ret de_bl)) dss_nil) (dss_one (ds_ret (de_and (de_call (ok_are_two T) (hr.mono (by decide)) g_are_two k_are_two b_are_two (takes_of rfl rfl rfl rfl) (da_cons (de_var 0) (da_cons (de_item (de_var 1) de_int) da_nil))) (de_and (de_call (ok_are_two T) (hr.mono (by decide)) g_are_two k_are_two b_are_two (takes_of rfl rfl rfl rfl) (da_cons (de_var 0) (da_cons (de_item (de_var 1) de_int) da_nil))) (de_one (de_ne (room_u65 hr) (de_item (de_var 1) de_int) (de_item (de_var 1) de_int))))))))
theorem ok_are_rules (T : Txt K mg base Ts xa A cA pA Dd) : FnOk P w K mg base (L2.CX P w) 5 (A "are_rules") (Dd "are_rules") ["moods", "value"] (spD (TT K Ts xa) 2 F_are_rules) := by
  have b_is_rule := b_is_rule T
  have c_MOST_RULES := T.c_MOST_RULES
  have g_is_rule := T.g_is_rule
  have k_is_rule := T.f_is_rule.kp
  have n_all := T.n_all
  have n_isinstance := T.n_isinstance
  have n_len := T.n_len
  have n_set := T.n_set
  have n_tuple := T.n_tuple
  obtain ⟨hcd, TB, hP⟩ := T.t_are_rules
  refine def_ok (N := ["moods", "value", "rule"]) (k := 4) (fs := fs_are_rules) (Pc := fun c => c = .ref (cA "are_rules")) T.f_are_rules sc_are_rules rfl rfl hcd fun cdv A outer s H E hc hr => ?_
  have nd := sc_are_rules.nd
  subst hc
  exact (dss_cons (ds_if (DW.dt (dw_or (dt_not (dt_val (de_isi rfl n_isinstance n_tuple (by decide +kernel) rfl (de_var 1)))) (dw_or1 (dt_gt (de_len rfl n_len (da_cons (de_var 1) da_nil)) (de_globI c_MOST_RULES.choose_spec))))) (dss_one (ds_ret de_bl)) dss_nil) (dss_one (ds_ret (de_and (de_quant (k := 3) (k0 := true) (own := [("rule", 2)]) rfl (hr.mono (by decide)) nd rfl rfl n_all TB rfl hP (di_seq (de_var 1)) (by kernel_rfl) (fun _ _ _ _ _ _ _ hr1 => (dg_name 2 nd)) (fun _ _ _ _ _ _ _ hr1 => (de_call (ok_is_rule T) (hr1.mono (by decide)) g_is_rule k_is_rule b_is_rule takes0 (da_cons (de_var 0) (da_cons (de_var 2) da_nil))))) (de_one (de_eq (room_u65 hr) (de_lenSet rfl rfl rfl (room_u65 hr) n_len n_set (de_var 1)) (de_len rfl n_len (da_cons (de_var 1) da_nil))))))))
theorem ok_is_folk (T : Txt K mg base Ts xa A cA pA Dd) : FnOk P w K mg base (L2.CX P w) 6 (A "is_folk") (Dd "is_folk") ["value"] (spD (TT K Ts xa) 1 F_is_folk) := by
  have b_are_moods := b_are_moods T
  have b_are_rules := b_are_rules T
  have b_is_pair := b_is_pair T
  have g_are_moods := T.g_are_moods
  have g_are_rules := T.g_are_rules
  have g_is_pair := T.g_is_pair
  have k_are_moods := T.f_are_moods.kp
  have k_are_rules := T.f_are_rules.kp
  have k_is_pair := T.f_is_pair.kp
  refine def_ok (N := ["value"]) (k := 5) (fs := fs_is_folk) (Pc := fun c => True) T.f_is_folk sc_is_folk rfl rfl trivial fun cdv A outer s H E hc hr => ?_
  have nd := sc_is_folk.nd
  exact (dss_one (ds_ret (de_and (de_call (ok_is_pair T) (hr.mono (by decide)) g_is_pair k_is_pair b_is_pair (takes_of rfl rfl rfl rfl) (da_cons (de_var 0) da_nil)) (de_and (de_call (ok_are_moods T) (hr.mono (by decide)) g_are_moods k_are_moods b_are_moods (takes_of rfl rfl rfl rfl) (da_cons (de_item (de_var 0) de_int) da_nil)) (de_one (de_call (ok_are_rules T) (hr.mono (by decide)) g_are_rules k_are_rules b_are_rules (takes_of rfl rfl rfl rfl) (da_cons (de_item (de_var 0) de_int) (da_cons (de_item (de_var 0) de_int) da_nil))))))))
theorem ok_demand_folk (T : Txt K mg base Ts xa A cA pA Dd) : FnOk P w K mg base (L2.CX P w) 7 (A "demand_folk") (Dd "demand_folk") ["value"] (spD (TT K Ts xa) 1 F_demand_folk) := by
  have b_is_folk := b_is_folk T
  have g_is_folk := T.g_is_folk
  have k_is_folk := T.f_is_folk.kp
  have q_x_BadFolk := T.x_BadFolk
  refine def_ok (N := ["value"]) (k := 6) (fs := fs_demand_folk) (Pc := fun c => True) T.f_demand_folk sc_demand_folk rfl rfl trivial fun cdv A outer s H E hc hr => ?_
  have nd := sc_demand_folk.nd
  exact (dss_one (ds_if (dt_not (dt_val (de_call (ok_is_folk T) (hr.mono (by decide)) g_is_folk k_is_folk b_is_folk (takes_of rfl rfl rfl rfl) (da_cons (de_var 0) da_nil)))) (dss_one (ds_raise0 rfl (takes_of rfl rfl rfl rfl) (exf q_x_BadFolk))) dss_nil))
theorem ok_is_integer (T : Txt K mg base Ts xa A cA pA Dd) : FnOk P w K mg base (L2.CX P w) 2 (A "is_integer") (Dd "is_integer") ["value"] (spD (TT K Ts xa) 1 F_is_integer) := by
  have n_bool := T.n_bool
  have n_int := T.n_int
  have n_isinstance := T.n_isinstance
  refine def_ok (N := ["value"]) (k := 1) (fs := fs_is_integer) (Pc := fun c => True) T.f_is_integer sc_is_integer rfl rfl trivial fun cdv A outer s H E hc hr => ?_
  have nd := sc_is_integer.nd
  exact (dss_one (ds_ret (de_and (de_isi rfl n_isinstance n_int (by decide +kernel) rfl (de_var 0)) (de_one (de_not (de_isi rfl n_isinstance n_bool (by decide +kernel) rfl (de_var 0)))))))
theorem ok_is_crowd (T : Txt K mg base Ts xa A cA pA Dd) : FnOk P w K mg base (L2.CX P w) 4 (A "is_crowd") (Dd "is_crowd") ["folk", "value"] (spD (TT K Ts xa) 2 F_is_crowd) := by
  have b_is_integer := b_is_integer T
  have c_MOST_IN_A_MOOD := T.c_MOST_IN_A_MOOD
  have g_is_integer := T.g_is_integer
  have k_is_integer := T.f_is_integer.kp
  have n_all := T.n_all
  have n_isinstance := T.n_isinstance
  have n_len := T.n_len
  have n_tuple := T.n_tuple
  obtain ⟨hcd, TB, hP⟩ := T.t_is_crowd
  refine def_ok (N := ["folk", "value", "many"]) (k := 3) (fs := fs_is_crowd) (Pc := fun c => c = .ref (cA "is_crowd")) T.f_is_crowd sc_is_crowd rfl rfl hcd fun cdv A outer s H E hc hr => ?_
  have nd := sc_is_crowd.nd
  subst hc
  exact (dss_cons (ds_if (DW.dt (dw_or (dt_not (dt_val (de_isi rfl n_isinstance n_tuple (by decide +kernel) rfl (de_var 1)))) (dw_or1 (dt_ne (room_u65 hr) (de_len rfl n_len (da_cons (de_var 1) da_nil)) (de_len rfl n_len (da_cons (de_item (de_var 0) de_int) da_nil)))))) (dss_one (ds_ret de_bl)) dss_nil) (dss_one (ds_ret (de_quant (k := 2) (k0 := true) (own := [("many", 2)]) rfl (hr.mono (by decide)) nd rfl rfl n_all TB rfl hP (di_seq (de_var 1)) (by kernel_rfl) (fun _ _ _ _ _ _ _ hr1 => (dg_name 2 nd)) (fun _ _ _ _ _ _ _ hr1 => (de_and (de_call (ok_is_integer T) (hr1.mono (by decide)) g_is_integer k_is_integer b_is_integer takes0 (da_cons (de_var 2) da_nil)) (de_one (de_lele de_int (de_var 2) (de_globI c_MOST_IN_A_MOOD.choose_spec)))))))))
theorem ok_demand_crowd (T : Txt K mg base Ts xa A cA pA Dd) : FnOk P w K mg base (L2.CX P w) 5 (A "demand_crowd") (Dd "demand_crowd") ["folk", "value"] (spD (TT K Ts xa) 2 F_demand_crowd) := by
  have b_is_crowd := b_is_crowd T
  have g_is_crowd := T.g_is_crowd
  have k_is_crowd := T.f_is_crowd.kp
  have q_x_BadCrowd := T.x_BadCrowd
  refine def_ok (N := ["folk", "value"]) (k := 4) (fs := fs_demand_crowd) (Pc := fun c => True) T.f_demand_crowd sc_demand_crowd rfl rfl trivial fun cdv A outer s H E hc hr => ?_
  have nd := sc_demand_crowd.nd
  exact (dss_one (ds_if (dt_not (dt_val (de_call (ok_is_crowd T) (hr.mono (by decide)) g_is_crowd k_is_crowd b_is_crowd (takes_of rfl rfl rfl rfl) (da_cons (de_var 0) (da_cons (de_var 1) da_nil))))) (dss_one (ds_raise0 rfl (takes_of rfl rfl rfl rfl) (exf q_x_BadCrowd))) dss_nil))
theorem ok_numbers_of (T : Txt K mg base Ts xa A cA pA Dd) : FnOk P w K mg base (L2.CX P w) 2 (A "numbers_of") (Dd "numbers_of") ["moods", "two"] (spD (TT K Ts xa) 2 F_numbers_of) := by
  have n_tuple := T.n_tuple
  refine def_ok (N := ["moods", "two", "mood"]) (k := 1) (fs := fs_numbers_of) (Pc := fun c => True) T.f_numbers_of sc_numbers_of rfl rfl trivial fun cdv A outer s H E hc hr => ?_
  have nd := sc_numbers_of.nd
  exact (dss_one (ds_ret (de_tuple rfl n_tuple (da_cons (de_lc (own := [("mood", 2)]) rfl nd (di_seq (de_var 0)) (by kernel_rfl) (fun _ _ _ _ _ => (dg_name 2 nd)) (fun _ _ _ _ _ => dts_nil) (fun _ _ _ _ _ => (de_count rfl (de_var 1) (de_var 2)))) da_nil))))
theorem ok_can_be_used (T : Txt K mg base Ts xa A cA pA Dd) : FnOk P w K mg base (L2.CX P w) 3 (A "can_be_used") (Dd "can_be_used") ["folk", "crowd", "rule"] (spD (TT K Ts xa) 3 F_can_be_used) := by
  have b_numbers_of := b_numbers_of T
  have g_numbers_of := T.g_numbers_of
  have k_numbers_of := T.f_numbers_of.kp
  have n_all := T.n_all
  have n_zip := T.n_zip
  obtain ⟨hcd, TB, hP⟩ := T.t_can_be_used
  refine def_ok (N := ["folk", "crowd", "rule", "needed", "many", "need"]) (k := 2) (fs := fs_can_be_used) (Pc := fun c => c = .ref (cA "can_be_used")) T.f_can_be_used sc_can_be_used rfl rfl hcd fun cdv A outer s H E hc hr => ?_
  have nd := sc_can_be_used.nd
  subst hc
  exact (dss_cons (ds_if (dt_notIn (room_u65 hr) (de_var 2) (de_item (de_var 0) de_int)) (dss_one (ds_ret de_bl)) dss_nil) (dss_cons (ds_set 3 nd (de_call (ok_numbers_of T) (hr.mono (by decide)) g_numbers_of k_numbers_of b_numbers_of (takes_of rfl rfl rfl rfl) (da_cons (de_item (de_var 0) de_int) (da_cons (de_item (de_var 2) de_int) da_nil)))) (dss_one (ds_ret (de_quant (k := 1) (k0 := true) (own := [("many", 4), ("need", 5)]) rfl (hr.mono (by decide)) nd rfl rfl n_all TB rfl hP (di_zip2 rfl n_zip (da_cons (de_var 1) (da_cons (de_var 3) da_nil))) (by kernel_rfl) (fun _ _ _ _ _ _ _ hr1 => (dg_tup rfl (dgs_cons (dg_name 4 nd) (dgs_cons (dg_name 5 nd) dgs_nil)))) (fun _ _ _ _ _ _ _ hr1 => (de_ge (de_var 4) (de_var 5))))))))
theorem ok_meetings (T : Txt K mg base Ts xa A cA pA Dd) : FnOk P w K mg base (L2.CX P w) 8 (A "meetings") (Dd "meetings") ["folk", "crowd"] (spD (TT K Ts xa) 2 F_meetings) := by
  have b_can_be_used := b_can_be_used T
  have b_demand_crowd := b_demand_crowd T
  have b_demand_folk := b_demand_folk T
  have g_can_be_used := T.g_can_be_used
  have g_demand_crowd := T.g_demand_crowd
  have g_demand_folk := T.g_demand_folk
  have k_can_be_used := T.f_can_be_used.kp
  have k_demand_crowd := T.f_demand_crowd.kp
  have k_demand_folk := T.f_demand_folk.kp
  have n_tuple := T.n_tuple
  refine def_ok (N := ["folk", "crowd", "rule"]) (k := 7) (fs := fs_meetings) (Pc := fun c => True) T.f_meetings sc_meetings rfl rfl trivial fun cdv A outer s H E hc hr => ?_
  have nd := sc_meetings.nd
  exact (dss_cons (ds_expr (de_call (ok_demand_folk T) (hr.mono (by decide)) g_demand_folk k_demand_folk b_demand_folk (takes_of rfl rfl rfl rfl) (da_cons (de_var 0) da_nil))) (dss_cons (ds_expr (de_call (ok_demand_crowd T) (hr.mono (by decide)) g_demand_crowd k_demand_crowd b_demand_crowd (takes_of rfl rfl rfl rfl) (da_cons (de_var 0) (da_cons (de_var 1) da_nil)))) (dss_one (ds_ret (de_tuple rfl n_tuple (da_cons (de_lc (own := [("rule", 2)]) rfl nd (di_seq (de_item (de_var 0) de_int)) (by kernel_rfl) (fun _ _ _ _ _ => (dg_name 2 nd)) (fun _ _ _ _ _ => (dts_one (dt_val (de_call (ok_can_be_used T) (hr.mono (by decide)) g_can_be_used k_can_be_used b_can_be_used takes0 (da_cons (de_var 0) (da_cons (de_var 1) (da_cons (de_var 2) da_nil))))))) (fun _ _ _ _ _ => (de_var 2))) da_nil))))))
theorem ok_demand_room (T : Txt K mg base Ts xa A cA pA Dd) : FnOk P w K mg base (L2.CX P w) 3 (A "demand_room") (Dd "demand_room") ["crowd"] (spD (TT K Ts xa) 1 F_demand_room) := by
  have c_MOST_IN_A_MOOD := T.c_MOST_IN_A_MOOD
  have n_any := T.n_any
  have q_x_TooGreat := T.x_TooGreat
  obtain ⟨hcd, TB, hP⟩ := T.t_demand_room
  refine def_ok (N := ["crowd", "many"]) (k := 2) (fs := fs_demand_room) (Pc := fun c => c = .ref (cA "demand_room")) T.f_demand_room sc_demand_room rfl rfl hcd fun cdv A outer s H E hc hr => ?_
  have nd := sc_demand_room.nd
  subst hc
  exact (dss_one (ds_if (dt_val (de_quant (k := 1) (k0 := false) (own := [("many", 1)]) rfl (hr.mono (by decide)) nd rfl rfl n_any TB rfl hP (di_seq (de_var 0)) (by kernel_rfl) (fun _ _ _ _ _ _ _ hr1 => (dg_name 1 nd)) (fun _ _ _ _ _ _ _ hr1 => (de_gt (de_var 1) (de_globI c_MOST_IN_A_MOOD.choose_spec))))) (dss_one (ds_raise0 rfl (takes_of rfl rfl rfl rfl) (exf q_x_TooGreat))) dss_nil))
theorem ok_behind_rule (T : Txt K mg base Ts xa A cA pA Dd) : FnOk P w K mg base (L2.CX P w) 3 (A "behind_rule") (Dd "behind_rule") ["folk", "crowd", "rule"] (spD (TT K Ts xa) 3 F_behind_rule) := by
  have b_numbers_of := b_numbers_of T
  have g_numbers_of := T.g_numbers_of
  have k_numbers_of := T.f_numbers_of.kp
  have n_tuple := T.n_tuple
  have n_zip := T.n_zip
  refine def_ok (N := ["folk", "crowd", "rule", "gone", "come", "many", "less", "more"]) (k := 2) (fs := fs_behind_rule) (Pc := fun c => True) T.f_behind_rule sc_behind_rule rfl rfl trivial fun cdv A outer s H E hc hr => ?_
  have nd := sc_behind_rule.nd
  exact (dss_cons (ds_set 3 nd (de_call (ok_numbers_of T) (hr.mono (by decide)) g_numbers_of k_numbers_of b_numbers_of (takes_of rfl rfl rfl rfl) (da_cons (de_item (de_var 0) de_int) (da_cons (de_item (de_var 2) de_int) da_nil)))) (dss_cons (ds_set 4 nd (de_call (ok_numbers_of T) (hr.mono (by decide)) g_numbers_of k_numbers_of b_numbers_of (takes_of rfl rfl rfl rfl) (da_cons (de_item (de_var 0) de_int) (da_cons (de_item (de_var 2) de_int) da_nil)))) (dss_one (ds_ret (de_tuple rfl n_tuple (da_cons (de_lc (own := [("many", 5), ("less", 6), ("more", 7)]) rfl nd (di_zip3 rfl n_zip (da_cons (de_var 1) (da_cons (de_var 3) (da_cons (de_var 4) da_nil)))) (by kernel_rfl) (fun _ _ _ _ _ => (dg_tup rfl (dgs_cons (dg_name 5 nd) (dgs_cons (dg_name 6 nd) (dgs_cons (dg_name 7 nd) dgs_nil))))) (fun _ _ _ _ _ => dts_nil) (fun _ _ _ _ _ => (de_plus (de_sub (de_var 5) (de_var 6)) (de_var 7)))) da_nil))))))
theorem ok_met (T : Txt K mg base Ts xa A cA pA Dd) : FnOk P w K mg base (L2.CX P w) 8 (A "met") (Dd "met") ["folk", "crowd", "rule"] (spD (TT K Ts xa) 3 F_met) := by
  have b_behind_rule := b_behind_rule T
  have b_can_be_used := b_can_be_used T
  have b_demand_crowd := b_demand_crowd T
  have b_demand_folk := b_demand_folk T
  have b_demand_room := b_demand_room T
  have g_behind_rule := T.g_behind_rule
  have g_can_be_used := T.g_can_be_used
  have g_demand_crowd := T.g_demand_crowd
  have g_demand_folk := T.g_demand_folk
  have g_demand_room := T.g_demand_room
  have k_behind_rule := T.f_behind_rule.kp
  have k_can_be_used := T.f_can_be_used.kp
  have k_demand_crowd := T.f_demand_crowd.kp
  have k_demand_folk := T.f_demand_folk.kp
  have k_demand_room := T.f_demand_room.kp
  have q_x_BadRule := T.x_BadRule
  refine def_ok (N := ["folk", "crowd", "rule", "behind"]) (k := 7) (fs := fs_met) (Pc := fun c => True) T.f_met sc_met rfl rfl trivial fun cdv A outer s H E hc hr => ?_
  have nd := sc_met.nd
  exact (dss_cons (ds_expr (de_call (ok_demand_folk T) (hr.mono (by decide)) g_demand_folk k_demand_folk b_demand_folk (takes_of rfl rfl rfl rfl) (da_cons (de_var 0) da_nil))) (dss_cons (ds_expr (de_call (ok_demand_crowd T) (hr.mono (by decide)) g_demand_crowd k_demand_crowd b_demand_crowd (takes_of rfl rfl rfl rfl) (da_cons (de_var 0) (da_cons (de_var 1) da_nil)))) (dss_cons (ds_if (dt_not (dt_val (de_call (ok_can_be_used T) (hr.mono (by decide)) g_can_be_used k_can_be_used b_can_be_used (takes_of rfl rfl rfl rfl) (da_cons (de_var 0) (da_cons (de_var 1) (da_cons (de_var 2) da_nil)))))) (dss_one (ds_raise0 rfl (takes_of rfl rfl rfl rfl) (exf q_x_BadRule))) dss_nil) (dss_cons (ds_set 3 nd (de_call (ok_behind_rule T) (hr.mono (by decide)) g_behind_rule k_behind_rule b_behind_rule (takes_of rfl rfl rfl rfl) (da_cons (de_var 0) (da_cons (de_var 1) (da_cons (de_var 2) da_nil))))) (dss_cons (ds_expr (de_call (ok_demand_room T) (hr.mono (by decide)) g_demand_room k_demand_room b_demand_room (takes_of rfl rfl rfl rfl) (da_cons (de_var 3) da_nil))) (dss_one (ds_ret (de_var 3))))))))
theorem ok_is_at_rest (T : Txt K mg base Ts xa A cA pA Dd) : FnOk P w K mg base (L2.CX P w) 9 (A "is_at_rest") (Dd "is_at_rest") ["folk", "crowd"] (spD (TT K Ts xa) 2 F_is_at_rest) := by
  have b_meetings := b_meetings T
  have g_meetings := T.g_meetings
  have k_meetings := T.f_meetings.kp
  have n_len := T.n_len
  refine def_ok (N := ["folk", "crowd"]) (k := 8) (fs := fs_is_at_rest) (Pc := fun c => True) T.f_is_at_rest sc_is_at_rest rfl rfl trivial fun cdv A outer s H E hc hr => ?_
  have nd := sc_is_at_rest.nd
  exact (dss_one (ds_ret (de_eq (room_u65 hr) (de_len rfl n_len (da_cons (de_call (ok_meetings T) (hr.mono (by decide)) g_meetings k_meetings b_meetings (takes_of rfl rfl rfl rfl) (da_cons (de_var 0) (da_cons (de_var 1) da_nil))) da_nil)) de_int)))
theorem ok_behind_row (T : Txt K mg base Ts xa A cA pA Dd) : FnOk P w K mg base (L2.CX P w) 4 (A "behind_row") (Dd "behind_row") ["folk", "crowd", "row"] (spD (TT K Ts xa) 3 F_behind_row) := by
  have b_behind_rule := b_behind_rule T
  have b_can_be_used := b_can_be_used T
  have g_behind_rule := T.g_behind_rule
  have g_can_be_used := T.g_can_be_used
  have k_behind_rule := T.f_behind_rule.kp
  have k_can_be_used := T.f_can_be_used.kp
  have n_isinstance := T.n_isinstance
  have n_tuple := T.n_tuple
  refine def_ok (N := ["folk", "crowd", "row", "rule"]) (k := 3) (fs := fs_behind_row) (Pc := fun c => True) T.f_behind_row sc_behind_row rfl rfl trivial fun cdv A outer s H E hc hr => ?_
  have nd := sc_behind_row.nd
  exact (dss_cons (ds_if (dt_not (dt_val (de_isi rfl n_isinstance n_tuple (by decide +kernel) rfl (de_var 2)))) (dss_one (ds_ret de_non)) dss_nil) (dss_cons (ds_for (us := [3]) (passes_of rfl) rfl (di_seq (de_var 2)) (dg_name 3 nd) (dss_cons (ds_if (dt_not (dt_val (de_call (ok_can_be_used T) (hr.mono (by decide)) g_can_be_used k_can_be_used b_can_be_used (takes_of rfl rfl rfl rfl) (da_cons (de_var 0) (da_cons (de_var 1) (da_cons (de_var 3) da_nil)))))) (dss_one (ds_ret de_non)) dss_nil) (dss_one (ds_set 1 nd (de_call (ok_behind_rule T) (hr.mono (by decide)) g_behind_rule k_behind_rule b_behind_rule (takes_of rfl rfl rfl rfl) (da_cons (de_var 0) (da_cons (de_var 1) (da_cons (de_var 3) da_nil)))))))) (dss_one (ds_ret (de_var 1)))))
theorem ok_met_all (T : Txt K mg base Ts xa A cA pA Dd) : FnOk P w K mg base (L2.CX P w) 8 (A "met_all") (Dd "met_all") ["folk", "crowd", "row"] (spD (TT K Ts xa) 3 F_met_all) := by
  have b_behind_row := b_behind_row T
  have b_demand_crowd := b_demand_crowd T
  have b_demand_folk := b_demand_folk T
  have b_demand_room := b_demand_room T
  have g_behind_row := T.g_behind_row
  have g_demand_crowd := T.g_demand_crowd
  have g_demand_folk := T.g_demand_folk
  have g_demand_room := T.g_demand_room
  have k_behind_row := T.f_behind_row.kp
  have k_demand_crowd := T.f_demand_crowd.kp
  have k_demand_folk := T.f_demand_folk.kp
  have k_demand_room := T.f_demand_room.kp
  have q_x_BadRow := T.x_BadRow
  refine def_ok (N := ["folk", "crowd", "row", "behind"]) (k := 7) (fs := fs_met_all) (Pc := fun c => True) T.f_met_all sc_met_all rfl rfl trivial fun cdv A outer s H E hc hr => ?_
  have nd := sc_met_all.nd
  exact (dss_cons (ds_expr (de_call (ok_demand_folk T) (hr.mono (by decide)) g_demand_folk k_demand_folk b_demand_folk (takes_of rfl rfl rfl rfl) (da_cons (de_var 0) da_nil))) (dss_cons (ds_expr (de_call (ok_demand_crowd T) (hr.mono (by decide)) g_demand_crowd k_demand_crowd b_demand_crowd (takes_of rfl rfl rfl rfl) (da_cons (de_var 0) (da_cons (de_var 1) da_nil)))) (dss_cons (ds_set 3 nd (de_call (ok_behind_row T) (hr.mono (by decide)) g_behind_row k_behind_row b_behind_row (takes_of rfl rfl rfl rfl) (da_cons (de_var 0) (da_cons (de_var 1) (da_cons (de_var 2) da_nil))))) (dss_cons (ds_if (dt_is (de_var 3) de_non) (dss_one (ds_raise0 rfl (takes_of rfl rfl rfl rfl) (exf q_x_BadRow))) dss_nil) (dss_cons (ds_expr (de_call (ok_demand_room T) (hr.mono (by decide)) g_demand_room k_demand_room b_demand_room (takes_of rfl rfl rfl rfl) (da_cons (de_var 3) da_nil))) (dss_one (ds_ret (de_var 3))))))))
theorem ok__law_taken (T : Txt K mg base Ts xa A cA pA Dd) : FnOk P w K mg base (L2.CX P w) 2 (A "_law_taken") (Dd "_law_taken") ["row", "many"] (spD (TT K Ts xa) 2 F__law_taken) := by
  have n_int := T.n_int
  have n_len := T.n_len
  refine def_ok (N := ["row", "many", "cell", "found"]) (k := 1) (fs := fs__law_taken) (Pc := fun c => True) T.f__law_taken sc__law_taken rfl rfl trivial fun cdv A outer s H E hc hr => ?_
  have nd := sc__law_taken.nd
  exact (dss_cons (ds_if (dt_gt (de_item (de_var 0) de_int) de_int) (dss_cons (ds_set 3 nd (de_mod (de_toInt rfl n_int (da_cons (de_item (de_var 0) de_int) da_nil)) (de_var 1))) (dss_cons (ds_put (de_div (de_item (de_var 0) de_int) (de_var 1)) (de_var 0) de_int) (dss_one (ds_ret (de_var 3))))) dss_nil) (dss_cons (ds_put (de_plus (de_item (de_var 0) de_int) de_int) (de_var 0) de_int) (dss_cons (ds_if (dt_gt (de_item (de_var 0) de_int) (de_len rfl n_len (da_cons (de_item (de_var 0) de_int) da_nil))) (dss_cons (ds_put (de_mod (de_toInt rfl n_int (da_cons (de_plus (de_mul (de_item (de_var 0) de_int) de_int) de_int) da_nil)) de_int) (de_var 0) de_int) (dss_one (ds_ret (de_mod (de_toInt rfl n_int (da_cons (de_div (de_item (de_var 0) de_int) de_int) da_nil)) (de_var 1))))) dss_nil) (dss_cons (ds_set 2 nd (de_item (de_item (de_var 0) de_int) (de_sub (de_item (de_var 0) de_int) de_int))) (dss_cons (ds_put (de_mod (de_toInt rfl n_int (da_cons (de_plus (de_plus (de_mul (de_item (de_var 0) de_int) de_int) (de_var 2)) de_int) da_nil)) de_int) (de_var 0) de_int) (dss_cons (ds_if (dt_ge (de_var 2) (de_pow de_int de_int)) (dss_one (ds_put (de_div (de_var 2) (de_var 1)) (de_var 0) de_int)) dss_nil) (dss_one (ds_ret (de_mod (de_toInt rfl n_int (da_cons (de_var 2) da_nil)) (de_var 1))))))))))
theorem ok__law_pick (T : Txt K mg base Ts xa A cA pA Dd) : FnOk P w K mg base (L2.CX P w) 3 (A "_law_pick") (Dd "_law_pick") ["row", "things"] (spD (TT K Ts xa) 2 F__law_pick) := by
  have b__law_taken := b__law_taken T
  have g__law_taken := T.g__law_taken
  have k__law_taken := T.f__law_taken.kp
  have n_len := T.n_len
  refine def_ok (N := ["row", "things"]) (k := 2) (fs := fs__law_pick) (Pc := fun c => True) T.f__law_pick sc__law_pick rfl rfl trivial fun cdv A outer s H E hc hr => ?_
  have nd := sc__law_pick.nd
  exact (dss_one (ds_ret (de_item (de_var 1) (de_call (ok__law_taken T) (hr.mono (by decide)) g__law_taken k__law_taken b__law_taken (takes_of rfl rfl rfl rfl) (da_cons (de_var 0) (da_cons (de_len rfl n_len (da_cons (de_var 1) da_nil)) da_nil))))))
theorem okS__law_alike (T : Txt K mg base Ts xa A cA pA Dd) {F : List W → Sto → R W} {j k : Nat} (hj : j ≤ k) (h0 : 1 ≤ k) (IH : FnOk P w K mg base (L2.CX P w) j (A "_law_alike") (Dd "_law_alike") ["found", "due"] (spD (TT K Ts xa) 2 F)) : FnOk P w K mg base (L2.CX P w) (k + 1) (A "_law_alike") (Dd "_law_alike") ["found", "due"] (spD (TT K Ts xa) 2 (runD 4 (fs__law_alike F))) := by
  have b__law_alike := b__law_alike T
  have g__law_alike := T.g__law_alike
  have k__law_alike := T.f__law_alike.kp
  have n_bool := T.n_bool
  have n_dict := T.n_dict
  have n_int := T.n_int
  have n_isinstance := T.n_isinstance
  have n_len := T.n_len
  have n_list := T.n_list
  have n_range := T.n_range
  have n_str := T.n_str
  have n_tuple := T.n_tuple
  refine def_ok (N := ["found", "due", "k", "key"]) (k := k) (fs := (fs__law_alike F)) (Pc := fun c => True) T.f__law_alike sc__law_alike rfl rfl trivial fun cdv A outer s H E hc hr => ?_
  have nd := sc__law_alike.nd
  have hrec := hr.mono hj
  exact (dss_cons (ds_if (dt_val (de_isi2 rfl n_isinstance n_tuple (by decide +kernel) rfl n_list (by decide +kernel) rfl (de_var 1))) (dss_cons (ds_if (DW.dt (dw_or (dt_not (dt_val (de_isi2 rfl n_isinstance n_tuple (by decide +kernel) rfl n_list (by decide +kernel) rfl (de_var 0)))) (dw_or1 (dt_ne (room_u65 hr) (de_isi rfl n_isinstance n_list (by decide +kernel) rfl (de_var 0)) (de_isi rfl n_isinstance n_list (by decide +kernel) rfl (de_var 1)))))) (dss_one (ds_ret de_bl)) dss_nil) (dss_cons (ds_if (dt_ne (room_u65 hr) (de_len rfl n_len (da_cons (de_var 0) da_nil)) (de_len rfl n_len (da_cons (de_var 1) da_nil))) (dss_one (ds_ret de_bl)) dss_nil) (dss_one (ds_ret (de_eq (room_u65 hr) (de_lc (own := [("k", 2)]) rfl nd (di_rng1 rfl n_range (da_cons (de_len rfl n_len (da_cons (de_var 1) da_nil)) da_nil)) (by kernel_rfl) (fun _ _ _ _ _ => (dg_name 2 nd)) (fun _ _ _ _ _ => (dts_one (dt_not (dt_val (de_call IH hrec g__law_alike k__law_alike b__law_alike takes0 (da_cons (de_item (de_var 0) (de_var 2)) (da_cons (de_item (de_var 1) (de_var 2)) da_nil))))))) (fun _ _ _ _ _ => (de_var 2))) (de_lst da_nil)))))) dss_nil) (dss_cons (ds_if (dt_val (de_isi rfl n_isinstance n_dict (by decide +kernel) rfl (de_var 1))) dss_dead dss_nil) (dss_cons (ds_if (DW.dt (dw_or (dt_is (de_var 1) de_non) (dw_or1 (dt_val (de_isi rfl n_isinstance n_str (by decide +kernel) rfl (de_var 1)))))) (dss_one (ds_ret (de_and (de_eq (room_u65 hr) (de_var 0) (de_var 1)) (de_one (de_eq (room_u65 hr) (de_isi rfl n_isinstance n_str (by decide +kernel) rfl (de_var 0)) (de_isi rfl n_isinstance n_str (by decide +kernel) rfl (de_var 1))))))) dss_nil) (dss_one (ds_ret (de_and (de_isi rfl n_isinstance n_int (by decide +kernel) rfl (de_var 0)) (de_and (de_eq (room_u65 hr) (de_isi rfl n_isinstance n_bool (by decide +kernel) rfl (de_var 0)) (de_isi rfl n_isinstance n_bool (by decide +kernel) rfl (de_var 1))) (de_one (de_eq (room_u65 hr) (de_var 0) (de_var 1))))))))))
theorem okJ__law_alike (T : Txt K mg base Ts xa A cA pA Dd) : ∀ j, FnOk P w K mg base (L2.CX P w) (2 + j) (A "_law_alike") (Dd "_law_alike") ["found", "due"] (spD (TT K Ts xa) 2 (FJ__law_alike j))
  | 0 => fn_bad rfl
  | j + 1 => okS__law_alike T (Nat.le_refl _) (Nat.le_trans (Nat.le_succ _) (Nat.le_add_right _ _)) (okJ__law_alike T j)
theorem ok__law_alike (T : Txt K mg base Ts xa A cA pA Dd) : FnOk P w K mg base (L2.CX P w) 10 (A "_law_alike") (Dd "_law_alike") ["found", "due"] (spD (TT K Ts xa) 2 F__law_alike) := okJ__law_alike T 8
theorem ok__law_two (T : Txt K mg base Ts xa A cA pA Dd) : FnOk P w K mg base (L2.CX P w) 4 (A "_law_two") (Dd "_law_two") ["row", "moods"] (spD (TT K Ts xa) 2 F__law_two) := by
  have b__law_pick := b__law_pick T
  have g__law_pick := T.g__law_pick
  have k__law_pick := T.f__law_pick.kp
  have n_list := T.n_list
  have n_sorted := T.n_sorted
  refine def_ok (N := ["row", "moods"]) (k := 3) (fs := fs__law_two) (Pc := fun c => True) T.f__law_two sc__law_two rfl rfl trivial fun cdv A outer s H E hc hr => ?_
  have nd := sc__law_two.nd
  exact (dss_one (ds_ret (de_join rfl de_str (de_sortedS rfl n_sorted (da_cons (de_lst (da_cons (de_call (ok__law_pick T) (hr.mono (by decide)) g__law_pick k__law_pick b__law_pick (takes_of rfl rfl rfl rfl) (da_cons (de_var 0) (da_cons (de_list rfl rfl n_list (da_cons (de_var 1) da_nil)) da_nil))) (da_cons (de_call (ok__law_pick T) (hr.mono (by decide)) g__law_pick k__law_pick b__law_pick (takes_of rfl rfl rfl rfl) (da_cons (de_var 0) (da_cons (de_list rfl rfl n_list (da_cons (de_var 1) da_nil)) da_nil))) da_nil))) da_nil)))))
theorem ok__law_moods (T : Txt K mg base Ts xa A cA pA Dd) : FnOk P w K mg base (L2.CX P w) 4 (A "_law_moods") (Dd "_law_moods") ["row"] (spD (TT K Ts xa) 1 F__law_moods) := by
  have b__law_pick := b__law_pick T
  have g__law_pick := T.g__law_pick
  have k__law_pick := T.f__law_pick.kp
  refine def_ok (N := ["row"]) (k := 3) (fs := fs__law_moods) (Pc := fun c => True) T.f__law_moods sc__law_moods rfl rfl trivial fun cdv A outer s H E hc hr => ?_
  have nd := sc__law_moods.nd
  exact (dss_one (ds_ret (de_call (ok__law_pick T) (hr.mono (by decide)) g__law_pick k__law_pick b__law_pick (takes_of rfl rfl rfl rfl) (da_cons (de_var 0) (da_cons (de_lst (da_cons de_str (da_cons de_str (da_cons de_str (da_cons de_str (da_cons de_str (da_cons de_str (da_cons de_str (da_cons de_str (da_cons de_str (da_cons de_str da_nil))))))))))) da_nil)))))
theorem ok__law_weight (T : Txt K mg base Ts xa A cA pA Dd) : FnOk P w K mg base (L2.CX P w) 2 (A "_law_weight") (Dd "_law_weight") ["moods", "told", "text"] (spD (TT K Ts xa) 3 F__law_weight) := by
  have n_sum := T.n_sum
  refine def_ok (N := ["moods", "told", "text", "mood"]) (k := 1) (fs := fs__law_weight) (Pc := fun c => True) T.f__law_weight sc__law_weight rfl rfl trivial fun cdv A outer s H E hc hr => ?_
  have nd := sc__law_weight.nd
  exact (dss_one (ds_ret (de_sum rfl rfl n_sum (da_cons (de_lc (own := [("mood", 3)]) rfl nd (di_seq (de_var 2)) (by kernel_rfl) (fun _ _ _ _ _ => (dg_name 3 nd)) (fun _ _ _ _ _ => dts_nil) (fun _ _ _ _ _ => (de_item (de_var 1) (de_index rfl (de_var 0) (de_var 3))))) da_nil))))
theorem ok__law_folk (T : Txt K mg base Ts xa A cA pA Dd) : FnOk P w K mg base (L2.CX P w) 5 (A "_law_folk") (Dd "_law_folk") ["row", "most"] (spD (TT K Ts xa) 2 F__law_folk) := by
  have b__law_moods := b__law_moods T
  have b__law_taken := b__law_taken T
  have b__law_two := b__law_two T
  have b__law_weight := b__law_weight T
  have g__law_moods := T.g__law_moods
  have g__law_taken := T.g__law_taken
  have g__law_two := T.g__law_two
  have g__law_weight := T.g__law_weight
  have k__law_moods := T.f__law_moods.kp
  have k__law_taken := T.f__law_taken.kp
  have k__law_two := T.f__law_two.kp
  have k__law_weight := T.f__law_weight.kp
  have n_range := T.n_range
  have n_tuple := T.n_tuple
  refine def_ok (N := ["row", "most", "turn", "moods", "rules", "told", "way", "is_loss", "one", "other", "mood"]) (k := 4) (fs := fs__law_folk) (Pc := fun c => True) T.f__law_folk sc__law_folk rfl rfl trivial fun cdv A outer s H E hc hr => ?_
  have nd := sc__law_folk.nd
  exact (dss_cons (ds_par 3 4 rfl nd (da_cons (de_call (ok__law_moods T) (hr.mono (by decide)) g__law_moods k__law_moods b__law_moods (takes_of rfl rfl rfl rfl) (da_cons (de_var 0) da_nil)) (da_cons (de_lstM da_nil) da_nil))) (dss_cons (ds_par 5 6 rfl nd (da_cons (de_lc (own := [("mood", 10)]) rfl nd (di_seq (de_var 3)) (by kernel_rfl) (fun _ _ _ _ _ => (dg_name 10 nd)) (fun _ _ _ _ _ => dts_nil) (fun _ _ _ _ _ => (de_call (ok__law_taken T) (hr.mono (by decide)) g__law_taken k__law_taken b__law_taken takes0 (da_cons (de_var 0) (da_cons de_int da_nil))))) (da_cons (de_call (ok__law_taken T) (hr.mono (by decide)) g__law_taken k__law_taken b__law_taken (takes_of rfl rfl rfl rfl) (da_cons (de_var 0) (da_cons de_int da_nil))) da_nil))) (dss_cons (ds_for (us := [2]) (passes_of rfl) rfl (di_rng1 rfl n_range (da_cons (de_call (ok__law_taken T) (hr.mono (by decide)) g__law_taken k__law_taken b__law_taken (takes_of rfl rfl rfl rfl) (da_cons (de_var 0) (da_cons (de_plus (de_var 1) de_int) da_nil))) da_nil)) (dg_name 2 nd) (dss_cons (ds_par 8 9 rfl nd (da_cons (de_call (ok__law_two T) (hr.mono (by decide)) g__law_two k__law_two b__law_two (takes_of rfl rfl rfl rfl) (da_cons (de_var 0) (da_cons (de_var 3) da_nil))) (da_cons (de_call (ok__law_two T) (hr.mono (by decide)) g__law_two k__law_two b__law_two (takes_of rfl rfl rfl rfl) (da_cons (de_var 0) (da_cons (de_var 3) da_nil))) da_nil))) (dss_cons (ds_if (DW.dt (dw_and (dt_gt (de_var 6) de_int) (dw_and1 (dt_lt (de_call (ok__law_weight T) (hr.mono (by decide)) g__law_weight k__law_weight b__law_weight (takes_of rfl rfl rfl rfl) (da_cons (de_var 3) (da_cons (de_var 5) (da_cons (de_var 8) da_nil)))) (de_call (ok__law_weight T) (hr.mono (by decide)) g__law_weight k__law_weight b__law_weight (takes_of rfl rfl rfl rfl) (da_cons (de_var 3) (da_cons (de_var 5) (da_cons (de_var 9) da_nil)))))))) (dss_one (ds_par 8 9 rfl nd (da_cons (de_var 9) (da_cons (de_var 8) da_nil)))) dss_nil) (dss_cons (ds_set 7 nd (de_or (de_eq (room_u65 hr) (de_var 6) de_int) (de_one (de_gt (de_call (ok__law_weight T) (hr.mono (by decide)) g__law_weight k__law_weight b__law_weight (takes_of rfl rfl rfl rfl) (da_cons (de_var 3) (da_cons (de_var 5) (da_cons (de_var 8) da_nil)))) (de_call (ok__law_weight T) (hr.mono (by decide)) g__law_weight k__law_weight b__law_weight (takes_of rfl rfl rfl rfl) (da_cons (de_var 3) (da_cons (de_var 5) (da_cons (de_var 9) da_nil)))))))) (dss_one (ds_if (DW.dt (dw_and (dt_ne (room_u65 hr) (de_var 8) (de_var 9)) (dw_and (dt_notIn (room_u65 hr) (de_tup (da_cons (de_var 8) (da_cons (de_var 9) da_nil))) (de_var 4)) (dw_and1 (dt_val (de_var 7)))))) (dss_one (ds_expr (de_append rfl (de_var 4) (da_cons (de_tup (da_cons (de_var 8) (da_cons (de_var 9) da_nil))) da_nil)))) dss_nil)))))) (dss_one (ds_ret (de_tup (da_cons (de_var 3) (da_cons (de_tuple rfl n_tuple (da_cons (de_var 4) da_nil)) da_nil))))))))
theorem ok__law_counts (T : Txt K mg base Ts xa A cA pA Dd) : FnOk P w K mg base (L2.CX P w) 2 (A "_law_counts") (Dd "_law_counts") ["moods", "text"] (spD (TT K Ts xa) 2 F__law_counts) := by
  have n_len := T.n_len
  have n_tuple := T.n_tuple
  refine def_ok (N := ["moods", "text", "mood", "sign"]) (k := 1) (fs := fs__law_counts) (Pc := fun c => True) T.f__law_counts sc__law_counts rfl rfl trivial fun cdv A outer s H E hc hr => ?_
  have nd := sc__law_counts.nd
  exact (dss_one (ds_ret (de_tuple rfl n_tuple (da_cons (de_lc (own := [("mood", 2)]) rfl nd (di_seq (de_var 0)) (by kernel_rfl) (fun _ _ _ _ _ => (dg_name 2 nd)) (fun _ _ _ _ _ => dts_nil) (fun _ _ _ _ _ => (de_len rfl n_len (da_cons (de_lc (own := [("sign", 3)]) rfl nd (di_seq (de_var 1)) (by kernel_rfl) (fun _ _ _ _ _ => (dg_name 3 nd)) (fun _ _ _ _ _ => (dts_one (dt_eq (room_u65 hr) (de_var 3) (de_var 2)))) (fun _ _ _ _ _ => de_int)) da_nil)))) da_nil))))
theorem ok__law_usable (T : Txt K mg base Ts xa A cA pA Dd) : FnOk P w K mg base (L2.CX P w) 3 (A "_law_usable") (Dd "_law_usable") ["folk", "crowd"] (spD (TT K Ts xa) 2 F__law_usable) := by
  have b__law_counts := b__law_counts T
  have g__law_counts := T.g__law_counts
  have k__law_counts := T.f__law_counts.kp
  have n_int := T.n_int
  have n_zip := T.n_zip
  refine def_ok (N := ["folk", "crowd", "found", "rule", "need", "many", "one"]) (k := 2) (fs := fs__law_usable) (Pc := fun c => True) T.f__law_usable sc__law_usable rfl rfl trivial fun cdv A outer s H E hc hr => ?_
  have nd := sc__law_usable.nd
  exact (dss_cons (ds_set 2 nd (de_lst da_nil)) (dss_cons (ds_for (us := [3]) (passes_of rfl) rfl (di_seq (de_item (de_var 0) de_int)) (dg_name 3 nd) (dss_cons (ds_set 4 nd (de_call (ok__law_counts T) (hr.mono (by decide)) g__law_counts k__law_counts b__law_counts (takes_of rfl rfl rfl rfl) (da_cons (de_item (de_var 0) de_int) (da_cons (de_item (de_var 3) de_int) da_nil)))) (dss_one (ds_set 2 nd (de_plus (de_var 2) (de_rep (da_cons (de_var 3) da_nil) (de_toInt rfl n_int (da_cons (de_eq (room_u65 hr) (de_lc (own := [("many", 5), ("one", 6)]) rfl nd (di_zip2 rfl n_zip (da_cons (de_var 1) (da_cons (de_var 4) da_nil))) (by kernel_rfl) (fun _ _ _ _ _ => (dg_tup rfl (dgs_cons (dg_name 5 nd) (dgs_cons (dg_name 6 nd) dgs_nil)))) (fun _ _ _ _ _ => (dts_one (dt_lt (de_var 5) (de_var 6)))) (fun _ _ _ _ _ => de_int)) (de_lst da_nil)) da_nil)))))))) (dss_one (ds_ret (de_var 2)))))
theorem ok__law_behind (T : Txt K mg base Ts xa A cA pA Dd) : FnOk P w K mg base (L2.CX P w) 3 (A "_law_behind") (Dd "_law_behind") ["folk", "crowd", "rule"] (spD (TT K Ts xa) 3 F__law_behind) := by
  have b__law_counts := b__law_counts T
  have g__law_counts := T.g__law_counts
  have k__law_counts := T.f__law_counts.kp
  have n_tuple := T.n_tuple
  have n_zip := T.n_zip
  refine def_ok (N := ["folk", "crowd", "rule", "old", "new", "many", "one", "other"]) (k := 2) (fs := fs__law_behind) (Pc := fun c => True) T.f__law_behind sc__law_behind rfl rfl trivial fun cdv A outer s H E hc hr => ?_
  have nd := sc__law_behind.nd
  exact (dss_cons (ds_par 3 4 rfl nd (da_cons (de_call (ok__law_counts T) (hr.mono (by decide)) g__law_counts k__law_counts b__law_counts (takes_of rfl rfl rfl rfl) (da_cons (de_item (de_var 0) de_int) (da_cons (de_item (de_var 2) de_int) da_nil))) (da_cons (de_call (ok__law_counts T) (hr.mono (by decide)) g__law_counts k__law_counts b__law_counts (takes_of rfl rfl rfl rfl) (da_cons (de_item (de_var 0) de_int) (da_cons (de_item (de_var 2) de_int) da_nil))) da_nil))) (dss_one (ds_ret (de_tuple rfl n_tuple (da_cons (de_lc (own := [("many", 5), ("one", 6), ("other", 7)]) rfl nd (di_zip3 rfl n_zip (da_cons (de_var 1) (da_cons (de_var 3) (da_cons (de_var 4) da_nil)))) (by kernel_rfl) (fun _ _ _ _ _ => (dg_tup rfl (dgs_cons (dg_name 5 nd) (dgs_cons (dg_name 6 nd) (dgs_cons (dg_name 7 nd) dgs_nil))))) (fun _ _ _ _ _ => dts_nil) (fun _ _ _ _ _ => (de_plus (de_sub (de_var 5) (de_var 6)) (de_var 7)))) da_nil)))))
theorem ok__law_led (T : Txt K mg base Ts xa A cA pA Dd) : FnOk P w K mg base (L2.CX P w) 4 (A "_law_led") (Dd "_law_led") ["folk", "crowd", "told"] (spD (TT K Ts xa) 3 F__law_led) := by
  have b__law_behind := b__law_behind T
  have b__law_usable := b__law_usable T
  have g__law_behind := T.g__law_behind
  have g__law_usable := T.g__law_usable
  have k__law_behind := T.f__law_behind.kp
  have k__law_usable := T.f__law_usable.kp
  refine def_ok (N := ["folk", "crowd", "told", "rule"]) (k := 3) (fs := fs__law_led) (Pc := fun c => True) T.f__law_led sc__law_led rfl rfl trivial fun cdv A outer s H E hc hr => ?_
  have nd := sc__law_led.nd
  exact (dss_cons (ds_for (us := [3]) (passes_of rfl) rfl (di_seq (de_var 2)) (dg_name 3 nd) (dss_cons (ds_if (dt_notIn (room_u65 hr) (de_var 3) (de_call (ok__law_usable T) (hr.mono (by decide)) g__law_usable k__law_usable b__law_usable (takes_of rfl rfl rfl rfl) (da_cons (de_var 0) (da_cons (de_var 1) da_nil)))) (dss_one (ds_ret de_non)) dss_nil) (dss_one (ds_set 1 nd (de_call (ok__law_behind T) (hr.mono (by decide)) g__law_behind k__law_behind b__law_behind (takes_of rfl rfl rfl rfl) (da_cons (de_var 0) (da_cons (de_var 1) (da_cons (de_var 3) da_nil)))))))) (dss_one (ds_ret (de_var 1))))
theorem ok__law_crowd (T : Txt K mg base Ts xa A cA pA Dd) : FnOk P w K mg base (L2.CX P w) 4 (A "_law_crowd") (Dd "_law_crowd") ["row", "folk", "most"] (spD (TT K Ts xa) 3 F__law_crowd) := by
  have b__law_counts := b__law_counts T
  have b__law_pick := b__law_pick T
  have b__law_taken := b__law_taken T
  have g__law_counts := T.g__law_counts
  have g__law_pick := T.g__law_pick
  have g__law_taken := T.g__law_taken
  have k__law_counts := T.f__law_counts.kp
  have k__law_pick := T.f__law_pick.kp
  have k__law_taken := T.f__law_taken.kp
  have n_list := T.n_list
  have n_range := T.n_range
  refine def_ok (N := ["row", "folk", "most", "turn"]) (k := 3) (fs := fs__law_crowd) (Pc := fun c => True) T.f__law_crowd sc__law_crowd rfl rfl trivial fun cdv A outer s H E hc hr => ?_
  have nd := sc__law_crowd.nd
  exact (dss_one (ds_ret (de_call (ok__law_counts T) (hr.mono (by decide)) g__law_counts k__law_counts b__law_counts (takes_of rfl rfl rfl rfl) (da_cons (de_item (de_var 1) de_int) (da_cons (de_join rfl de_str (de_lc (own := [("turn", 3)]) rfl nd (di_rng1 rfl n_range (da_cons (de_call (ok__law_taken T) (hr.mono (by decide)) g__law_taken k__law_taken b__law_taken (takes_of rfl rfl rfl rfl) (da_cons (de_var 0) (da_cons (de_plus (de_var 2) de_int) da_nil))) da_nil)) (by kernel_rfl) (fun _ _ _ _ _ => (dg_name 3 nd)) (fun _ _ _ _ _ => dts_nil) (fun _ _ _ _ _ => (de_call (ok__law_pick T) (hr.mono (by decide)) g__law_pick k__law_pick b__law_pick takes0 (da_cons (de_var 0) (da_cons (de_list rfl rfl n_list (da_cons (de_item (de_var 1) de_int) da_nil)) da_nil)))))) da_nil)))))
theorem ok_law (T : Txt K mg base Ts xa A cA pA Dd) : FnOk P w K mg base (L2.CX P w) 11 (A "law") (Dd "law") ["script"] (spD (TT K Ts xa) 1 F_law) := by
  have b__law_alike := b__law_alike T
  have b__law_behind := b__law_behind T
  have b__law_crowd := b__law_crowd T
  have b__law_folk := b__law_folk T
  have b__law_led := b__law_led T
  have b__law_pick := b__law_pick T
  have b__law_taken := b__law_taken T
  have b__law_usable := b__law_usable T
  have b_is_at_rest := b_is_at_rest T
  have b_is_folk := b_is_folk T
  have b_meetings := b_meetings T
  have b_met := b_met T
  have b_met_all := b_met_all T
  have g__law_alike := T.g__law_alike
  have g__law_behind := T.g__law_behind
  have g__law_crowd := T.g__law_crowd
  have g__law_folk := T.g__law_folk
  have g__law_led := T.g__law_led
  have g__law_pick := T.g__law_pick
  have g__law_taken := T.g__law_taken
  have g__law_usable := T.g__law_usable
  have g_is_at_rest := T.g_is_at_rest
  have g_is_folk := T.g_is_folk
  have g_meetings := T.g_meetings
  have g_met := T.g_met
  have g_met_all := T.g_met_all
  have k__law_alike := T.f__law_alike.kp
  have k__law_behind := T.f__law_behind.kp
  have k__law_crowd := T.f__law_crowd.kp
  have k__law_folk := T.f__law_folk.kp
  have k__law_led := T.f__law_led.kp
  have k__law_pick := T.f__law_pick.kp
  have k__law_taken := T.f__law_taken.kp
  have k__law_usable := T.f__law_usable.kp
  have k_is_at_rest := T.f_is_at_rest.kp
  have k_is_folk := T.f_is_folk.kp
  have k_meetings := T.f_meetings.kp
  have k_met := T.f_met.kp
  have k_met_all := T.f_met_all.kp
  have n_list := T.n_list
  have n_range := T.n_range
  have n_tuple := T.n_tuple
  have q_x_BadRow := T.x_BadRow
  have y_BadRow := T.x_BadRow.2.2.2.2.2
  refine def_ok (N := ["script", "row", "folk", "crowd", "good", "rule", "turn", "some", "due", "odd", "now", "told", "here", "moods", "rules", "value"]) (k := 10) (fs := fs_law) (Pc := fun c => True) T.f_law sc_law rfl rfl trivial fun cdv A outer s H E hc hr => ?_
  have nd := sc_law.nd
  exact (dss_cons (ds_set 1 nd (de_lstM (da_cons (de_var 0) (da_cons de_int (da_cons de_int (da_cons de_int da_nil)))))) (dss_cons (ds_set 2 nd (de_call (ok__law_folk T) (hr.mono (by decide)) g__law_folk k__law_folk b__law_folk (takes_of rfl rfl rfl rfl) (da_cons (de_var 1) (da_cons de_int da_nil)))) (dss_cons (ds_set 3 nd (de_call (ok__law_crowd T) (hr.mono (by decide)) g__law_crowd k__law_crowd b__law_crowd (takes_of rfl rfl rfl rfl) (da_cons (de_var 1) (da_cons (de_var 2) (da_cons de_int da_nil))))) (dss_cons (ds_set 4 nd (de_call (ok__law_usable T) (hr.mono (by decide)) g__law_usable k__law_usable b__law_usable (takes_of rfl rfl rfl rfl) (da_cons (de_var 2) (da_cons (de_var 3) da_nil)))) (dss_cons (ds_if (DW.dt (dw_or (dt_isnt (de_call (ok_is_folk T) (hr.mono (by decide)) g_is_folk k_is_folk b_is_folk (takes_of rfl rfl rfl rfl) (da_cons (de_var 2) da_nil)) de_bl) (dw_or1 (dt_not (dt_val (de_call (ok__law_alike T) (hr.mono (by decide)) g__law_alike k__law_alike b__law_alike (takes_of rfl rfl rfl rfl) (da_cons (de_lst (da_cons (de_call (ok_meetings T) (hr.mono (by decide)) g_meetings k_meetings b_meetings (takes_of rfl rfl rfl rfl) (da_cons (de_var 2) (da_cons (de_var 3) da_nil))) (da_cons (de_call (ok_is_at_rest T) (hr.mono (by decide)) g_is_at_rest k_is_at_rest b_is_at_rest (takes_of rfl rfl rfl rfl) (da_cons (de_var 2) (da_cons (de_var 3) da_nil))) da_nil))) (da_cons (de_lst (da_cons (de_tuple rfl n_tuple (da_cons (de_var 4) da_nil)) (da_cons (de_eq (room_u65 hr) (de_var 4) (de_lst da_nil)) da_nil))) da_nil)))))))) (dss_one (ds_ret de_bl)) dss_nil) (dss_cons (ds_for (us := [5]) (passes_of rfl) rfl (di_seq (de_var 4)) (dg_name 5 nd) (dss_one (ds_if (dt_not (dt_val (de_call (ok__law_alike T) (hr.mono (by decide)) g__law_alike k__law_alike b__law_alike (takes_of rfl rfl rfl rfl) (da_cons (de_call (ok_met T) (hr.mono (by decide)) g_met k_met b_met (takes_of rfl rfl rfl rfl) (da_cons (de_var 2) (da_cons (de_var 3) (da_cons (de_var 5) da_nil)))) (da_cons (de_call (ok__law_behind T) (hr.mono (by decide)) g__law_behind k__law_behind b__law_behind (takes_of rfl rfl rfl rfl) (da_cons (de_var 2) (da_cons (de_var 3) (da_cons (de_var 5) da_nil)))) da_nil))))) (dss_one (ds_ret de_bl)) dss_nil))) (dss_cons (ds_par 10 11 rfl nd (da_cons (de_var 3) (da_cons (de_lstM da_nil) da_nil))) (dss_cons (ds_for (us := [6]) (passes_of rfl) rfl (di_rng1 rfl n_range (da_cons (de_call (ok__law_taken T) (hr.mono (by decide)) g__law_taken k__law_taken b__law_taken (takes_of rfl rfl rfl rfl) (da_cons (de_var 1) (da_cons de_int da_nil))) da_nil)) (dg_name 6 nd) (dss_cons (ds_set 12 nd (de_call (ok__law_usable T) (hr.mono (by decide)) g__law_usable k__law_usable b__law_usable (takes_of rfl rfl rfl rfl) (da_cons (de_var 2) (da_cons (de_var 10) da_nil)))) (dss_one (ds_if (dt_ne (room_u65 hr) (de_var 12) (de_lst da_nil)) (dss_cons (ds_expr (de_append rfl (de_var 11) (da_cons (de_call (ok__law_pick T) (hr.mono (by decide)) g__law_pick k__law_pick b__law_pick (takes_of rfl rfl rfl rfl) (da_cons (de_var 1) (da_cons (de_var 12) da_nil))) da_nil))) (dss_one (ds_set 10 nd (de_call (ok__law_behind T) (hr.mono (by decide)) g__law_behind k__law_behind b__law_behind (takes_of rfl rfl rfl rfl) (da_cons (de_var 2) (da_cons (de_var 10) (da_cons (de_item (de_var 11) (de_neg de_int)) da_nil))))))) dss_nil)))) (dss_cons (ds_if (dt_not (dt_val (de_call (ok__law_alike T) (hr.mono (by decide)) g__law_alike k__law_alike b__law_alike (takes_of rfl rfl rfl rfl) (da_cons (de_call (ok_met_all T) (hr.mono (by decide)) g_met_all k_met_all b_met_all (takes_of rfl rfl rfl rfl) (da_cons (de_var 2) (da_cons (de_var 3) (da_cons (de_tuple rfl n_tuple (da_cons (de_var 11) da_nil)) da_nil)))) (da_cons (de_var 10) da_nil))))) (dss_one (ds_ret de_bl)) dss_nil) (dss_cons (ds_set 7 nd (de_if (dt_ne (room_u65 hr) (de_item (de_var 2) de_int) (de_tup da_nil)) (de_tuple rfl n_tuple (da_cons (de_lc (own := [("turn", 6)]) rfl nd (di_rng1 rfl n_range (da_cons (de_call (ok__law_taken T) (hr.mono (by decide)) g__law_taken k__law_taken b__law_taken (takes_of rfl rfl rfl rfl) (da_cons (de_var 1) (da_cons de_int da_nil))) da_nil)) (by kernel_rfl) (fun _ _ _ _ _ => (dg_name 6 nd)) (fun _ _ _ _ _ => dts_nil) (fun _ _ _ _ _ => (de_call (ok__law_pick T) (hr.mono (by decide)) g__law_pick k__law_pick b__law_pick takes0 (da_cons (de_var 1) (da_cons (de_list rfl rfl n_list (da_cons (de_item (de_var 2) de_int) da_nil)) da_nil))))) da_nil)) (de_tup da_nil))) (dss_cons (ds_set 8 nd (de_call (ok__law_led T) (hr.mono (by decide)) g__law_led k__law_led b__law_led (takes_of rfl rfl rfl rfl) (da_cons (de_var 2) (da_cons (de_var 3) (da_cons (de_var 7) da_nil))))) (dss_cons (ds_try rfl rfl (takes_of rfl rfl rfl rfl) (exf q_x_BadRow).gC y_BadRow (no := []) (fun _ h => by cases h) (fun _ _ _ tk1 po1 => (dss_one (ds_if (DW.dt (dw_or (dt_not (dt_val (de_call (ok__law_alike T) (hr.mono (by decide)) g__law_alike k__law_alike b__law_alike tk1 (da_cons (de_call (ok_met_all T) (hr.mono (by decide)) g_met_all k_met_all b_met_all tk1 (da_cons (de_var 2) (da_cons (de_var 3) (da_cons (de_var 7) da_nil)))) (da_cons (de_var 8) da_nil))))) (dw_or1 (dt_is (de_var 8) de_non)))) (dss_one (ds_ret de_bl)) dss_nil))) (fun _ _ => (dss_one (ds_if (dt_isnt (de_var 8) de_non) (dss_one (ds_ret de_bl)) dss_nil)))) (dss_cons (ds_asg (us := [13, 14]) (de_var 2) (dg_tup rfl (dgs_cons (dg_name 13 nd) (dgs_cons (dg_name 14 nd) dgs_nil)))) (dss_cons (ds_set 9 nd (de_lst (da_cons de_non (da_cons (de_tup da_nil) (da_cons (de_lst (da_cons (de_var 13) (da_cons (de_var 14) da_nil))) (da_cons (de_tup (da_cons (de_var 13) da_nil)) (da_cons (de_tup (da_cons de_str (da_cons (de_tup da_nil) da_nil))) (da_cons (de_tup (da_cons de_str (da_cons (de_tup da_nil) da_nil))) (da_cons (de_tup (da_cons de_str (da_cons (de_tup da_nil) da_nil))) (da_cons (de_tup (da_cons de_str (da_cons (de_tup da_nil) da_nil))) (da_cons (de_tup (da_cons (de_var 13) (da_cons (de_list rfl rfl n_list (da_cons (de_var 14) da_nil)) da_nil))) (da_cons (de_tup (da_cons de_str (da_cons (de_tup (da_cons (de_tup (da_cons de_str (da_cons de_str da_nil))) da_nil)) da_nil))) (da_cons de_int da_nil))))))))))))) (dss_cons (ds_set 9 nd (de_plus (de_var 9) (de_lst (da_cons (de_tup (da_cons de_str (da_cons (de_tup (da_cons (de_tup (da_cons de_str (da_cons de_str da_nil))) da_nil)) da_nil))) (da_cons (de_tup (da_cons de_str (da_cons (de_tup (da_cons (de_tup (da_cons de_str (da_cons de_str da_nil))) da_nil)) da_nil))) (da_cons (de_tup (da_cons de_str (da_cons (de_tup (da_cons (de_tup (da_cons de_str (da_cons de_str da_nil))) da_nil)) da_nil))) (da_cons (de_tup (da_cons de_str (da_cons (de_tup (da_cons (de_lst (da_cons de_str (da_cons de_str da_nil))) da_nil)) da_nil))) (da_cons (de_tup (da_cons de_str (da_cons (de_tup (da_cons (de_tup (da_cons de_str (da_cons de_str da_nil))) (da_cons (de_tup (da_cons de_str (da_cons de_str da_nil))) da_nil))) da_nil))) da_nil)))))))) (dss_one (ds_ret (de_eq (room_u65 hr) (de_lc (own := [("value", 15)]) rfl nd (di_seq (de_plus (de_var 9) (de_lst (da_cons (de_tup (da_cons de_str (da_cons (de_tup (da_cons (de_tup (da_cons de_str da_nil)) da_nil)) da_nil))) (da_cons (de_tup (da_cons (de_var 13) (da_cons de_int da_nil))) (da_cons (de_tup (da_cons de_str (da_cons (de_tup da_nil) da_nil))) (da_cons (de_tup (da_cons de_str (da_cons (de_tup (da_cons de_str (da_cons de_str da_nil))) da_nil))) da_nil))))))) (by kernel_rfl) (fun _ _ _ _ _ => (dg_name 15 nd)) (fun _ _ _ _ _ => (dts_one (dt_isnt (de_call (ok_is_folk T) (hr.mono (by decide)) g_is_folk k_is_folk b_is_folk takes0 (da_cons (de_var 15) da_nil)) de_bl))) (fun _ _ _ _ _ => (de_var 15))) (de_lst da_nil)))))))))))))))))))
end
end K00

set_option Elab.async false
set_option linter.all false
set_option maxRecDepth 100000
set_option maxHeartbeats 1000000
namespace K00
open PySem Pd
theorem sh_int (i : Int) : SeqAt.shaped (.int i) = true := rfl
theorem sh_bool (i : Bool) : SeqAt.shaped (.bool i) = true := rfl
theorem sh_non : SeqAt.shaped .none = true := rfl
theorem ev_int (i j : Int) : PyData.eqv (.int i) (.int j) = (i == j) := rfl
theorem ev_str (i j : Str) : PyData.eqv (.str i) (.str j) = (i == j) := rfl
theorem ev_bool (i j : Bool) : PyData.eqv (.bool i) (.bool j) = (i == j) := rfl
def isPair : PyData → Bool
  | .tuple [_, _] => true
  | _ => false
theorem r_pair {m : Sto} (h : Fl m) (x : PyData) : F_is_pair [.d x] m = .ok (.d (.bool (isPair x))) m := by
  cases x with
  | tuple ds =>
    simp [F_is_pair, fs_is_pair, runD_ap, startE, eVar_ap, eC_ap, eBin_ap, eChain_ap, tV_ap, tNot_ap, tAnd_ap, tOr_ap, eAnd_ap, eOr_ap, eNot_ap, eIf_ap, aNil_ap, aCons_ap, eTup_ap, eLst_ap, eLstM_ap, eRep_ap, eCall_ap, eB_ap, eIsi_ap, eMl_ap, eMs_ap, oNone_ap, oSome_ap, eSl_ap, sNil_ap, sSeq_ap, sRet_ap, sExpr_ap, sIf_ap, sSet_ap, sAsg_ap, sPar_ap, sPut_ap, iSeq_ap, iRg1_ap, iRg2_ap, fYes_ap, iZ2_ap, iZ3_ap, sRaise_ap, eNeg_ap, ofR, R.bind, toB_b, gN, gT, gsCons, gsNil, wipeE, pPlus_i, pPlus_l, pPlus_t, pPlus_s, pSub_i, pMul_i, pDiv_i, pMod_i, pPow_i, pEq_d, pNe_d, pLt_i, pLe_i, pGt_i, pGe_i, pLt_s, pLe_s, pGt_s, pGe_s, pIs_n, pIs_t, pIs_l, pIs_s, pIs_i, pIs_bn, pIs_b, pIn_s, pIn_l, pIn_t, pIx_l, pIx_t, pIx_s, qLen_s, qLen_l, qLen_t, qInt_i, qInt_b, qTup_l, qTup_t, qList_l, qList_t, qSum, qJoin, qCount, qIndex, locOk, isTW, isT, unW, unWs, noX, seqW_l, seqW_t, sizeLine_eq, L2.atI, L2.ixN, dEnd_rt h, sh_int, ev_int]
    match ds with
    | [] => rfl
    | [_] => rfl
    | [_, _] => rfl
    | _ :: _ :: _ :: _ =>
      simp [isPair]
      omega
  | _ => simp [F_is_pair, fs_is_pair, runD_ap, startE, eVar_ap, eC_ap, eBin_ap, eChain_ap, tV_ap, tNot_ap, tAnd_ap, tOr_ap, eAnd_ap, eOr_ap, eNot_ap, eIf_ap, aNil_ap, aCons_ap, eTup_ap, eLst_ap, eLstM_ap, eRep_ap, eCall_ap, eB_ap, eIsi_ap, eMl_ap, eMs_ap, oNone_ap, oSome_ap, eSl_ap, sNil_ap, sSeq_ap, sRet_ap, sExpr_ap, sIf_ap, sSet_ap, sAsg_ap, sPar_ap, sPut_ap, iSeq_ap, iRg1_ap, iRg2_ap, fYes_ap, iZ2_ap, iZ3_ap, sRaise_ap, eNeg_ap, ofR, R.bind, toB_b, gN, gT, gsCons, gsNil, wipeE, pPlus_i, pPlus_l, pPlus_t, pPlus_s, pSub_i, pMul_i, pDiv_i, pMod_i, pPow_i, pEq_d, pNe_d, pLt_i, pLe_i, pGt_i, pGe_i, pLt_s, pLe_s, pGt_s, pGe_s, pIs_n, pIs_t, pIs_l, pIs_s, pIs_i, pIs_bn, pIs_b, pIn_s, pIn_l, pIn_t, pIx_l, pIx_t, pIx_s, qLen_s, qLen_l, qLen_t, qInt_i, qInt_b, qTup_l, qTup_t, qList_l, qList_t, qSum, qJoin, qCount, qIndex, locOk, isTW, isT, unW, unWs, noX, seqW_l, seqW_t, sizeLine_eq, L2.atI, L2.ixN, dEnd_rt h, isPair]
def isInt : PyData → Bool
  | .int _ => true
  | _ => false
theorem r_integer {m : Sto} (h : Fl m) (x : PyData) : F_is_integer [.d x] m = .ok (.d (.bool (isInt x))) m := by
  cases x <;> simp [F_is_integer, fs_is_integer, runD_ap, startE, eVar_ap, eC_ap, eBin_ap, eChain_ap, tV_ap, tNot_ap, tAnd_ap, tOr_ap, eAnd_ap, eOr_ap, eNot_ap, eIf_ap, aNil_ap, aCons_ap, eTup_ap, eLst_ap, eLstM_ap, eRep_ap, eCall_ap, eB_ap, eIsi_ap, eMl_ap, eMs_ap, oNone_ap, oSome_ap, eSl_ap, sNil_ap, sSeq_ap, sRet_ap, sExpr_ap, sIf_ap, sSet_ap, sAsg_ap, sPar_ap, sPut_ap, iSeq_ap, iRg1_ap, iRg2_ap, fYes_ap, iZ2_ap, iZ3_ap, sRaise_ap, eNeg_ap, ofR, R.bind, toB_b, gN, gT, gsCons, gsNil, wipeE, pPlus_i, pPlus_l, pPlus_t, pPlus_s, pSub_i, pMul_i, pDiv_i, pMod_i, pPow_i, pEq_d, pNe_d, pLt_i, pLe_i, pGt_i, pGe_i, pLt_s, pLe_s, pGt_s, pGe_s, pIs_n, pIs_t, pIs_l, pIs_s, pIs_i, pIs_bn, pIs_b, pIn_s, pIn_l, pIn_t, pIx_l, pIx_t, pIx_s, qLen_s, qLen_l, qLen_t, qInt_i, qInt_b, qTup_l, qTup_t, qList_l, qList_t, qSum, qJoin, qCount, qIndex, locOk, isTW, isT, unW, unWs, noX, seqW_l, seqW_t, sizeLine_eq, L2.atI, L2.ixN, dEnd_rt h, isInt]
/-- the sign at place i, as a text -/
def at1 (s : Str) (i : Nat) : Str := ⟨#[s.cps.toList.getD i 0]⟩
/-- a text in a text -/
def isIn (x y : Str) : Bool := !(Builtin.Str.occurrences y x 0 y.length 1).isEmpty
def areTwo (M : Str) : PyData → Bool
  | .str t => match t.cps.toList with
    | [a, b] => isIn ⟨#[a]⟩ M && isIn ⟨#[b]⟩ M && !sLt ⟨#[b]⟩ ⟨#[a]⟩
    | _ => false
  | _ => false
theorem r_two {m : Sto} (h : Fl m) (M : Str) (x : PyData) (hz : ∀ t, x = .str t → t.length ≤ sizeLine) : F_are_two [.d (.str M), .d x] m = .ok (.d (.bool (areTwo M x))) m := by
  cases x with
  | str t =>
    have ht := hz t rfl
    obtain ⟨⟨l⟩⟩ := t
    have e2 : (⟨⟨l⟩⟩ : Str).length = l.length := rfl
    rw [e2, sizeLine_eq] at ht
    match l, ht with
    | [], ht => simp [F_are_two, fs_are_two, runD_ap, startE, eVar_ap, eC_ap, eBin_ap, eChain_ap, tV_ap, tNot_ap, tAnd_ap, tOr_ap, eAnd_ap, eOr_ap, eNot_ap, eIf_ap, aNil_ap, aCons_ap, eTup_ap, eLst_ap, eLstM_ap, eRep_ap, eCall_ap, eB_ap, eIsi_ap, eMl_ap, eMs_ap, oNone_ap, oSome_ap, eSl_ap, sNil_ap, sSeq_ap, sRet_ap, sExpr_ap, sIf_ap, sSet_ap, sAsg_ap, sPar_ap, sPut_ap, iSeq_ap, iRg1_ap, iRg2_ap, fYes_ap, iZ2_ap, iZ3_ap, sRaise_ap, eNeg_ap, ofR, R.bind, toB_b, gN, gT, gsCons, gsNil, wipeE, pPlus_i, pPlus_l, pPlus_t, pPlus_s, pSub_i, pMul_i, pDiv_i, pMod_i, pPow_i, pEq_d, pNe_d, pLt_i, pLe_i, pGt_i, pGe_i, pLt_s, pLe_s, pGt_s, pGe_s, pIs_n, pIs_t, pIs_l, pIs_s, pIs_i, pIs_bn, pIs_b, pIn_s, pIn_l, pIn_t, pIx_l, pIx_t, pIx_s, qLen_s, qLen_l, qLen_t, qInt_i, qInt_b, qTup_l, qTup_t, qList_l, qList_t, qSum, qJoin, qCount, qIndex, locOk, isTW, isT, unW, unWs, noX, seqW_l, seqW_t, sizeLine_eq, L2.atI, L2.ixN, dEnd_rt h, areTwo, sh_int, ev_int, e2]
    | [_], ht => simp [F_are_two, fs_are_two, runD_ap, startE, eVar_ap, eC_ap, eBin_ap, eChain_ap, tV_ap, tNot_ap, tAnd_ap, tOr_ap, eAnd_ap, eOr_ap, eNot_ap, eIf_ap, aNil_ap, aCons_ap, eTup_ap, eLst_ap, eLstM_ap, eRep_ap, eCall_ap, eB_ap, eIsi_ap, eMl_ap, eMs_ap, oNone_ap, oSome_ap, eSl_ap, sNil_ap, sSeq_ap, sRet_ap, sExpr_ap, sIf_ap, sSet_ap, sAsg_ap, sPar_ap, sPut_ap, iSeq_ap, iRg1_ap, iRg2_ap, fYes_ap, iZ2_ap, iZ3_ap, sRaise_ap, eNeg_ap, ofR, R.bind, toB_b, gN, gT, gsCons, gsNil, wipeE, pPlus_i, pPlus_l, pPlus_t, pPlus_s, pSub_i, pMul_i, pDiv_i, pMod_i, pPow_i, pEq_d, pNe_d, pLt_i, pLe_i, pGt_i, pGe_i, pLt_s, pLe_s, pGt_s, pGe_s, pIs_n, pIs_t, pIs_l, pIs_s, pIs_i, pIs_bn, pIs_b, pIn_s, pIn_l, pIn_t, pIx_l, pIx_t, pIx_s, qLen_s, qLen_l, qLen_t, qInt_i, qInt_b, qTup_l, qTup_t, qList_l, qList_t, qSum, qJoin, qCount, qIndex, locOk, isTW, isT, unW, unWs, noX, seqW_l, seqW_t, sizeLine_eq, L2.atI, L2.ixN, dEnd_rt h, areTwo, sh_int, ev_int, e2]
    | [a, b], ht =>
      simp [F_are_two, fs_are_two, runD_ap, startE, eVar_ap, eC_ap, eBin_ap, eChain_ap, tV_ap, tNot_ap, tAnd_ap, tOr_ap, eAnd_ap, eOr_ap, eNot_ap, eIf_ap, aNil_ap, aCons_ap, eTup_ap, eLst_ap, eLstM_ap, eRep_ap, eCall_ap, eB_ap, eIsi_ap, eMl_ap, eMs_ap, oNone_ap, oSome_ap, eSl_ap, sNil_ap, sSeq_ap, sRet_ap, sExpr_ap, sIf_ap, sSet_ap, sAsg_ap, sPar_ap, sPut_ap, iSeq_ap, iRg1_ap, iRg2_ap, fYes_ap, iZ2_ap, iZ3_ap, sRaise_ap, eNeg_ap, ofR, R.bind, toB_b, gN, gT, gsCons, gsNil, wipeE, pPlus_i, pPlus_l, pPlus_t, pPlus_s, pSub_i, pMul_i, pDiv_i, pMod_i, pPow_i, pEq_d, pNe_d, pLt_i, pLe_i, pGt_i, pGe_i, pLt_s, pLe_s, pGt_s, pGe_s, pIs_n, pIs_t, pIs_l, pIs_s, pIs_i, pIs_bn, pIs_b, pIn_s, pIn_l, pIn_t, pIx_l, pIx_t, pIx_s, qLen_s, qLen_l, qLen_t, qInt_i, qInt_b, qTup_l, qTup_t, qList_l, qList_t, qSum, qJoin, qCount, qIndex, locOk, isTW, isT, unW, unWs, noX, seqW_l, seqW_t, sizeLine_eq, L2.atI, L2.ixN, dEnd_rt h, areTwo, sh_int, ev_int, e2]
      cases h1 : Builtin.Str.occurrences M ⟨#[a]⟩ 0 M.length 1 <;> cases h2 : Builtin.Str.occurrences M ⟨#[b]⟩ 0 M.length 1 <;> simp [isIn, h1, h2, dEnd_rt h]
    | _ :: _ :: _ :: r, ht =>
      have hr : r.length ≤ 16777213 := by simp only [List.length_cons] at ht; omega
      have hn : ((r.length : Int) + 1 + 1 + 1 == 2) = false := by rw [beq_eq_false_iff_ne]; omega
      simp [F_are_two, fs_are_two, runD_ap, startE, eVar_ap, eC_ap, eBin_ap, eChain_ap, tV_ap, tNot_ap, tAnd_ap, tOr_ap, eAnd_ap, eOr_ap, eNot_ap, eIf_ap, aNil_ap, aCons_ap, eTup_ap, eLst_ap, eLstM_ap, eRep_ap, eCall_ap, eB_ap, eIsi_ap, eMl_ap, eMs_ap, oNone_ap, oSome_ap, eSl_ap, sNil_ap, sSeq_ap, sRet_ap, sExpr_ap, sIf_ap, sSet_ap, sAsg_ap, sPar_ap, sPut_ap, iSeq_ap, iRg1_ap, iRg2_ap, fYes_ap, iZ2_ap, iZ3_ap, sRaise_ap, eNeg_ap, ofR, R.bind, toB_b, gN, gT, gsCons, gsNil, wipeE, pPlus_i, pPlus_l, pPlus_t, pPlus_s, pSub_i, pMul_i, pDiv_i, pMod_i, pPow_i, pEq_d, pNe_d, pLt_i, pLe_i, pGt_i, pGe_i, pLt_s, pLe_s, pGt_s, pGe_s, pIs_n, pIs_t, pIs_l, pIs_s, pIs_i, pIs_bn, pIs_b, pIn_s, pIn_l, pIn_t, pIx_l, pIx_t, pIx_s, qLen_s, qLen_l, qLen_t, qInt_i, qInt_b, qTup_l, qTup_t, qList_l, qList_t, qSum, qJoin, qCount, qIndex, locOk, isTW, isT, unW, unWs, noX, seqW_l, seqW_t, sizeLine_eq, L2.atI, L2.ixN, dEnd_rt h, areTwo, sh_int, ev_int, e2, hr, hn]
  | _ => simp [F_are_two, fs_are_two, runD_ap, startE, eVar_ap, eC_ap, eBin_ap, eChain_ap, tV_ap, tNot_ap, tAnd_ap, tOr_ap, eAnd_ap, eOr_ap, eNot_ap, eIf_ap, aNil_ap, aCons_ap, eTup_ap, eLst_ap, eLstM_ap, eRep_ap, eCall_ap, eB_ap, eIsi_ap, eMl_ap, eMs_ap, oNone_ap, oSome_ap, eSl_ap, sNil_ap, sSeq_ap, sRet_ap, sExpr_ap, sIf_ap, sSet_ap, sAsg_ap, sPar_ap, sPut_ap, iSeq_ap, iRg1_ap, iRg2_ap, fYes_ap, iZ2_ap, iZ3_ap, sRaise_ap, eNeg_ap, ofR, R.bind, toB_b, gN, gT, gsCons, gsNil, wipeE, pPlus_i, pPlus_l, pPlus_t, pPlus_s, pSub_i, pMul_i, pDiv_i, pMod_i, pPow_i, pEq_d, pNe_d, pLt_i, pLe_i, pGt_i, pGe_i, pLt_s, pLe_s, pGt_s, pGe_s, pIs_n, pIs_t, pIs_l, pIs_s, pIs_i, pIs_bn, pIs_b, pIn_s, pIn_l, pIn_t, pIx_l, pIx_t, pIx_s, qLen_s, qLen_l, qLen_t, qInt_i, qInt_b, qTup_l, qTup_t, qList_l, qList_t, qSum, qJoin, qCount, qIndex, locOk, isTW, isT, unW, unWs, noX, seqW_l, seqW_t, sizeLine_eq, L2.atI, L2.ixN, dEnd_rt h, areTwo]
/-- a text that a test of size can hold -/
def Tx (s : Str) : Prop := s.length ≤ 16777216
def isRule (M : Str) : PyData → Bool
  | .tuple [a, b] => areTwo M a && areTwo M b && !PyData.eqv a b
  | _ => false
theorem areTwo_str {M : Str} {x : PyData} (h : areTwo M x = true) : ∃ a b, x = .str ⟨#[a, b]⟩ := by
  unfold areTwo at h
  split at h
  · rename_i t
    split at h
    · rename_i a b e
      refine ⟨a, b, ?_⟩
      obtain ⟨⟨l⟩⟩ := t
      have e' : l = [a, b] := e
      rw [e']
    · cases h
  · cases h
/-- what is asked of any value that is looked at: its texts are not too long -/
def TxD : PyData → Prop
  | .str t => t.length ≤ sizeLine ∧ SeqAt.shaped (.str t) = true
  | _ => True
def TxR : PyData → Prop
  | .tuple ds => ∀ d ∈ ds, TxD d
  | _ => True
theorem r_rule {m : Sto} (h : Fl m) (M : Str) (x : PyData) (hx : TxR x) : F_is_rule [.d (.str M), .d x] m = .ok (.d (.bool (isRule M x))) m := by
  cases x with
  | tuple ds =>
    match ds, hx with
    | [a, b], hx =>
      have ha : ∀ t, a = .str t → t.length ≤ sizeLine := fun t e => by have := hx a (by simp); rw [e] at this; exact this.1
      have hb : ∀ t, b = .str t → t.length ≤ sizeLine := fun t e => by have := hx b (by simp); rw [e] at this; exact this.1
      have e1 := r_two h M a ha
      have e2 := r_two h M b hb
      have e0 := r_pair h (.tuple [a, b])
      have e3 : isPair (.tuple [a, b]) = true := rfl
      simp [F_is_rule, fs_is_rule, runD_ap, startE, eVar_ap, eC_ap, eBin_ap, eChain_ap, tV_ap, tNot_ap, tAnd_ap, tOr_ap, eAnd_ap, eOr_ap, eNot_ap, eIf_ap, aNil_ap, aCons_ap, eTup_ap, eLst_ap, eLstM_ap, eRep_ap, eCall_ap, eB_ap, eIsi_ap, eMl_ap, eMs_ap, oNone_ap, oSome_ap, eSl_ap, sNil_ap, sSeq_ap, sRet_ap, sExpr_ap, sIf_ap, sSet_ap, sAsg_ap, sPar_ap, sPut_ap, iSeq_ap, iRg1_ap, iRg2_ap, fYes_ap, iZ2_ap, iZ3_ap, sRaise_ap, eNeg_ap, ofR, R.bind, toB_b, gN, gT, gsCons, gsNil, wipeE, pPlus_i, pPlus_l, pPlus_t, pPlus_s, pSub_i, pMul_i, pDiv_i, pMod_i, pPow_i, pEq_d, pNe_d, pLt_i, pLe_i, pGt_i, pGe_i, pLt_s, pLe_s, pGt_s, pGe_s, pIs_n, pIs_t, pIs_l, pIs_s, pIs_i, pIs_bn, pIs_b, pIn_s, pIn_l, pIn_t, pIx_l, pIx_t, pIx_s, qLen_s, qLen_l, qLen_t, qInt_i, qInt_b, qTup_l, qTup_t, qList_l, qList_t, qSum, qJoin, qCount, qIndex, locOk, isTW, isT, unW, unWs, noX, seqW_l, seqW_t, sizeLine_eq, L2.atI, L2.ixN, e0, e3, e1, e2]
      cases h1 : areTwo M a with
      | false => simp [isRule, h1, dEnd_rt h]
      | true =>
        cases h2 : areTwo M b with
        | false => simp [isRule, h1, h2, dEnd_rt h]
        | true =>
          obtain ⟨a1, a2, rfl⟩ := areTwo_str h1
          obtain ⟨b1, b2, rfl⟩ := areTwo_str h2
          have s1 := (hx _ List.mem_cons_self : TxD (.str ⟨#[a1, a2]⟩)).2
          have s2 := (hx _ (List.mem_cons_of_mem _ List.mem_cons_self) : TxD (.str ⟨#[b1, b2]⟩)).2
          simp [isRule, h1, h2, s1, s2, dEnd_rt h]
    | [], _ => simp [F_is_rule, fs_is_rule, runD_ap, startE, eVar_ap, eC_ap, eBin_ap, eChain_ap, tV_ap, tNot_ap, tAnd_ap, tOr_ap, eAnd_ap, eOr_ap, eNot_ap, eIf_ap, aNil_ap, aCons_ap, eTup_ap, eLst_ap, eLstM_ap, eRep_ap, eCall_ap, eB_ap, eIsi_ap, eMl_ap, eMs_ap, oNone_ap, oSome_ap, eSl_ap, sNil_ap, sSeq_ap, sRet_ap, sExpr_ap, sIf_ap, sSet_ap, sAsg_ap, sPar_ap, sPut_ap, iSeq_ap, iRg1_ap, iRg2_ap, fYes_ap, iZ2_ap, iZ3_ap, sRaise_ap, eNeg_ap, ofR, R.bind, toB_b, gN, gT, gsCons, gsNil, wipeE, pPlus_i, pPlus_l, pPlus_t, pPlus_s, pSub_i, pMul_i, pDiv_i, pMod_i, pPow_i, pEq_d, pNe_d, pLt_i, pLe_i, pGt_i, pGe_i, pLt_s, pLe_s, pGt_s, pGe_s, pIs_n, pIs_t, pIs_l, pIs_s, pIs_i, pIs_bn, pIs_b, pIn_s, pIn_l, pIn_t, pIx_l, pIx_t, pIx_s, qLen_s, qLen_l, qLen_t, qInt_i, qInt_b, qTup_l, qTup_t, qList_l, qList_t, qSum, qJoin, qCount, qIndex, locOk, isTW, isT, unW, unWs, noX, seqW_l, seqW_t, sizeLine_eq, L2.atI, L2.ixN, r_pair h, isPair, isRule, dEnd_rt h]
    | [_], _ => simp [F_is_rule, fs_is_rule, runD_ap, startE, eVar_ap, eC_ap, eBin_ap, eChain_ap, tV_ap, tNot_ap, tAnd_ap, tOr_ap, eAnd_ap, eOr_ap, eNot_ap, eIf_ap, aNil_ap, aCons_ap, eTup_ap, eLst_ap, eLstM_ap, eRep_ap, eCall_ap, eB_ap, eIsi_ap, eMl_ap, eMs_ap, oNone_ap, oSome_ap, eSl_ap, sNil_ap, sSeq_ap, sRet_ap, sExpr_ap, sIf_ap, sSet_ap, sAsg_ap, sPar_ap, sPut_ap, iSeq_ap, iRg1_ap, iRg2_ap, fYes_ap, iZ2_ap, iZ3_ap, sRaise_ap, eNeg_ap, ofR, R.bind, toB_b, gN, gT, gsCons, gsNil, wipeE, pPlus_i, pPlus_l, pPlus_t, pPlus_s, pSub_i, pMul_i, pDiv_i, pMod_i, pPow_i, pEq_d, pNe_d, pLt_i, pLe_i, pGt_i, pGe_i, pLt_s, pLe_s, pGt_s, pGe_s, pIs_n, pIs_t, pIs_l, pIs_s, pIs_i, pIs_bn, pIs_b, pIn_s, pIn_l, pIn_t, pIx_l, pIx_t, pIx_s, qLen_s, qLen_l, qLen_t, qInt_i, qInt_b, qTup_l, qTup_t, qList_l, qList_t, qSum, qJoin, qCount, qIndex, locOk, isTW, isT, unW, unWs, noX, seqW_l, seqW_t, sizeLine_eq, L2.atI, L2.ixN, r_pair h, isPair, isRule, dEnd_rt h]
    | _ :: _ :: _ :: _, _ => simp [F_is_rule, fs_is_rule, runD_ap, startE, eVar_ap, eC_ap, eBin_ap, eChain_ap, tV_ap, tNot_ap, tAnd_ap, tOr_ap, eAnd_ap, eOr_ap, eNot_ap, eIf_ap, aNil_ap, aCons_ap, eTup_ap, eLst_ap, eLstM_ap, eRep_ap, eCall_ap, eB_ap, eIsi_ap, eMl_ap, eMs_ap, oNone_ap, oSome_ap, eSl_ap, sNil_ap, sSeq_ap, sRet_ap, sExpr_ap, sIf_ap, sSet_ap, sAsg_ap, sPar_ap, sPut_ap, iSeq_ap, iRg1_ap, iRg2_ap, fYes_ap, iZ2_ap, iZ3_ap, sRaise_ap, eNeg_ap, ofR, R.bind, toB_b, gN, gT, gsCons, gsNil, wipeE, pPlus_i, pPlus_l, pPlus_t, pPlus_s, pSub_i, pMul_i, pDiv_i, pMod_i, pPow_i, pEq_d, pNe_d, pLt_i, pLe_i, pGt_i, pGe_i, pLt_s, pLe_s, pGt_s, pGe_s, pIs_n, pIs_t, pIs_l, pIs_s, pIs_i, pIs_bn, pIs_b, pIn_s, pIn_l, pIn_t, pIx_l, pIx_t, pIx_s, qLen_s, qLen_l, qLen_t, qInt_i, qInt_b, qTup_l, qTup_t, qList_l, qList_t, qSum, qJoin, qCount, qIndex, locOk, isTW, isT, unW, unWs, noX, seqW_l, seqW_t, sizeLine_eq, L2.atI, L2.ixN, r_pair h, isPair, isRule, dEnd_rt h]
  | _ => simp [F_is_rule, fs_is_rule, runD_ap, startE, eVar_ap, eC_ap, eBin_ap, eChain_ap, tV_ap, tNot_ap, tAnd_ap, tOr_ap, eAnd_ap, eOr_ap, eNot_ap, eIf_ap, aNil_ap, aCons_ap, eTup_ap, eLst_ap, eLstM_ap, eRep_ap, eCall_ap, eB_ap, eIsi_ap, eMl_ap, eMs_ap, oNone_ap, oSome_ap, eSl_ap, sNil_ap, sSeq_ap, sRet_ap, sExpr_ap, sIf_ap, sSet_ap, sAsg_ap, sPar_ap, sPut_ap, iSeq_ap, iRg1_ap, iRg2_ap, fYes_ap, iZ2_ap, iZ3_ap, sRaise_ap, eNeg_ap, ofR, R.bind, toB_b, gN, gT, gsCons, gsNil, wipeE, pPlus_i, pPlus_l, pPlus_t, pPlus_s, pSub_i, pMul_i, pDiv_i, pMod_i, pPow_i, pEq_d, pNe_d, pLt_i, pLe_i, pGt_i, pGe_i, pLt_s, pLe_s, pGt_s, pGe_s, pIs_n, pIs_t, pIs_l, pIs_s, pIs_i, pIs_bn, pIs_b, pIn_s, pIn_l, pIn_t, pIx_l, pIx_t, pIx_s, qLen_s, qLen_l, qLen_t, qInt_i, qInt_b, qTup_l, qTup_t, qList_l, qList_t, qSum, qJoin, qCount, qIndex, locOk, isTW, isT, unW, unWs, noX, seqW_l, seqW_t, sizeLine_eq, L2.atI, L2.ixN, r_pair h, isPair, isRule, dEnd_rt h]
def areMoods : PyData → Bool
  | .str s => decide (1 ≤ s.length) && decide (s.length ≤ 6) && (s.cps.toList.all fun c => !sLt ⟨#[c]⟩ "a" && !sLt "z" ⟨#[c]⟩) && (List.range (s.length - 1)).all fun i => sLt ⟨#[s.cps.toList.getD i 0]⟩ ⟨#[s.cps.toList.getD (i + 1) 0]⟩
  | _ => false
theorem r_moods {m : Sto} (h : Fl m) (x : PyData) (hx : TxD x) : F_are_moods [.d x] m = .ok (.d (.bool (areMoods x))) m := by
  cases x with
  | str s =>
    have hs : s.length ≤ 16777216 := by have := hx.1; rw [sizeLine_eq] at this; exact this
    have q1 : eQ true [2] (iSeq (eVar 0)) (gN 2) (eChain pLe pLe (eC (.str "a")) (eVar 2) (eC (.str "z"))) [some (.d (.str s)), none, none] m = .ok (.d (.bool (s.cps.toList.all fun c => !sLt ⟨#[c]⟩ "a" && !sLt "z" ⟨#[c]⟩))) m := by
      rw [eQ_map (g := fun c => W.d (.str ⟨#[c]⟩)) (l := s.cps.toList) (m1 := m) (p := fun c => !sLt ⟨#[c]⟩ "a" && !sLt "z" ⟨#[c]⟩) (by simp [runD_ap, startE, eVar_ap, eC_ap, eBin_ap, eChain_ap, tV_ap, tNot_ap, tAnd_ap, tOr_ap, eAnd_ap, eOr_ap, eNot_ap, eIf_ap, aNil_ap, aCons_ap, eTup_ap, eLst_ap, eLstM_ap, eRep_ap, eCall_ap, eB_ap, eIsi_ap, eMl_ap, eMs_ap, oNone_ap, oSome_ap, eSl_ap, sNil_ap, sSeq_ap, sRet_ap, sExpr_ap, sIf_ap, sSet_ap, sAsg_ap, sPar_ap, sPut_ap, iSeq_ap, iRg1_ap, iRg2_ap, fYes_ap, iZ2_ap, iZ3_ap, sRaise_ap, eNeg_ap, ofR, R.bind, toB_b, gN, gT, gsCons, gsNil, wipeE, pPlus_i, pPlus_l, pPlus_t, pPlus_s, pSub_i, pMul_i, pDiv_i, pMod_i, pPow_i, pEq_d, pNe_d, pLt_i, pLe_i, pGt_i, pGe_i, pLt_s, pLe_s, pGt_s, pGe_s, pIs_n, pIs_t, pIs_l, pIs_s, pIs_i, pIs_bn, pIs_b, pIn_s, pIn_l, pIn_t, pIx_l, pIx_t, pIx_s, qLen_s, qLen_l, qLen_t, qInt_i, qInt_b, qTup_l, qTup_t, qList_l, qList_t, qSum, qJoin, qCount, qIndex, locOk, isTW, isT, unW, unWs, noX, seqW_l, seqW_t, sizeLine_eq, L2.atI, L2.ixN, signs_items]) (fun c hc => ?_)]
      · rfl
      · refine ⟨_, rfl, ?_⟩
        cases h1 : sLt ⟨#[c]⟩ "a" <;> simp [runD_ap, startE, eVar_ap, eC_ap, eBin_ap, eChain_ap, tV_ap, tNot_ap, tAnd_ap, tOr_ap, eAnd_ap, eOr_ap, eNot_ap, eIf_ap, aNil_ap, aCons_ap, eTup_ap, eLst_ap, eLstM_ap, eRep_ap, eCall_ap, eB_ap, eIsi_ap, eMl_ap, eMs_ap, oNone_ap, oSome_ap, eSl_ap, sNil_ap, sSeq_ap, sRet_ap, sExpr_ap, sIf_ap, sSet_ap, sAsg_ap, sPar_ap, sPut_ap, iSeq_ap, iRg1_ap, iRg2_ap, fYes_ap, iZ2_ap, iZ3_ap, sRaise_ap, eNeg_ap, ofR, R.bind, toB_b, gN, gT, gsCons, gsNil, wipeE, pPlus_i, pPlus_l, pPlus_t, pPlus_s, pSub_i, pMul_i, pDiv_i, pMod_i, pPow_i, pEq_d, pNe_d, pLt_i, pLe_i, pGt_i, pGe_i, pLt_s, pLe_s, pGt_s, pGe_s, pIs_n, pIs_t, pIs_l, pIs_s, pIs_i, pIs_bn, pIs_b, pIn_s, pIn_l, pIn_t, pIx_l, pIx_t, pIx_s, qLen_s, qLen_l, qLen_t, qInt_i, qInt_b, qTup_l, qTup_t, qList_l, qList_t, qSum, qJoin, qCount, qIndex, locOk, isTW, isT, unW, unWs, noX, seqW_l, seqW_t, sizeLine_eq, L2.atI, L2.ixN, h1]
    have q2 : ∀ w2, 1 ≤ s.length → eQ true [1] (iRg1 (aCons (eBin pSub (eB qLen (aCons (eVar 0) aNil)) (eC (.int 1))) aNil)) (gN 1) (eBin pLt (eBin pIx (eVar 0) (eVar 1)) (eBin pIx (eVar 0) (eBin pPlus (eVar 1) (eC (.int 1))))) [some (.d (.str s)), none, w2] m =
        .ok (.d (.bool ((List.range (s.length - 1)).all fun i => sLt ⟨#[s.cps.toList.getD i 0]⟩ ⟨#[s.cps.toList.getD (i + 1) 0]⟩))) m := fun w2 h1 => by
      rw [eQ_map (g := fun i => W.d (.int (0 + (i : Nat)))) (l := List.range (s.length - 1)) (m1 := m) (p := fun i => sLt ⟨#[s.cps.toList.getD i 0]⟩ ⟨#[s.cps.toList.getD (i + 1) 0]⟩) ?_ (fun i hi => ?_)]
      · rfl
      · have e1 : -4611686018427387904 ≤ (s.length : Int) - 1 ∧ (s.length : Int) - 1 < 4611686018427387904 := by omega
        simp [runD_ap, startE, eVar_ap, eC_ap, eBin_ap, eChain_ap, tV_ap, tNot_ap, tAnd_ap, tOr_ap, eAnd_ap, eOr_ap, eNot_ap, eIf_ap, aNil_ap, aCons_ap, eTup_ap, eLst_ap, eLstM_ap, eRep_ap, eCall_ap, eB_ap, eIsi_ap, eMl_ap, eMs_ap, oNone_ap, oSome_ap, eSl_ap, sNil_ap, sSeq_ap, sRet_ap, sExpr_ap, sIf_ap, sSet_ap, sAsg_ap, sPar_ap, sPut_ap, iSeq_ap, iRg1_ap, iRg2_ap, fYes_ap, iZ2_ap, iZ3_ap, sRaise_ap, eNeg_ap, ofR, R.bind, toB_b, gN, gT, gsCons, gsNil, wipeE, pPlus_i, pPlus_l, pPlus_t, pPlus_s, pSub_i, pMul_i, pDiv_i, pMod_i, pPow_i, pEq_d, pNe_d, pLt_i, pLe_i, pGt_i, pGe_i, pLt_s, pLe_s, pGt_s, pGe_s, pIs_n, pIs_t, pIs_l, pIs_s, pIs_i, pIs_bn, pIs_b, pIn_s, pIn_l, pIn_t, pIx_l, pIx_t, pIx_s, qLen_s, qLen_l, qLen_t, qInt_i, qInt_b, qTup_l, qTup_t, qList_l, qList_t, qSum, qJoin, qCount, qIndex, locOk, isTW, isT, unW, unWs, noX, seqW_l, seqW_t, sizeLine_eq, L2.atI, L2.ixN, hs, e1, rng]
      · have hi' : i + 1 < s.length := by have := List.mem_range.mp hi; omega
        have g1 : s.cps[i]? = some (s.cps[i]'(Nat.lt_of_succ_lt hi')) := Array.getElem?_eq_getElem (Nat.lt_of_succ_lt hi')
        have g2 : s.cps[i + 1]? = some (s.cps[i + 1]'hi') := Array.getElem?_eq_getElem hi'
        refine ⟨_, rfl, ?_⟩
        simp [runD_ap, startE, eVar_ap, eC_ap, eBin_ap, eChain_ap, tV_ap, tNot_ap, tAnd_ap, tOr_ap, eAnd_ap, eOr_ap, eNot_ap, eIf_ap, aNil_ap, aCons_ap, eTup_ap, eLst_ap, eLstM_ap, eRep_ap, eCall_ap, eB_ap, eIsi_ap, eMl_ap, eMs_ap, oNone_ap, oSome_ap, eSl_ap, sNil_ap, sSeq_ap, sRet_ap, sExpr_ap, sIf_ap, sSet_ap, sAsg_ap, sPar_ap, sPut_ap, iSeq_ap, iRg1_ap, iRg2_ap, fYes_ap, iZ2_ap, iZ3_ap, sRaise_ap, eNeg_ap, ofR, R.bind, toB_b, gN, gT, gsCons, gsNil, wipeE, pPlus_i, pPlus_l, pPlus_t, pPlus_s, pSub_i, pMul_i, pDiv_i, pMod_i, pPow_i, pEq_d, pNe_d, pLt_i, pLe_i, pGt_i, pGe_i, pLt_s, pLe_s, pGt_s, pGe_s, pIs_n, pIs_t, pIs_l, pIs_s, pIs_i, pIs_bn, pIs_b, pIn_s, pIn_l, pIn_t, pIx_l, pIx_t, pIx_s, qLen_s, qLen_l, qLen_t, qInt_i, qInt_b, qTup_l, qTup_t, qList_l, qList_t, qSum, qJoin, qCount, qIndex, locOk, isTW, isT, unW, unWs, noX, seqW_l, seqW_t, sizeLine_eq, atI_nat, atI_nat1, hs, g1, g2]
    have am : areMoods (.str s) = (decide (1 ≤ s.length) && decide (s.length ≤ 6) && (s.cps.toList.all fun c => !sLt ⟨#[c]⟩ "a" && !sLt "z" ⟨#[c]⟩) && (List.range (s.length - 1)).all fun i => sLt ⟨#[s.cps.toList.getD i 0]⟩ ⟨#[s.cps.toList.getD (i + 1) 0]⟩) := rfl
    rw [am]
    clear am
    generalize (s.cps.toList.all fun c => !sLt ⟨#[c]⟩ "a" && !sLt "z" ⟨#[c]⟩) = b1 at q1
    generalize ((List.range (s.length - 1)).all fun i => sLt ⟨#[s.cps.toList.getD i 0]⟩ ⟨#[s.cps.toList.getD (i + 1) 0]⟩) = b2 at q2
    by_cases h1 : 1 ≤ s.length
    · by_cases h6 : s.length ≤ 6
      · have h6' : (s.length : Int) ≤ 6 := by omega
        have h1' : (1 : Int) ≤ s.length := by omega
        simp [F_are_moods, fs_are_moods, runD_ap, startE, eVar_ap, eC_ap, eBin_ap, eChain_ap, tV_ap, tNot_ap, tAnd_ap, tOr_ap, eAnd_ap, eOr_ap, eNot_ap, eIf_ap, aNil_ap, aCons_ap, eTup_ap, eLst_ap, eLstM_ap, eRep_ap, eCall_ap, eB_ap, eIsi_ap, eMl_ap, eMs_ap, oNone_ap, oSome_ap, eSl_ap, sNil_ap, sSeq_ap, sRet_ap, sExpr_ap, sIf_ap, sSet_ap, sAsg_ap, sPar_ap, sPut_ap, iSeq_ap, iRg1_ap, iRg2_ap, fYes_ap, iZ2_ap, iZ3_ap, sRaise_ap, eNeg_ap, ofR, R.bind, toB_b, gN, gT, gsCons, gsNil, wipeE, pPlus_i, pPlus_l, pPlus_t, pPlus_s, pSub_i, pMul_i, pDiv_i, pMod_i, pPow_i, pEq_d, pNe_d, pLt_i, pLe_i, pGt_i, pGe_i, pLt_s, pLe_s, pGt_s, pGe_s, pIs_n, pIs_t, pIs_l, pIs_s, pIs_i, pIs_bn, pIs_b, pIn_s, pIn_l, pIn_t, pIx_l, pIx_t, pIx_s, qLen_s, qLen_l, qLen_t, qInt_i, qInt_b, qTup_l, qTup_t, qList_l, qList_t, qSum, qJoin, qCount, qIndex, locOk, isTW, isT, unW, unWs, noX, seqW_l, seqW_t, sizeLine_eq, L2.atI, L2.ixN, hs, h1', h6', q1]
        cases b1 with
        | false => simp [dEnd_rt h]
        | true =>
          have q3 := q2 none h1
          simp [q3, h1, h6, dEnd_rt h]
      · have h6' : ¬ (s.length : Int) ≤ 6 := by omega
        have h1' : (1 : Int) ≤ s.length := by omega
        simp [F_are_moods, fs_are_moods, runD_ap, startE, eVar_ap, eC_ap, eBin_ap, eChain_ap, tV_ap, tNot_ap, tAnd_ap, tOr_ap, eAnd_ap, eOr_ap, eNot_ap, eIf_ap, aNil_ap, aCons_ap, eTup_ap, eLst_ap, eLstM_ap, eRep_ap, eCall_ap, eB_ap, eIsi_ap, eMl_ap, eMs_ap, oNone_ap, oSome_ap, eSl_ap, sNil_ap, sSeq_ap, sRet_ap, sExpr_ap, sIf_ap, sSet_ap, sAsg_ap, sPar_ap, sPut_ap, iSeq_ap, iRg1_ap, iRg2_ap, fYes_ap, iZ2_ap, iZ3_ap, sRaise_ap, eNeg_ap, ofR, R.bind, toB_b, gN, gT, gsCons, gsNil, wipeE, pPlus_i, pPlus_l, pPlus_t, pPlus_s, pSub_i, pMul_i, pDiv_i, pMod_i, pPow_i, pEq_d, pNe_d, pLt_i, pLe_i, pGt_i, pGe_i, pLt_s, pLe_s, pGt_s, pGe_s, pIs_n, pIs_t, pIs_l, pIs_s, pIs_i, pIs_bn, pIs_b, pIn_s, pIn_l, pIn_t, pIx_l, pIx_t, pIx_s, qLen_s, qLen_l, qLen_t, qInt_i, qInt_b, qTup_l, qTup_t, qList_l, qList_t, qSum, qJoin, qCount, qIndex, locOk, isTW, isT, unW, unWs, noX, seqW_l, seqW_t, sizeLine_eq, L2.atI, L2.ixN, hs, h1', h6', h6, dEnd_rt h]
    · have h1' : ¬ (1 : Int) ≤ s.length := by omega
      simp [F_are_moods, fs_are_moods, runD_ap, startE, eVar_ap, eC_ap, eBin_ap, eChain_ap, tV_ap, tNot_ap, tAnd_ap, tOr_ap, eAnd_ap, eOr_ap, eNot_ap, eIf_ap, aNil_ap, aCons_ap, eTup_ap, eLst_ap, eLstM_ap, eRep_ap, eCall_ap, eB_ap, eIsi_ap, eMl_ap, eMs_ap, oNone_ap, oSome_ap, eSl_ap, sNil_ap, sSeq_ap, sRet_ap, sExpr_ap, sIf_ap, sSet_ap, sAsg_ap, sPar_ap, sPut_ap, iSeq_ap, iRg1_ap, iRg2_ap, fYes_ap, iZ2_ap, iZ3_ap, sRaise_ap, eNeg_ap, ofR, R.bind, toB_b, gN, gT, gsCons, gsNil, wipeE, pPlus_i, pPlus_l, pPlus_t, pPlus_s, pSub_i, pMul_i, pDiv_i, pMod_i, pPow_i, pEq_d, pNe_d, pLt_i, pLe_i, pGt_i, pGe_i, pLt_s, pLe_s, pGt_s, pGe_s, pIs_n, pIs_t, pIs_l, pIs_s, pIs_i, pIs_bn, pIs_b, pIn_s, pIn_l, pIn_t, pIx_l, pIx_t, pIx_s, qLen_s, qLen_l, qLen_t, qInt_i, qInt_b, qTup_l, qTup_t, qList_l, qList_t, qSum, qJoin, qCount, qIndex, locOk, isTW, isT, unW, unWs, noX, seqW_l, seqW_t, sizeLine_eq, L2.atI, L2.ixN, hs, h1', h1, dEnd_rt h]
  | _ => simp [F_are_moods, fs_are_moods, runD_ap, startE, eVar_ap, eC_ap, eBin_ap, eChain_ap, tV_ap, tNot_ap, tAnd_ap, tOr_ap, eAnd_ap, eOr_ap, eNot_ap, eIf_ap, aNil_ap, aCons_ap, eTup_ap, eLst_ap, eLstM_ap, eRep_ap, eCall_ap, eB_ap, eIsi_ap, eMl_ap, eMs_ap, oNone_ap, oSome_ap, eSl_ap, sNil_ap, sSeq_ap, sRet_ap, sExpr_ap, sIf_ap, sSet_ap, sAsg_ap, sPar_ap, sPut_ap, iSeq_ap, iRg1_ap, iRg2_ap, fYes_ap, iZ2_ap, iZ3_ap, sRaise_ap, eNeg_ap, ofR, R.bind, toB_b, gN, gT, gsCons, gsNil, wipeE, pPlus_i, pPlus_l, pPlus_t, pPlus_s, pSub_i, pMul_i, pDiv_i, pMod_i, pPow_i, pEq_d, pNe_d, pLt_i, pLe_i, pGt_i, pGe_i, pLt_s, pLe_s, pGt_s, pGe_s, pIs_n, pIs_t, pIs_l, pIs_s, pIs_i, pIs_bn, pIs_b, pIn_s, pIn_l, pIn_t, pIx_l, pIx_t, pIx_s, qLen_s, qLen_l, qLen_t, qInt_i, qInt_b, qTup_l, qTup_t, qList_l, qList_t, qSum, qJoin, qCount, qIndex, locOk, isTW, isT, unW, unWs, noX, seqW_l, seqW_t, sizeLine_eq, L2.atI, L2.ixN, dEnd_rt h, areMoods]
/-! ### rules, folk -/
mutual
/-- its texts are small and of signs -/
def TxT : PyData → Bool
  | .str t => decide (t.length ≤ sizeLine) && SeqAt.shaped (.str t)
  | .list ds => TxTs ds
  | .tuple ds => TxTs ds
  | _ => true
def TxTs : List PyData → Bool
  | [] => true
  | d :: ds => TxT d && TxTs ds
end
theorem TxTs_mem : ∀ {ds : List PyData} {d : PyData}, TxTs ds = true → d ∈ ds → TxT d = true
  | x :: xs, d, h, hd => by
    unfold TxTs at h
    rw [Bool.and_eq_true] at h
    rcases List.mem_cons.mp hd with rfl | hd
    · exact h.1
    · exact TxTs_mem h.2 hd
theorem TxT.d {x : PyData} (h : TxT x = true) : TxD x := by
  cases x with
  | str t =>
    unfold TxT at h
    rw [Bool.and_eq_true] at h
    exact ⟨of_decide_eq_true h.1, h.2⟩
  | _ => trivial
theorem TxT.r {x : PyData} (h : TxT x = true) : TxR x := by
  cases x with
  | tuple ds => exact fun d hd => TxT.d (TxTs_mem (by unfold TxT at h; exact h) hd)
  | _ => trivial
/-- as many as their set -/
def unlike (ds : List PyData) : Bool := match pairsS ds with
  | some ps => decide (ps.eraseDups.length = ps.length)
  | none => false
def areRules (M : Str) : PyData → Bool
  | .tuple ds => decide (ds.length ≤ 12) && ds.all (isRule M) && unlike ds
  | _ => false
theorem isRule_pair {M : Str} {x : PyData} (h : isRule M x = true) : ∃ a b c d, x = .tuple [.str ⟨#[a, b]⟩, .str ⟨#[c, d]⟩] := by
  unfold isRule at h
  split at h
  · rename_i p q
    simp only [Bool.and_eq_true] at h
    obtain ⟨⟨h1, h2⟩, _⟩ := h
    obtain ⟨a, b, rfl⟩ := areTwo_str h1
    obtain ⟨c, d, rfl⟩ := areTwo_str h2
    exact ⟨a, b, c, d, rfl⟩
  · cases h
theorem pairs_of {M : Str} : ∀ {ds : List PyData}, ds.all (isRule M) = true → ∃ ps, pairsS ds = some ps ∧ ps.length = ds.length
  | [], _ => ⟨[], rfl, rfl⟩
  | x :: xs, h => by
    rw [List.all_cons, Bool.and_eq_true] at h
    obtain ⟨a, b, c, d, rfl⟩ := isRule_pair h.1
    obtain ⟨ps, e, l⟩ := pairs_of h.2
    exact ⟨(⟨#[a, b]⟩, ⟨#[c, d]⟩) :: ps, by unfold pairsS pairS; rw [e], by simp [l]⟩
theorem r_rules {m : Sto} (h : Fl m) (M : Str) (x : PyData) (hx : TxT x = true) : F_are_rules [.d (.str M), .d x] m = .ok (.d (.bool (areRules M x))) m := by
  cases x with
  | tuple ds =>
    have q1 : eQ true [2] (iSeq (eVar 1)) (gN 2) (eCall 2 F_is_rule (aCons (eVar 0) (aCons (eVar 2) aNil))) [some (.d (.str M)), some (.d (.tuple ds)), none] m = .ok (.d (.bool (ds.all (isRule M)))) m := by
      rw [eQ_map (g := W.d) (l := ds) (m1 := m) (p := isRule M) (by simp [runD_ap, startE, eVar_ap, eC_ap, eBin_ap, eChain_ap, tV_ap, tNot_ap, tAnd_ap, tOr_ap, eAnd_ap, eOr_ap, eNot_ap, eIf_ap, aNil_ap, aCons_ap, eTup_ap, eLst_ap, eLstM_ap, eRep_ap, eCall_ap, eB_ap, eIsi_ap, eMl_ap, eMs_ap, oNone_ap, oSome_ap, eSl_ap, sNil_ap, sSeq_ap, sRet_ap, sExpr_ap, sIf_ap, sSet_ap, sAsg_ap, sPar_ap, sPut_ap, iSeq_ap, iRg1_ap, iRg2_ap, fYes_ap, iZ2_ap, iZ3_ap, sRaise_ap, eNeg_ap, ofR, R.bind, toB_b, gN, gT, gsCons, gsNil, wipeE, pPlus_i, pPlus_l, pPlus_t, pPlus_s, pSub_i, pMul_i, pDiv_i, pMod_i, pPow_i, pEq_d, pNe_d, pLt_i, pLe_i, pGt_i, pGe_i, pLt_s, pLe_s, pGt_s, pGe_s, pIs_n, pIs_t, pIs_l, pIs_s, pIs_i, pIs_bn, pIs_b, pIn_s, pIn_l, pIn_t, pIx_l, pIx_t, pIx_s, qLen_s, qLen_l, qLen_t, qInt_i, qInt_b, qTup_l, qTup_t, qList_l, qList_t, qSum, qJoin, qCount, qIndex, locOk, isTW, isT, unW, unWs, noX, seqW_l, seqW_t, sizeLine_eq, L2.atI, L2.ixN]) (fun d hd => ?_)]
      · rfl
      · exact ⟨_, rfl, by simp [runD_ap, startE, eVar_ap, eC_ap, eBin_ap, eChain_ap, tV_ap, tNot_ap, tAnd_ap, tOr_ap, eAnd_ap, eOr_ap, eNot_ap, eIf_ap, aNil_ap, aCons_ap, eTup_ap, eLst_ap, eLstM_ap, eRep_ap, eCall_ap, eB_ap, eIsi_ap, eMl_ap, eMs_ap, oNone_ap, oSome_ap, eSl_ap, sNil_ap, sSeq_ap, sRet_ap, sExpr_ap, sIf_ap, sSet_ap, sAsg_ap, sPar_ap, sPut_ap, iSeq_ap, iRg1_ap, iRg2_ap, fYes_ap, iZ2_ap, iZ3_ap, sRaise_ap, eNeg_ap, ofR, R.bind, toB_b, gN, gT, gsCons, gsNil, wipeE, pPlus_i, pPlus_l, pPlus_t, pPlus_s, pSub_i, pMul_i, pDiv_i, pMod_i, pPow_i, pEq_d, pNe_d, pLt_i, pLe_i, pGt_i, pGe_i, pLt_s, pLe_s, pGt_s, pGe_s, pIs_n, pIs_t, pIs_l, pIs_s, pIs_i, pIs_bn, pIs_b, pIn_s, pIn_l, pIn_t, pIx_l, pIx_t, pIx_s, qLen_s, qLen_l, qLen_t, qInt_i, qInt_b, qTup_l, qTup_t, qList_l, qList_t, qSum, qJoin, qCount, qIndex, locOk, isTW, isT, unW, unWs, noX, seqW_l, seqW_t, sizeLine_eq, L2.atI, L2.ixN, r_rule h M d (TxT.r (TxTs_mem (by unfold TxT at hx; exact hx) hd))]⟩
    have am : areRules M (.tuple ds) = (decide (ds.length ≤ 12) && ds.all (isRule M) && unlike ds) := rfl
    rw [am]
    by_cases h12 : ds.length ≤ 12
    · have h12' : ¬ (12 : Int) < ds.length := by omega
      cases hb : ds.all (isRule M) with
      | false =>
        rw [hb] at q1
        simp [F_are_rules, fs_are_rules, runD_ap, startE, eVar_ap, eC_ap, eBin_ap, eChain_ap, tV_ap, tNot_ap, tAnd_ap, tOr_ap, eAnd_ap, eOr_ap, eNot_ap, eIf_ap, aNil_ap, aCons_ap, eTup_ap, eLst_ap, eLstM_ap, eRep_ap, eCall_ap, eB_ap, eIsi_ap, eMl_ap, eMs_ap, oNone_ap, oSome_ap, eSl_ap, sNil_ap, sSeq_ap, sRet_ap, sExpr_ap, sIf_ap, sSet_ap, sAsg_ap, sPar_ap, sPut_ap, iSeq_ap, iRg1_ap, iRg2_ap, fYes_ap, iZ2_ap, iZ3_ap, sRaise_ap, eNeg_ap, ofR, R.bind, toB_b, gN, gT, gsCons, gsNil, wipeE, pPlus_i, pPlus_l, pPlus_t, pPlus_s, pSub_i, pMul_i, pDiv_i, pMod_i, pPow_i, pEq_d, pNe_d, pLt_i, pLe_i, pGt_i, pGe_i, pLt_s, pLe_s, pGt_s, pGe_s, pIs_n, pIs_t, pIs_l, pIs_s, pIs_i, pIs_bn, pIs_b, pIn_s, pIn_l, pIn_t, pIx_l, pIx_t, pIx_s, qLen_s, qLen_l, qLen_t, qInt_i, qInt_b, qTup_l, qTup_t, qList_l, qList_t, qSum, qJoin, qCount, qIndex, locOk, isTW, isT, unW, unWs, noX, seqW_l, seqW_t, sizeLine_eq, L2.atI, L2.ixN, h12', q1, dEnd_rt h]
      | true =>
        rw [hb] at q1
        obtain ⟨ps, e, l⟩ := pairs_of hb
        have h64 : ps.length < 64 := by omega
        have q2 : eLenSet (eVar 1) [some (.d (.str M)), some (.d (.tuple ds)), none] m = .ok (.d (.int ps.eraseDups.length)) m := by
          rw [eLenSet_ap]
          simp [runD_ap, startE, eVar_ap, eC_ap, eBin_ap, eChain_ap, tV_ap, tNot_ap, tAnd_ap, tOr_ap, eAnd_ap, eOr_ap, eNot_ap, eIf_ap, aNil_ap, aCons_ap, eTup_ap, eLst_ap, eLstM_ap, eRep_ap, eCall_ap, eB_ap, eIsi_ap, eMl_ap, eMs_ap, oNone_ap, oSome_ap, eSl_ap, sNil_ap, sSeq_ap, sRet_ap, sExpr_ap, sIf_ap, sSet_ap, sAsg_ap, sPar_ap, sPut_ap, iSeq_ap, iRg1_ap, iRg2_ap, fYes_ap, iZ2_ap, iZ3_ap, sRaise_ap, eNeg_ap, ofR, R.bind, toB_b, gN, gT, gsCons, gsNil, wipeE, pPlus_i, pPlus_l, pPlus_t, pPlus_s, pSub_i, pMul_i, pDiv_i, pMod_i, pPow_i, pEq_d, pNe_d, pLt_i, pLe_i, pGt_i, pGe_i, pLt_s, pLe_s, pGt_s, pGe_s, pIs_n, pIs_t, pIs_l, pIs_s, pIs_i, pIs_bn, pIs_b, pIn_s, pIn_l, pIn_t, pIx_l, pIx_t, pIx_s, qLen_s, qLen_l, qLen_t, qInt_i, qInt_b, qTup_l, qTup_t, qList_l, qList_t, qSum, qJoin, qCount, qIndex, locOk, isTW, isT, unW, unWs, noX, seqW_l, seqW_t, sizeLine_eq, L2.atI, L2.ixN, e, h64]
        have q3 : unlike ds = decide (ps.eraseDups.length = ps.length) := by unfold unlike; rw [e]
        have q4 : ((ps.eraseDups.length : Int) == (ds.length : Int)) = decide (ps.eraseDups.length = ps.length) := by
          rw [l]
          by_cases z : ps.eraseDups.length = ds.length
          · simp [z]
          · have z' : ¬ (ps.eraseDups.length : Int) = ds.length := by omega
            simp [z, z']
        rw [q3, ← q4]
        simp [F_are_rules, fs_are_rules, runD_ap, startE, eVar_ap, eC_ap, eBin_ap, eChain_ap, tV_ap, tNot_ap, tAnd_ap, tOr_ap, eAnd_ap, eOr_ap, eNot_ap, eIf_ap, aNil_ap, aCons_ap, eTup_ap, eLst_ap, eLstM_ap, eRep_ap, eCall_ap, eB_ap, eIsi_ap, eMl_ap, eMs_ap, oNone_ap, oSome_ap, eSl_ap, sNil_ap, sSeq_ap, sRet_ap, sExpr_ap, sIf_ap, sSet_ap, sAsg_ap, sPar_ap, sPut_ap, iSeq_ap, iRg1_ap, iRg2_ap, fYes_ap, iZ2_ap, iZ3_ap, sRaise_ap, eNeg_ap, ofR, R.bind, toB_b, gN, gT, gsCons, gsNil, wipeE, pPlus_i, pPlus_l, pPlus_t, pPlus_s, pSub_i, pMul_i, pDiv_i, pMod_i, pPow_i, pEq_d, pNe_d, pLt_i, pLe_i, pGt_i, pGe_i, pLt_s, pLe_s, pGt_s, pGe_s, pIs_n, pIs_t, pIs_l, pIs_s, pIs_i, pIs_bn, pIs_b, pIn_s, pIn_l, pIn_t, pIx_l, pIx_t, pIx_s, qLen_s, qLen_l, qLen_t, qInt_i, qInt_b, qTup_l, qTup_t, qList_l, qList_t, qSum, qJoin, qCount, qIndex, locOk, isTW, isT, unW, unWs, noX, seqW_l, seqW_t, sizeLine_eq, L2.atI, L2.ixN, h12', h12, q1, q2, sh_int, ev_int, dEnd_rt h]
    · have h12' : (12 : Int) < ds.length := by omega
      simp [F_are_rules, fs_are_rules, runD_ap, startE, eVar_ap, eC_ap, eBin_ap, eChain_ap, tV_ap, tNot_ap, tAnd_ap, tOr_ap, eAnd_ap, eOr_ap, eNot_ap, eIf_ap, aNil_ap, aCons_ap, eTup_ap, eLst_ap, eLstM_ap, eRep_ap, eCall_ap, eB_ap, eIsi_ap, eMl_ap, eMs_ap, oNone_ap, oSome_ap, eSl_ap, sNil_ap, sSeq_ap, sRet_ap, sExpr_ap, sIf_ap, sSet_ap, sAsg_ap, sPar_ap, sPut_ap, iSeq_ap, iRg1_ap, iRg2_ap, fYes_ap, iZ2_ap, iZ3_ap, sRaise_ap, eNeg_ap, ofR, R.bind, toB_b, gN, gT, gsCons, gsNil, wipeE, pPlus_i, pPlus_l, pPlus_t, pPlus_s, pSub_i, pMul_i, pDiv_i, pMod_i, pPow_i, pEq_d, pNe_d, pLt_i, pLe_i, pGt_i, pGe_i, pLt_s, pLe_s, pGt_s, pGe_s, pIs_n, pIs_t, pIs_l, pIs_s, pIs_i, pIs_bn, pIs_b, pIn_s, pIn_l, pIn_t, pIx_l, pIx_t, pIx_s, qLen_s, qLen_l, qLen_t, qInt_i, qInt_b, qTup_l, qTup_t, qList_l, qList_t, qSum, qJoin, qCount, qIndex, locOk, isTW, isT, unW, unWs, noX, seqW_l, seqW_t, sizeLine_eq, L2.atI, L2.ixN, h12', h12, dEnd_rt h]
  | _ => simp [F_are_rules, fs_are_rules, runD_ap, startE, eVar_ap, eC_ap, eBin_ap, eChain_ap, tV_ap, tNot_ap, tAnd_ap, tOr_ap, eAnd_ap, eOr_ap, eNot_ap, eIf_ap, aNil_ap, aCons_ap, eTup_ap, eLst_ap, eLstM_ap, eRep_ap, eCall_ap, eB_ap, eIsi_ap, eMl_ap, eMs_ap, oNone_ap, oSome_ap, eSl_ap, sNil_ap, sSeq_ap, sRet_ap, sExpr_ap, sIf_ap, sSet_ap, sAsg_ap, sPar_ap, sPut_ap, iSeq_ap, iRg1_ap, iRg2_ap, fYes_ap, iZ2_ap, iZ3_ap, sRaise_ap, eNeg_ap, ofR, R.bind, toB_b, gN, gT, gsCons, gsNil, wipeE, pPlus_i, pPlus_l, pPlus_t, pPlus_s, pSub_i, pMul_i, pDiv_i, pMod_i, pPow_i, pEq_d, pNe_d, pLt_i, pLe_i, pGt_i, pGe_i, pLt_s, pLe_s, pGt_s, pGe_s, pIs_n, pIs_t, pIs_l, pIs_s, pIs_i, pIs_bn, pIs_b, pIn_s, pIn_l, pIn_t, pIx_l, pIx_t, pIx_s, qLen_s, qLen_l, qLen_t, qInt_i, qInt_b, qTup_l, qTup_t, qList_l, qList_t, qSum, qJoin, qCount, qIndex, locOk, isTW, isT, unW, unWs, noX, seqW_l, seqW_t, sizeLine_eq, L2.atI, L2.ixN, dEnd_rt h, areRules]
def isFolk : PyData → Bool
  | .tuple [a, b] => areMoods a && match a with
    | .str M => areRules M b
    | _ => false
  | _ => false
theorem r_folk {m : Sto} (h : Fl m) (x : PyData) (hx : TxT x = true) : F_is_folk [.d x] m = .ok (.d (.bool (isFolk x))) m := by
  cases x with
  | tuple ds =>
    match ds, hx with
    | [a, b], hx =>
      have ha : TxT a = true := TxTs_mem (ds := [a, b]) (by unfold TxT at hx; exact hx) (by simp)
      have hb : TxT b = true := TxTs_mem (ds := [a, b]) (by unfold TxT at hx; exact hx) (by simp)
      have e1 := r_moods h a (TxT.d ha)
      have e0 := r_pair h (.tuple [a, b])
      have e3 : isPair (.tuple [a, b]) = true := rfl
      cases h1 : areMoods a with
      | false => simp [F_is_folk, fs_is_folk, runD_ap, startE, eVar_ap, eC_ap, eBin_ap, eChain_ap, tV_ap, tNot_ap, tAnd_ap, tOr_ap, eAnd_ap, eOr_ap, eNot_ap, eIf_ap, aNil_ap, aCons_ap, eTup_ap, eLst_ap, eLstM_ap, eRep_ap, eCall_ap, eB_ap, eIsi_ap, eMl_ap, eMs_ap, oNone_ap, oSome_ap, eSl_ap, sNil_ap, sSeq_ap, sRet_ap, sExpr_ap, sIf_ap, sSet_ap, sAsg_ap, sPar_ap, sPut_ap, iSeq_ap, iRg1_ap, iRg2_ap, fYes_ap, iZ2_ap, iZ3_ap, sRaise_ap, eNeg_ap, ofR, R.bind, toB_b, gN, gT, gsCons, gsNil, wipeE, pPlus_i, pPlus_l, pPlus_t, pPlus_s, pSub_i, pMul_i, pDiv_i, pMod_i, pPow_i, pEq_d, pNe_d, pLt_i, pLe_i, pGt_i, pGe_i, pLt_s, pLe_s, pGt_s, pGe_s, pIs_n, pIs_t, pIs_l, pIs_s, pIs_i, pIs_bn, pIs_b, pIn_s, pIn_l, pIn_t, pIx_l, pIx_t, pIx_s, qLen_s, qLen_l, qLen_t, qInt_i, qInt_b, qTup_l, qTup_t, qList_l, qList_t, qSum, qJoin, qCount, qIndex, locOk, isTW, isT, unW, unWs, noX, seqW_l, seqW_t, sizeLine_eq, L2.atI, L2.ixN, e0, e3, e1, h1, isFolk, dEnd_rt h]
      | true =>
        cases a with
        | str M =>
          have e2 := r_rules h M b hb
          simp [F_is_folk, fs_is_folk, runD_ap, startE, eVar_ap, eC_ap, eBin_ap, eChain_ap, tV_ap, tNot_ap, tAnd_ap, tOr_ap, eAnd_ap, eOr_ap, eNot_ap, eIf_ap, aNil_ap, aCons_ap, eTup_ap, eLst_ap, eLstM_ap, eRep_ap, eCall_ap, eB_ap, eIsi_ap, eMl_ap, eMs_ap, oNone_ap, oSome_ap, eSl_ap, sNil_ap, sSeq_ap, sRet_ap, sExpr_ap, sIf_ap, sSet_ap, sAsg_ap, sPar_ap, sPut_ap, iSeq_ap, iRg1_ap, iRg2_ap, fYes_ap, iZ2_ap, iZ3_ap, sRaise_ap, eNeg_ap, ofR, R.bind, toB_b, gN, gT, gsCons, gsNil, wipeE, pPlus_i, pPlus_l, pPlus_t, pPlus_s, pSub_i, pMul_i, pDiv_i, pMod_i, pPow_i, pEq_d, pNe_d, pLt_i, pLe_i, pGt_i, pGe_i, pLt_s, pLe_s, pGt_s, pGe_s, pIs_n, pIs_t, pIs_l, pIs_s, pIs_i, pIs_bn, pIs_b, pIn_s, pIn_l, pIn_t, pIx_l, pIx_t, pIx_s, qLen_s, qLen_l, qLen_t, qInt_i, qInt_b, qTup_l, qTup_t, qList_l, qList_t, qSum, qJoin, qCount, qIndex, locOk, isTW, isT, unW, unWs, noX, seqW_l, seqW_t, sizeLine_eq, L2.atI, L2.ixN, e0, e3, e1, e2, h1, isFolk, dEnd_rt h]
        | _ => exact absurd h1 (by simp [areMoods])
    | [], _ => simp [F_is_folk, fs_is_folk, runD_ap, startE, eVar_ap, eC_ap, eBin_ap, eChain_ap, tV_ap, tNot_ap, tAnd_ap, tOr_ap, eAnd_ap, eOr_ap, eNot_ap, eIf_ap, aNil_ap, aCons_ap, eTup_ap, eLst_ap, eLstM_ap, eRep_ap, eCall_ap, eB_ap, eIsi_ap, eMl_ap, eMs_ap, oNone_ap, oSome_ap, eSl_ap, sNil_ap, sSeq_ap, sRet_ap, sExpr_ap, sIf_ap, sSet_ap, sAsg_ap, sPar_ap, sPut_ap, iSeq_ap, iRg1_ap, iRg2_ap, fYes_ap, iZ2_ap, iZ3_ap, sRaise_ap, eNeg_ap, ofR, R.bind, toB_b, gN, gT, gsCons, gsNil, wipeE, pPlus_i, pPlus_l, pPlus_t, pPlus_s, pSub_i, pMul_i, pDiv_i, pMod_i, pPow_i, pEq_d, pNe_d, pLt_i, pLe_i, pGt_i, pGe_i, pLt_s, pLe_s, pGt_s, pGe_s, pIs_n, pIs_t, pIs_l, pIs_s, pIs_i, pIs_bn, pIs_b, pIn_s, pIn_l, pIn_t, pIx_l, pIx_t, pIx_s, qLen_s, qLen_l, qLen_t, qInt_i, qInt_b, qTup_l, qTup_t, qList_l, qList_t, qSum, qJoin, qCount, qIndex, locOk, isTW, isT, unW, unWs, noX, seqW_l, seqW_t, sizeLine_eq, L2.atI, L2.ixN, r_pair h, isPair, isFolk, dEnd_rt h]
    | [_], _ => simp [F_is_folk, fs_is_folk, runD_ap, startE, eVar_ap, eC_ap, eBin_ap, eChain_ap, tV_ap, tNot_ap, tAnd_ap, tOr_ap, eAnd_ap, eOr_ap, eNot_ap, eIf_ap, aNil_ap, aCons_ap, eTup_ap, eLst_ap, eLstM_ap, eRep_ap, eCall_ap, eB_ap, eIsi_ap, eMl_ap, eMs_ap, oNone_ap, oSome_ap, eSl_ap, sNil_ap, sSeq_ap, sRet_ap, sExpr_ap, sIf_ap, sSet_ap, sAsg_ap, sPar_ap, sPut_ap, iSeq_ap, iRg1_ap, iRg2_ap, fYes_ap, iZ2_ap, iZ3_ap, sRaise_ap, eNeg_ap, ofR, R.bind, toB_b, gN, gT, gsCons, gsNil, wipeE, pPlus_i, pPlus_l, pPlus_t, pPlus_s, pSub_i, pMul_i, pDiv_i, pMod_i, pPow_i, pEq_d, pNe_d, pLt_i, pLe_i, pGt_i, pGe_i, pLt_s, pLe_s, pGt_s, pGe_s, pIs_n, pIs_t, pIs_l, pIs_s, pIs_i, pIs_bn, pIs_b, pIn_s, pIn_l, pIn_t, pIx_l, pIx_t, pIx_s, qLen_s, qLen_l, qLen_t, qInt_i, qInt_b, qTup_l, qTup_t, qList_l, qList_t, qSum, qJoin, qCount, qIndex, locOk, isTW, isT, unW, unWs, noX, seqW_l, seqW_t, sizeLine_eq, L2.atI, L2.ixN, r_pair h, isPair, isFolk, dEnd_rt h]
    | _ :: _ :: _ :: _, _ => simp [F_is_folk, fs_is_folk, runD_ap, startE, eVar_ap, eC_ap, eBin_ap, eChain_ap, tV_ap, tNot_ap, tAnd_ap, tOr_ap, eAnd_ap, eOr_ap, eNot_ap, eIf_ap, aNil_ap, aCons_ap, eTup_ap, eLst_ap, eLstM_ap, eRep_ap, eCall_ap, eB_ap, eIsi_ap, eMl_ap, eMs_ap, oNone_ap, oSome_ap, eSl_ap, sNil_ap, sSeq_ap, sRet_ap, sExpr_ap, sIf_ap, sSet_ap, sAsg_ap, sPar_ap, sPut_ap, iSeq_ap, iRg1_ap, iRg2_ap, fYes_ap, iZ2_ap, iZ3_ap, sRaise_ap, eNeg_ap, ofR, R.bind, toB_b, gN, gT, gsCons, gsNil, wipeE, pPlus_i, pPlus_l, pPlus_t, pPlus_s, pSub_i, pMul_i, pDiv_i, pMod_i, pPow_i, pEq_d, pNe_d, pLt_i, pLe_i, pGt_i, pGe_i, pLt_s, pLe_s, pGt_s, pGe_s, pIs_n, pIs_t, pIs_l, pIs_s, pIs_i, pIs_bn, pIs_b, pIn_s, pIn_l, pIn_t, pIx_l, pIx_t, pIx_s, qLen_s, qLen_l, qLen_t, qInt_i, qInt_b, qTup_l, qTup_t, qList_l, qList_t, qSum, qJoin, qCount, qIndex, locOk, isTW, isT, unW, unWs, noX, seqW_l, seqW_t, sizeLine_eq, L2.atI, L2.ixN, r_pair h, isPair, isFolk, dEnd_rt h]
  | _ => simp [F_is_folk, fs_is_folk, runD_ap, startE, eVar_ap, eC_ap, eBin_ap, eChain_ap, tV_ap, tNot_ap, tAnd_ap, tOr_ap, eAnd_ap, eOr_ap, eNot_ap, eIf_ap, aNil_ap, aCons_ap, eTup_ap, eLst_ap, eLstM_ap, eRep_ap, eCall_ap, eB_ap, eIsi_ap, eMl_ap, eMs_ap, oNone_ap, oSome_ap, eSl_ap, sNil_ap, sSeq_ap, sRet_ap, sExpr_ap, sIf_ap, sSet_ap, sAsg_ap, sPar_ap, sPut_ap, iSeq_ap, iRg1_ap, iRg2_ap, fYes_ap, iZ2_ap, iZ3_ap, sRaise_ap, eNeg_ap, ofR, R.bind, toB_b, gN, gT, gsCons, gsNil, wipeE, pPlus_i, pPlus_l, pPlus_t, pPlus_s, pSub_i, pMul_i, pDiv_i, pMod_i, pPow_i, pEq_d, pNe_d, pLt_i, pLe_i, pGt_i, pGe_i, pLt_s, pLe_s, pGt_s, pGe_s, pIs_n, pIs_t, pIs_l, pIs_s, pIs_i, pIs_bn, pIs_b, pIn_s, pIn_l, pIn_t, pIx_l, pIx_t, pIx_s, qLen_s, qLen_l, qLen_t, qInt_i, qInt_b, qTup_l, qTup_t, qList_l, qList_t, qSum, qJoin, qCount, qIndex, locOk, isTW, isT, unW, unWs, noX, seqW_l, seqW_t, sizeLine_eq, L2.atI, L2.ixN, r_pair h, isPair, isFolk, dEnd_rt h]
/-! ### crowds -/
abbrev TOP : Int := 10000000000000000000000000000000000000000
def isMany : PyData → Bool
  | .int i => decide (0 ≤ i) && decide (i ≤ TOP)
  | _ => false
def isCrowd (n : Nat) : PyData → Bool
  | .tuple ds => decide (ds.length = n) && ds.all isMany
  | _ => false
theorem r_crowd {m : Sto} (h : Fl m) (M : Str) (r x : PyData) (hM : M.length ≤ 16777216) : F_is_crowd [.d (.tuple [.str M, r]), .d x] m = .ok (.d (.bool (isCrowd M.length x))) m := by
  cases x with
  | tuple ds =>
    have q1 : eQ true [2] (iSeq (eVar 1)) (gN 2) (eAnd (eCall 1 F_is_integer (aCons (eVar 2) aNil)) (eChain pLe pLe (eC (.int 0)) (eVar 2) (eC (.int (10000000000000000000000000000000000000000))))) [some (.d (.tuple [.str M, r])), some (.d (.tuple ds)), none] m = .ok (.d (.bool (ds.all isMany))) m := by
      rw [eQ_map (g := W.d) (l := ds) (m1 := m) (p := isMany) (by simp [runD_ap, startE, eVar_ap, eC_ap, eBin_ap, eChain_ap, tV_ap, tNot_ap, tAnd_ap, tOr_ap, eAnd_ap, eOr_ap, eNot_ap, eIf_ap, aNil_ap, aCons_ap, eTup_ap, eLst_ap, eLstM_ap, eRep_ap, eCall_ap, eB_ap, eIsi_ap, eMl_ap, eMs_ap, oNone_ap, oSome_ap, eSl_ap, sNil_ap, sSeq_ap, sRet_ap, sExpr_ap, sIf_ap, sSet_ap, sAsg_ap, sPar_ap, sPut_ap, iSeq_ap, iRg1_ap, iRg2_ap, fYes_ap, iZ2_ap, iZ3_ap, sRaise_ap, eNeg_ap, ofR, R.bind, toB_b, gN, gT, gsCons, gsNil, wipeE, pPlus_i, pPlus_l, pPlus_t, pPlus_s, pSub_i, pMul_i, pDiv_i, pMod_i, pPow_i, pEq_d, pNe_d, pLt_i, pLe_i, pGt_i, pGe_i, pLt_s, pLe_s, pGt_s, pGe_s, pIs_n, pIs_t, pIs_l, pIs_s, pIs_i, pIs_bn, pIs_b, pIn_s, pIn_l, pIn_t, pIx_l, pIx_t, pIx_s, qLen_s, qLen_l, qLen_t, qInt_i, qInt_b, qTup_l, qTup_t, qList_l, qList_t, qSum, qJoin, qCount, qIndex, locOk, isTW, isT, unW, unWs, noX, seqW_l, seqW_t, sizeLine_eq, L2.atI, L2.ixN]) (fun d hd => ?_)]
      · rfl
      · refine ⟨_, rfl, ?_⟩
        have e := r_integer h d
        cases d with
        | int i =>
          by_cases h0 : 0 ≤ i
          · by_cases h1 : i ≤ TOP
            · simp [runD_ap, startE, eVar_ap, eC_ap, eBin_ap, eChain_ap, tV_ap, tNot_ap, tAnd_ap, tOr_ap, eAnd_ap, eOr_ap, eNot_ap, eIf_ap, aNil_ap, aCons_ap, eTup_ap, eLst_ap, eLstM_ap, eRep_ap, eCall_ap, eB_ap, eIsi_ap, eMl_ap, eMs_ap, oNone_ap, oSome_ap, eSl_ap, sNil_ap, sSeq_ap, sRet_ap, sExpr_ap, sIf_ap, sSet_ap, sAsg_ap, sPar_ap, sPut_ap, iSeq_ap, iRg1_ap, iRg2_ap, fYes_ap, iZ2_ap, iZ3_ap, sRaise_ap, eNeg_ap, ofR, R.bind, toB_b, gN, gT, gsCons, gsNil, wipeE, pPlus_i, pPlus_l, pPlus_t, pPlus_s, pSub_i, pMul_i, pDiv_i, pMod_i, pPow_i, pEq_d, pNe_d, pLt_i, pLe_i, pGt_i, pGe_i, pLt_s, pLe_s, pGt_s, pGe_s, pIs_n, pIs_t, pIs_l, pIs_s, pIs_i, pIs_bn, pIs_b, pIn_s, pIn_l, pIn_t, pIx_l, pIx_t, pIx_s, qLen_s, qLen_l, qLen_t, qInt_i, qInt_b, qTup_l, qTup_t, qList_l, qList_t, qSum, qJoin, qCount, qIndex, locOk, isTW, isT, unW, unWs, noX, seqW_l, seqW_t, sizeLine_eq, L2.atI, L2.ixN, e, isInt, isMany, h0, h1]
            · simp [runD_ap, startE, eVar_ap, eC_ap, eBin_ap, eChain_ap, tV_ap, tNot_ap, tAnd_ap, tOr_ap, eAnd_ap, eOr_ap, eNot_ap, eIf_ap, aNil_ap, aCons_ap, eTup_ap, eLst_ap, eLstM_ap, eRep_ap, eCall_ap, eB_ap, eIsi_ap, eMl_ap, eMs_ap, oNone_ap, oSome_ap, eSl_ap, sNil_ap, sSeq_ap, sRet_ap, sExpr_ap, sIf_ap, sSet_ap, sAsg_ap, sPar_ap, sPut_ap, iSeq_ap, iRg1_ap, iRg2_ap, fYes_ap, iZ2_ap, iZ3_ap, sRaise_ap, eNeg_ap, ofR, R.bind, toB_b, gN, gT, gsCons, gsNil, wipeE, pPlus_i, pPlus_l, pPlus_t, pPlus_s, pSub_i, pMul_i, pDiv_i, pMod_i, pPow_i, pEq_d, pNe_d, pLt_i, pLe_i, pGt_i, pGe_i, pLt_s, pLe_s, pGt_s, pGe_s, pIs_n, pIs_t, pIs_l, pIs_s, pIs_i, pIs_bn, pIs_b, pIn_s, pIn_l, pIn_t, pIx_l, pIx_t, pIx_s, qLen_s, qLen_l, qLen_t, qInt_i, qInt_b, qTup_l, qTup_t, qList_l, qList_t, qSum, qJoin, qCount, qIndex, locOk, isTW, isT, unW, unWs, noX, seqW_l, seqW_t, sizeLine_eq, L2.atI, L2.ixN, e, isInt, isMany, h0, h1]
          · simp [runD_ap, startE, eVar_ap, eC_ap, eBin_ap, eChain_ap, tV_ap, tNot_ap, tAnd_ap, tOr_ap, eAnd_ap, eOr_ap, eNot_ap, eIf_ap, aNil_ap, aCons_ap, eTup_ap, eLst_ap, eLstM_ap, eRep_ap, eCall_ap, eB_ap, eIsi_ap, eMl_ap, eMs_ap, oNone_ap, oSome_ap, eSl_ap, sNil_ap, sSeq_ap, sRet_ap, sExpr_ap, sIf_ap, sSet_ap, sAsg_ap, sPar_ap, sPut_ap, iSeq_ap, iRg1_ap, iRg2_ap, fYes_ap, iZ2_ap, iZ3_ap, sRaise_ap, eNeg_ap, ofR, R.bind, toB_b, gN, gT, gsCons, gsNil, wipeE, pPlus_i, pPlus_l, pPlus_t, pPlus_s, pSub_i, pMul_i, pDiv_i, pMod_i, pPow_i, pEq_d, pNe_d, pLt_i, pLe_i, pGt_i, pGe_i, pLt_s, pLe_s, pGt_s, pGe_s, pIs_n, pIs_t, pIs_l, pIs_s, pIs_i, pIs_bn, pIs_b, pIn_s, pIn_l, pIn_t, pIx_l, pIx_t, pIx_s, qLen_s, qLen_l, qLen_t, qInt_i, qInt_b, qTup_l, qTup_t, qList_l, qList_t, qSum, qJoin, qCount, qIndex, locOk, isTW, isT, unW, unWs, noX, seqW_l, seqW_t, sizeLine_eq, L2.atI, L2.ixN, e, isInt, isMany, h0]
        | _ => simp [runD_ap, startE, eVar_ap, eC_ap, eBin_ap, eChain_ap, tV_ap, tNot_ap, tAnd_ap, tOr_ap, eAnd_ap, eOr_ap, eNot_ap, eIf_ap, aNil_ap, aCons_ap, eTup_ap, eLst_ap, eLstM_ap, eRep_ap, eCall_ap, eB_ap, eIsi_ap, eMl_ap, eMs_ap, oNone_ap, oSome_ap, eSl_ap, sNil_ap, sSeq_ap, sRet_ap, sExpr_ap, sIf_ap, sSet_ap, sAsg_ap, sPar_ap, sPut_ap, iSeq_ap, iRg1_ap, iRg2_ap, fYes_ap, iZ2_ap, iZ3_ap, sRaise_ap, eNeg_ap, ofR, R.bind, toB_b, gN, gT, gsCons, gsNil, wipeE, pPlus_i, pPlus_l, pPlus_t, pPlus_s, pSub_i, pMul_i, pDiv_i, pMod_i, pPow_i, pEq_d, pNe_d, pLt_i, pLe_i, pGt_i, pGe_i, pLt_s, pLe_s, pGt_s, pGe_s, pIs_n, pIs_t, pIs_l, pIs_s, pIs_i, pIs_bn, pIs_b, pIn_s, pIn_l, pIn_t, pIx_l, pIx_t, pIx_s, qLen_s, qLen_l, qLen_t, qInt_i, qInt_b, qTup_l, qTup_t, qList_l, qList_t, qSum, qJoin, qCount, qIndex, locOk, isTW, isT, unW, unWs, noX, seqW_l, seqW_t, sizeLine_eq, L2.atI, L2.ixN, e, isInt, isMany]
    have am : isCrowd M.length (.tuple ds) = (decide (ds.length = M.length) && ds.all isMany) := rfl
    rw [am]
    by_cases hl : ds.length = M.length
    · simp [F_is_crowd, fs_is_crowd, runD_ap, startE, eVar_ap, eC_ap, eBin_ap, eChain_ap, tV_ap, tNot_ap, tAnd_ap, tOr_ap, eAnd_ap, eOr_ap, eNot_ap, eIf_ap, aNil_ap, aCons_ap, eTup_ap, eLst_ap, eLstM_ap, eRep_ap, eCall_ap, eB_ap, eIsi_ap, eMl_ap, eMs_ap, oNone_ap, oSome_ap, eSl_ap, sNil_ap, sSeq_ap, sRet_ap, sExpr_ap, sIf_ap, sSet_ap, sAsg_ap, sPar_ap, sPut_ap, iSeq_ap, iRg1_ap, iRg2_ap, fYes_ap, iZ2_ap, iZ3_ap, sRaise_ap, eNeg_ap, ofR, R.bind, toB_b, gN, gT, gsCons, gsNil, wipeE, pPlus_i, pPlus_l, pPlus_t, pPlus_s, pSub_i, pMul_i, pDiv_i, pMod_i, pPow_i, pEq_d, pNe_d, pLt_i, pLe_i, pGt_i, pGe_i, pLt_s, pLe_s, pGt_s, pGe_s, pIs_n, pIs_t, pIs_l, pIs_s, pIs_i, pIs_bn, pIs_b, pIn_s, pIn_l, pIn_t, pIx_l, pIx_t, pIx_s, qLen_s, qLen_l, qLen_t, qInt_i, qInt_b, qTup_l, qTup_t, qList_l, qList_t, qSum, qJoin, qCount, qIndex, locOk, isTW, isT, unW, unWs, noX, seqW_l, seqW_t, sizeLine_eq, L2.atI, L2.ixN, hM, hl, q1, sh_int, ev_int, dEnd_rt h]
    · have hl' : ¬ (ds.length : Int) = M.length := by omega
      simp [F_is_crowd, fs_is_crowd, runD_ap, startE, eVar_ap, eC_ap, eBin_ap, eChain_ap, tV_ap, tNot_ap, tAnd_ap, tOr_ap, eAnd_ap, eOr_ap, eNot_ap, eIf_ap, aNil_ap, aCons_ap, eTup_ap, eLst_ap, eLstM_ap, eRep_ap, eCall_ap, eB_ap, eIsi_ap, eMl_ap, eMs_ap, oNone_ap, oSome_ap, eSl_ap, sNil_ap, sSeq_ap, sRet_ap, sExpr_ap, sIf_ap, sSet_ap, sAsg_ap, sPar_ap, sPut_ap, iSeq_ap, iRg1_ap, iRg2_ap, fYes_ap, iZ2_ap, iZ3_ap, sRaise_ap, eNeg_ap, ofR, R.bind, toB_b, gN, gT, gsCons, gsNil, wipeE, pPlus_i, pPlus_l, pPlus_t, pPlus_s, pSub_i, pMul_i, pDiv_i, pMod_i, pPow_i, pEq_d, pNe_d, pLt_i, pLe_i, pGt_i, pGe_i, pLt_s, pLe_s, pGt_s, pGe_s, pIs_n, pIs_t, pIs_l, pIs_s, pIs_i, pIs_bn, pIs_b, pIn_s, pIn_l, pIn_t, pIx_l, pIx_t, pIx_s, qLen_s, qLen_l, qLen_t, qInt_i, qInt_b, qTup_l, qTup_t, qList_l, qList_t, qSum, qJoin, qCount, qIndex, locOk, isTW, isT, unW, unWs, noX, seqW_l, seqW_t, sizeLine_eq, L2.atI, L2.ixN, hM, hl, hl', sh_int, ev_int, dEnd_rt h]
  | _ => simp [F_is_crowd, fs_is_crowd, runD_ap, startE, eVar_ap, eC_ap, eBin_ap, eChain_ap, tV_ap, tNot_ap, tAnd_ap, tOr_ap, eAnd_ap, eOr_ap, eNot_ap, eIf_ap, aNil_ap, aCons_ap, eTup_ap, eLst_ap, eLstM_ap, eRep_ap, eCall_ap, eB_ap, eIsi_ap, eMl_ap, eMs_ap, oNone_ap, oSome_ap, eSl_ap, sNil_ap, sSeq_ap, sRet_ap, sExpr_ap, sIf_ap, sSet_ap, sAsg_ap, sPar_ap, sPut_ap, iSeq_ap, iRg1_ap, iRg2_ap, fYes_ap, iZ2_ap, iZ3_ap, sRaise_ap, eNeg_ap, ofR, R.bind, toB_b, gN, gT, gsCons, gsNil, wipeE, pPlus_i, pPlus_l, pPlus_t, pPlus_s, pSub_i, pMul_i, pDiv_i, pMod_i, pPow_i, pEq_d, pNe_d, pLt_i, pLe_i, pGt_i, pGe_i, pLt_s, pLe_s, pGt_s, pGe_s, pIs_n, pIs_t, pIs_l, pIs_s, pIs_i, pIs_bn, pIs_b, pIn_s, pIn_l, pIn_t, pIx_l, pIx_t, pIx_s, qLen_s, qLen_l, qLen_t, qInt_i, qInt_b, qTup_l, qTup_t, qList_l, qList_t, qSum, qJoin, qCount, qIndex, locOk, isTW, isT, unW, unWs, noX, seqW_l, seqW_t, sizeLine_eq, L2.atI, L2.ixN, dEnd_rt h, isCrowd]
theorem r_dfolk {m : Sto} (h : Fl m) (x : PyData) (hx : TxT x = true) : F_demand_folk [.d x] m = if isFolk x then .ok (.d .none) m else .exc "BadFolk" m := by
  have e := r_folk h x hx
  cases hb : isFolk x with
  | true => simp [F_demand_folk, fs_demand_folk, runD_ap, startE, eVar_ap, eC_ap, eBin_ap, eChain_ap, tV_ap, tNot_ap, tAnd_ap, tOr_ap, eAnd_ap, eOr_ap, eNot_ap, eIf_ap, aNil_ap, aCons_ap, eTup_ap, eLst_ap, eLstM_ap, eRep_ap, eCall_ap, eB_ap, eIsi_ap, eMl_ap, eMs_ap, oNone_ap, oSome_ap, eSl_ap, sNil_ap, sSeq_ap, sRet_ap, sExpr_ap, sIf_ap, sSet_ap, sAsg_ap, sPar_ap, sPut_ap, iSeq_ap, iRg1_ap, iRg2_ap, fYes_ap, iZ2_ap, iZ3_ap, sRaise_ap, eNeg_ap, ofR, R.bind, toB_b, gN, gT, gsCons, gsNil, wipeE, pPlus_i, pPlus_l, pPlus_t, pPlus_s, pSub_i, pMul_i, pDiv_i, pMod_i, pPow_i, pEq_d, pNe_d, pLt_i, pLe_i, pGt_i, pGe_i, pLt_s, pLe_s, pGt_s, pGe_s, pIs_n, pIs_t, pIs_l, pIs_s, pIs_i, pIs_bn, pIs_b, pIn_s, pIn_l, pIn_t, pIx_l, pIx_t, pIx_s, qLen_s, qLen_l, qLen_t, qInt_i, qInt_b, qTup_l, qTup_t, qList_l, qList_t, qSum, qJoin, qCount, qIndex, locOk, isTW, isT, unW, unWs, noX, seqW_l, seqW_t, sizeLine_eq, L2.atI, L2.ixN, e, hb, dEnd_nx h]
  | false => simp [F_demand_folk, fs_demand_folk, runD_ap, startE, eVar_ap, eC_ap, eBin_ap, eChain_ap, tV_ap, tNot_ap, tAnd_ap, tOr_ap, eAnd_ap, eOr_ap, eNot_ap, eIf_ap, aNil_ap, aCons_ap, eTup_ap, eLst_ap, eLstM_ap, eRep_ap, eCall_ap, eB_ap, eIsi_ap, eMl_ap, eMs_ap, oNone_ap, oSome_ap, eSl_ap, sNil_ap, sSeq_ap, sRet_ap, sExpr_ap, sIf_ap, sSet_ap, sAsg_ap, sPar_ap, sPut_ap, iSeq_ap, iRg1_ap, iRg2_ap, fYes_ap, iZ2_ap, iZ3_ap, sRaise_ap, eNeg_ap, ofR, R.bind, toB_b, gN, gT, gsCons, gsNil, wipeE, pPlus_i, pPlus_l, pPlus_t, pPlus_s, pSub_i, pMul_i, pDiv_i, pMod_i, pPow_i, pEq_d, pNe_d, pLt_i, pLe_i, pGt_i, pGe_i, pLt_s, pLe_s, pGt_s, pGe_s, pIs_n, pIs_t, pIs_l, pIs_s, pIs_i, pIs_bn, pIs_b, pIn_s, pIn_l, pIn_t, pIx_l, pIx_t, pIx_s, qLen_s, qLen_l, qLen_t, qInt_i, qInt_b, qTup_l, qTup_t, qList_l, qList_t, qSum, qJoin, qCount, qIndex, locOk, isTW, isT, unW, unWs, noX, seqW_l, seqW_t, sizeLine_eq, L2.atI, L2.ixN, e, hb, dEnd_exc h]
theorem r_dcrowd {m : Sto} (h : Fl m) (M : Str) (r x : PyData) (hM : M.length ≤ 16777216) : F_demand_crowd [.d (.tuple [.str M, r]), .d x] m = if isCrowd M.length x then .ok (.d .none) m else .exc "BadCrowd" m := by
  have e := r_crowd h M r x hM
  cases hb : isCrowd M.length x with
  | true => simp [F_demand_crowd, fs_demand_crowd, runD_ap, startE, eVar_ap, eC_ap, eBin_ap, eChain_ap, tV_ap, tNot_ap, tAnd_ap, tOr_ap, eAnd_ap, eOr_ap, eNot_ap, eIf_ap, aNil_ap, aCons_ap, eTup_ap, eLst_ap, eLstM_ap, eRep_ap, eCall_ap, eB_ap, eIsi_ap, eMl_ap, eMs_ap, oNone_ap, oSome_ap, eSl_ap, sNil_ap, sSeq_ap, sRet_ap, sExpr_ap, sIf_ap, sSet_ap, sAsg_ap, sPar_ap, sPut_ap, iSeq_ap, iRg1_ap, iRg2_ap, fYes_ap, iZ2_ap, iZ3_ap, sRaise_ap, eNeg_ap, ofR, R.bind, toB_b, gN, gT, gsCons, gsNil, wipeE, pPlus_i, pPlus_l, pPlus_t, pPlus_s, pSub_i, pMul_i, pDiv_i, pMod_i, pPow_i, pEq_d, pNe_d, pLt_i, pLe_i, pGt_i, pGe_i, pLt_s, pLe_s, pGt_s, pGe_s, pIs_n, pIs_t, pIs_l, pIs_s, pIs_i, pIs_bn, pIs_b, pIn_s, pIn_l, pIn_t, pIx_l, pIx_t, pIx_s, qLen_s, qLen_l, qLen_t, qInt_i, qInt_b, qTup_l, qTup_t, qList_l, qList_t, qSum, qJoin, qCount, qIndex, locOk, isTW, isT, unW, unWs, noX, seqW_l, seqW_t, sizeLine_eq, L2.atI, L2.ixN, e, hb, dEnd_nx h]
  | false => simp [F_demand_crowd, fs_demand_crowd, runD_ap, startE, eVar_ap, eC_ap, eBin_ap, eChain_ap, tV_ap, tNot_ap, tAnd_ap, tOr_ap, eAnd_ap, eOr_ap, eNot_ap, eIf_ap, aNil_ap, aCons_ap, eTup_ap, eLst_ap, eLstM_ap, eRep_ap, eCall_ap, eB_ap, eIsi_ap, eMl_ap, eMs_ap, oNone_ap, oSome_ap, eSl_ap, sNil_ap, sSeq_ap, sRet_ap, sExpr_ap, sIf_ap, sSet_ap, sAsg_ap, sPar_ap, sPut_ap, iSeq_ap, iRg1_ap, iRg2_ap, fYes_ap, iZ2_ap, iZ3_ap, sRaise_ap, eNeg_ap, ofR, R.bind, toB_b, gN, gT, gsCons, gsNil, wipeE, pPlus_i, pPlus_l, pPlus_t, pPlus_s, pSub_i, pMul_i, pDiv_i, pMod_i, pPow_i, pEq_d, pNe_d, pLt_i, pLe_i, pGt_i, pGe_i, pLt_s, pLe_s, pGt_s, pGe_s, pIs_n, pIs_t, pIs_l, pIs_s, pIs_i, pIs_bn, pIs_b, pIn_s, pIn_l, pIn_t, pIx_l, pIx_t, pIx_s, qLen_s, qLen_l, qLen_t, qInt_i, qInt_b, qTup_l, qTup_t, qList_l, qList_t, qSum, qJoin, qCount, qIndex, locOk, isTW, isT, unW, unWs, noX, seqW_l, seqW_t, sizeLine_eq, L2.atI, L2.ixN, e, hb, dEnd_exc h]
/-- a crowd of ints -/
def cw (cs : List Int) : PyData := .tuple (cs.map .int)
theorem r_room {m : Sto} (h : Fl m) (cs : List Int) : F_demand_room [.d (cw cs)] m = if cs.any (fun i => decide (TOP < i)) then .exc "TooGreat" m else .ok (.d .none) m := by
  have q1 : eQ false [1] (iSeq (eVar 0)) (gN 1) (eBin pGt (eVar 1) (eC (.int (10000000000000000000000000000000000000000)))) [some (.d (cw cs)), none] m = .ok (.d (.bool (cs.any fun i => decide (TOP < i)))) m := by
    rw [eQ_map (g := fun i => W.d (.int i)) (l := cs) (m1 := m) (p := fun i => decide (TOP < i)) (by simp [runD_ap, startE, eVar_ap, eC_ap, eBin_ap, eChain_ap, tV_ap, tNot_ap, tAnd_ap, tOr_ap, eAnd_ap, eOr_ap, eNot_ap, eIf_ap, aNil_ap, aCons_ap, eTup_ap, eLst_ap, eLstM_ap, eRep_ap, eCall_ap, eB_ap, eIsi_ap, eMl_ap, eMs_ap, oNone_ap, oSome_ap, eSl_ap, sNil_ap, sSeq_ap, sRet_ap, sExpr_ap, sIf_ap, sSet_ap, sAsg_ap, sPar_ap, sPut_ap, iSeq_ap, iRg1_ap, iRg2_ap, fYes_ap, iZ2_ap, iZ3_ap, sRaise_ap, eNeg_ap, ofR, R.bind, toB_b, gN, gT, gsCons, gsNil, wipeE, pPlus_i, pPlus_l, pPlus_t, pPlus_s, pSub_i, pMul_i, pDiv_i, pMod_i, pPow_i, pEq_d, pNe_d, pLt_i, pLe_i, pGt_i, pGe_i, pLt_s, pLe_s, pGt_s, pGe_s, pIs_n, pIs_t, pIs_l, pIs_s, pIs_i, pIs_bn, pIs_b, pIn_s, pIn_l, pIn_t, pIx_l, pIx_t, pIx_s, qLen_s, qLen_l, qLen_t, qInt_i, qInt_b, qTup_l, qTup_t, qList_l, qList_t, qSum, qJoin, qCount, qIndex, locOk, isTW, isT, unW, unWs, noX, seqW_l, seqW_t, sizeLine_eq, L2.atI, L2.ixN, cw, Function.comp_def]) (fun i hi => ?_)]
    · rfl
    · exact ⟨_, rfl, by simp [runD_ap, startE, eVar_ap, eC_ap, eBin_ap, eChain_ap, tV_ap, tNot_ap, tAnd_ap, tOr_ap, eAnd_ap, eOr_ap, eNot_ap, eIf_ap, aNil_ap, aCons_ap, eTup_ap, eLst_ap, eLstM_ap, eRep_ap, eCall_ap, eB_ap, eIsi_ap, eMl_ap, eMs_ap, oNone_ap, oSome_ap, eSl_ap, sNil_ap, sSeq_ap, sRet_ap, sExpr_ap, sIf_ap, sSet_ap, sAsg_ap, sPar_ap, sPut_ap, iSeq_ap, iRg1_ap, iRg2_ap, fYes_ap, iZ2_ap, iZ3_ap, sRaise_ap, eNeg_ap, ofR, R.bind, toB_b, gN, gT, gsCons, gsNil, wipeE, pPlus_i, pPlus_l, pPlus_t, pPlus_s, pSub_i, pMul_i, pDiv_i, pMod_i, pPow_i, pEq_d, pNe_d, pLt_i, pLe_i, pGt_i, pGe_i, pLt_s, pLe_s, pGt_s, pGe_s, pIs_n, pIs_t, pIs_l, pIs_s, pIs_i, pIs_bn, pIs_b, pIn_s, pIn_l, pIn_t, pIx_l, pIx_t, pIx_s, qLen_s, qLen_l, qLen_t, qInt_i, qInt_b, qTup_l, qTup_t, qList_l, qList_t, qSum, qJoin, qCount, qIndex, locOk, isTW, isT, unW, unWs, noX, seqW_l, seqW_t, sizeLine_eq, L2.atI, L2.ixN]⟩
  generalize (cs.any fun i => decide (TOP < i)) = b at q1
  cases b with
  | true => simp [F_demand_room, fs_demand_room, runD_ap, startE, eVar_ap, eC_ap, eBin_ap, eChain_ap, tV_ap, tNot_ap, tAnd_ap, tOr_ap, eAnd_ap, eOr_ap, eNot_ap, eIf_ap, aNil_ap, aCons_ap, eTup_ap, eLst_ap, eLstM_ap, eRep_ap, eCall_ap, eB_ap, eIsi_ap, eMl_ap, eMs_ap, oNone_ap, oSome_ap, eSl_ap, sNil_ap, sSeq_ap, sRet_ap, sExpr_ap, sIf_ap, sSet_ap, sAsg_ap, sPar_ap, sPut_ap, iSeq_ap, iRg1_ap, iRg2_ap, fYes_ap, iZ2_ap, iZ3_ap, sRaise_ap, eNeg_ap, ofR, R.bind, toB_b, gN, gT, gsCons, gsNil, wipeE, pPlus_i, pPlus_l, pPlus_t, pPlus_s, pSub_i, pMul_i, pDiv_i, pMod_i, pPow_i, pEq_d, pNe_d, pLt_i, pLe_i, pGt_i, pGe_i, pLt_s, pLe_s, pGt_s, pGe_s, pIs_n, pIs_t, pIs_l, pIs_s, pIs_i, pIs_bn, pIs_b, pIn_s, pIn_l, pIn_t, pIx_l, pIx_t, pIx_s, qLen_s, qLen_l, qLen_t, qInt_i, qInt_b, qTup_l, qTup_t, qList_l, qList_t, qSum, qJoin, qCount, qIndex, locOk, isTW, isT, unW, unWs, noX, seqW_l, seqW_t, sizeLine_eq, L2.atI, L2.ixN, q1, dEnd_exc h]
  | false => simp [F_demand_room, fs_demand_room, runD_ap, startE, eVar_ap, eC_ap, eBin_ap, eChain_ap, tV_ap, tNot_ap, tAnd_ap, tOr_ap, eAnd_ap, eOr_ap, eNot_ap, eIf_ap, aNil_ap, aCons_ap, eTup_ap, eLst_ap, eLstM_ap, eRep_ap, eCall_ap, eB_ap, eIsi_ap, eMl_ap, eMs_ap, oNone_ap, oSome_ap, eSl_ap, sNil_ap, sSeq_ap, sRet_ap, sExpr_ap, sIf_ap, sSet_ap, sAsg_ap, sPar_ap, sPut_ap, iSeq_ap, iRg1_ap, iRg2_ap, fYes_ap, iZ2_ap, iZ3_ap, sRaise_ap, eNeg_ap, ofR, R.bind, toB_b, gN, gT, gsCons, gsNil, wipeE, pPlus_i, pPlus_l, pPlus_t, pPlus_s, pSub_i, pMul_i, pDiv_i, pMod_i, pPow_i, pEq_d, pNe_d, pLt_i, pLe_i, pGt_i, pGe_i, pLt_s, pLe_s, pGt_s, pGe_s, pIs_n, pIs_t, pIs_l, pIs_s, pIs_i, pIs_bn, pIs_b, pIn_s, pIn_l, pIn_t, pIx_l, pIx_t, pIx_s, qLen_s, qLen_l, qLen_t, qInt_i, qInt_b, qTup_l, qTup_t, qList_l, qList_t, qSum, qJoin, qCount, qIndex, locOk, isTW, isT, unW, unWs, noX, seqW_l, seqW_t, sizeLine_eq, L2.atI, L2.ixN, q1, dEnd_nx h]
theorem filt_true {α : Type} (l : List α) : l.filter (fun _ => true) = l := List.filter_eq_self.mpr fun _ _ => rfl
/-- how many of each mood are in a text -/
def nums (M t : Str) : List Int := M.cps.toList.map fun c => Txt.count t ⟨#[c]⟩
theorem r_numbers {m : Sto} (h : Fl m) (M t : Str) (hM : M.length ≤ 16777216) : F_numbers_of [.d (.str M), .d (.str t)] m = .ok (.d (cw (nums M t))) m := by
  have q1 : eLc [2] (iSeq (eVar 0)) (gN 2) fYes (eMs qCount (eVar 1) (eVar 2)) [some (.d (.str M)), some (.d (.str t)), none] m = .ok (.d (.list ((nums M t).map .int))) m := by
    rw [eLc_map (g0 := fun c => W.d (.str ⟨#[c]⟩)) (l := M.cps.toList) (m1 := m) (c := fun _ => true) (g := fun c => .int (Txt.count t ⟨#[c]⟩)) (by simp [runD_ap, startE, eVar_ap, eC_ap, eBin_ap, eChain_ap, tV_ap, tNot_ap, tAnd_ap, tOr_ap, eAnd_ap, eOr_ap, eNot_ap, eIf_ap, aNil_ap, aCons_ap, eTup_ap, eLst_ap, eLstM_ap, eRep_ap, eCall_ap, eB_ap, eIsi_ap, eMl_ap, eMs_ap, oNone_ap, oSome_ap, eSl_ap, sNil_ap, sSeq_ap, sRet_ap, sExpr_ap, sIf_ap, sSet_ap, sAsg_ap, sPar_ap, sPut_ap, iSeq_ap, iRg1_ap, iRg2_ap, fYes_ap, iZ2_ap, iZ3_ap, sRaise_ap, eNeg_ap, ofR, R.bind, toB_b, gN, gT, gsCons, gsNil, wipeE, pPlus_i, pPlus_l, pPlus_t, pPlus_s, pSub_i, pMul_i, pDiv_i, pMod_i, pPow_i, pEq_d, pNe_d, pLt_i, pLe_i, pGt_i, pGe_i, pLt_s, pLe_s, pGt_s, pGe_s, pIs_n, pIs_t, pIs_l, pIs_s, pIs_i, pIs_bn, pIs_b, pIn_s, pIn_l, pIn_t, pIx_l, pIx_t, pIx_s, qLen_s, qLen_l, qLen_t, qInt_i, qInt_b, qTup_l, qTup_t, qList_l, qList_t, qSum, qJoin, qCount, qIndex, locOk, isTW, isT, unW, unWs, noX, seqW_l, seqW_t, sizeLine_eq, L2.atI, L2.ixN, signs_items]) (fun c hc => ⟨_, rfl, rfl, fun _ => by simp [runD_ap, startE, eVar_ap, eC_ap, eBin_ap, eChain_ap, tV_ap, tNot_ap, tAnd_ap, tOr_ap, eAnd_ap, eOr_ap, eNot_ap, eIf_ap, aNil_ap, aCons_ap, eTup_ap, eLst_ap, eLstM_ap, eRep_ap, eCall_ap, eB_ap, eIsi_ap, eMl_ap, eMs_ap, oNone_ap, oSome_ap, eSl_ap, sNil_ap, sSeq_ap, sRet_ap, sExpr_ap, sIf_ap, sSet_ap, sAsg_ap, sPar_ap, sPut_ap, iSeq_ap, iRg1_ap, iRg2_ap, fYes_ap, iZ2_ap, iZ3_ap, sRaise_ap, eNeg_ap, ofR, R.bind, toB_b, gN, gT, gsCons, gsNil, wipeE, pPlus_i, pPlus_l, pPlus_t, pPlus_s, pSub_i, pMul_i, pDiv_i, pMod_i, pPow_i, pEq_d, pNe_d, pLt_i, pLe_i, pGt_i, pGe_i, pLt_s, pLe_s, pGt_s, pGe_s, pIs_n, pIs_t, pIs_l, pIs_s, pIs_i, pIs_bn, pIs_b, pIn_s, pIn_l, pIn_t, pIx_l, pIx_t, pIx_s, qLen_s, qLen_l, qLen_t, qInt_i, qInt_b, qTup_l, qTup_t, qList_l, qList_t, qSum, qJoin, qCount, qIndex, locOk, isTW, isT, unW, unWs, noX, seqW_l, seqW_t, sizeLine_eq, L2.atI, L2.ixN]⟩) (by rw [sizeLine_eq]; exact hM)]
    simp [nums, Function.comp_def, filt_true]
  simp [F_numbers_of, fs_numbers_of, runD_ap, startE, eVar_ap, eC_ap, eBin_ap, eChain_ap, tV_ap, tNot_ap, tAnd_ap, tOr_ap, eAnd_ap, eOr_ap, eNot_ap, eIf_ap, aNil_ap, aCons_ap, eTup_ap, eLst_ap, eLstM_ap, eRep_ap, eCall_ap, eB_ap, eIsi_ap, eMl_ap, eMs_ap, oNone_ap, oSome_ap, eSl_ap, sNil_ap, sSeq_ap, sRet_ap, sExpr_ap, sIf_ap, sSet_ap, sAsg_ap, sPar_ap, sPut_ap, iSeq_ap, iRg1_ap, iRg2_ap, fYes_ap, iZ2_ap, iZ3_ap, sRaise_ap, eNeg_ap, ofR, R.bind, toB_b, gN, gT, gsCons, gsNil, wipeE, pPlus_i, pPlus_l, pPlus_t, pPlus_s, pSub_i, pMul_i, pDiv_i, pMod_i, pPow_i, pEq_d, pNe_d, pLt_i, pLe_i, pGt_i, pGe_i, pLt_s, pLe_s, pGt_s, pGe_s, pIs_n, pIs_t, pIs_l, pIs_s, pIs_i, pIs_bn, pIs_b, pIn_s, pIn_l, pIn_t, pIx_l, pIx_t, pIx_s, qLen_s, qLen_l, qLen_t, qInt_i, qInt_b, qTup_l, qTup_t, qList_l, qList_t, qSum, qJoin, qCount, qIndex, locOk, isTW, isT, unW, unWs, noX, seqW_l, seqW_t, sizeLine_eq, L2.atI, L2.ixN, q1, cw, dEnd_rt h]
end K00

set_option Elab.async false
set_option linter.all false
set_option maxRecDepth 100000
set_option maxHeartbeats 1000000
namespace K00
open PySem Pd
/-! ### meetings -/
/-- folk as data: moods, rules (each two texts) -/
def rl (p : Str × Str) : PyData := .tuple [.str p.1, .str p.2]
def fk (M : Str) (rs : List (Str × Str)) : PyData := .tuple [.str M, .tuple (rs.map rl)]
/-- shaped: that a thing may be held against others -/
def Shp (x : PyData) : Prop := SeqAt.shaped x = true
def enough (cs ns : List Int) : Bool := (List.zip cs ns).all fun p => decide (p.2 ≤ p.1)
theorem zip2_map (cs ns : List Int) : zip2 (cs.map .int) (ns.map .int) = (List.zip cs ns).map fun p => W.d (.tuple [.int p.1, .int p.2]) := by
  unfold zip2
  induction cs generalizing ns with
  | nil => rfl
  | cons c cs ih =>
    cases ns with
    | nil => rfl
    | cons n ns => simp [ih]
theorem zip3_map (cs ns ks : List Int) : zip3 (cs.map .int) (ns.map .int) (ks.map .int) = (List.zip cs (List.zip ns ks)).map fun p => W.d (.tuple [.int p.1, .int p.2.1, .int p.2.2]) := by
  unfold zip3
  induction cs generalizing ns ks with
  | nil => rfl
  | cons c cs ih =>
    cases ns with
    | nil => rfl
    | cons n ns =>
      cases ks with
      | nil => rfl
      | cons k ks => simp at ih; simp [ih]
mutual
theorem eqv_refl : ∀ x : PyData, x.canLay0 = true → PyData.eqv x x = true
  | .none, _ => rfl
  | .bool b, _ => by simp [PyData.eqv]
  | .int i, _ => by simp [PyData.eqv]
  | .str s, _ => by simp [PyData.eqv]
  | .list ds, h => by unfold PyData.eqv; exact eqvs_refl ds (by unfold PyData.canLay0 at h; exact h)
  | .tuple ds, h => by unfold PyData.eqv; exact eqvs_refl ds (by unfold PyData.canLay0 at h; exact h)
  | .dict _, h => by unfold PyData.canLay0 at h; cases h
theorem eqvs_refl : ∀ ds : List PyData, PyData.canLayAll0 ds = true → PyData.eqvAll ds ds = true
  | [], _ => rfl
  | d :: ds, h => by
    unfold PyData.canLayAll0 at h
    rw [Bool.and_eq_true] at h
    unfold PyData.eqvAll
    rw [eqv_refl d h.1, eqvs_refl ds h.2]
    rfl
end
theorem eqv_rl {p q : Str × Str} : PyData.eqv (rl p) (rl q) = decide (p = q) := by
  obtain ⟨a, b⟩ := p
  obtain ⟨c, d⟩ := q
  simp only [rl, PyData.eqv, PyData.eqvAll, Bool.and_true, Prod.mk.injEq]
  by_cases h1 : a = c <;> by_cases h2 : b = d <;> simp [h1, h2]
theorem any_rl (rs : List (Str × Str)) (p : Str × Str) : (rs.any ((fun z => PyData.eqv z (rl p)) ∘ rl)) = decide (p ∈ rs) := by
  induction rs with
  | nil => simp
  | cons r rs ih =>
    rw [List.any_cons, ih, Function.comp_apply, eqv_rl]
    by_cases h1 : r = p
    · simp [h1]
    · have h2 : ¬ p = r := fun e => h1 e.symm
      simp [h1, h2]
/-- what is asked of folk here -/
structure Fk (M : Str) (rs : List (Str × Str)) : Prop where
  len : M.length ≤ 16777216
  sh : ∀ p ∈ rs, Shp (rl p)
  shs : Shp (.list (rs.map rl))
section
variable {m : Sto} {M t : Str} {rs : List (Str × Str)} {cs : List Int}
def canB (M : Str) (rs : List (Str × Str)) (cs : List Int) (p : Str × Str) : Bool := decide (p ∈ rs) && enough cs (nums M p.1)
theorem ix_rl0 {p : Str × Str} {m : Sto} : pIx (.d (rl p)) (.d (.int 0)) m = .ok (.d (.str p.1)) m := rfl
theorem ix_rl1 {p : Str × Str} {m : Sto} : pIx (.d (rl p)) (.d (.int 1)) m = .ok (.d (.str p.2)) m := rfl
theorem ix_fk0 {m : Sto} : pIx (.d (fk M rs)) (.d (.int 0)) m = .ok (.d (.str M)) m := rfl
theorem ix_fk1 {m : Sto} : pIx (.d (fk M rs)) (.d (.int 1)) m = .ok (.d (.tuple (rs.map rl))) m := rfl
theorem cw_fold (l : List Int) : PyData.tuple (l.map .int) = cw l := rfl
theorem sq_cw : seqW (.d (cw cs)) = some (cs.map .int) := rfl
theorem r_can (h : Fl m) (F : Fk M rs) (p : Str × Str) (hp : Shp (rl p)) : F_can_be_used [.d (fk M rs), .d (cw cs), .d (rl p)] m = .ok (.d (.bool (canB M rs cs p))) m := by
  have e1 := r_numbers h M p.1 F.len
  have s1 : SeqAt.shaped (rl p) = true := hp
  have s2 : SeqAt.shaped (.list (rs.map rl)) = true := F.shs
  have q1 : ∀ e0 e2 e4 e5, eQ true [4, 5] (iZ2 (aCons (eVar 1) (aCons (eVar 3) aNil))) (gT 2 (gsCons (gN 4) (gsCons (gN 5) gsNil))) (eBin pGe (eVar 4) (eVar 5)) [e0, some (.d (cw cs)), e2, some (.d (cw (nums M p.1))), e4, e5] m = .ok (.d (.bool (enough cs (nums M p.1)))) m := fun e0 e2 e4 e5 => by
    rw [eQ_map (g := fun p : Int × Int => W.d (.tuple [.int p.1, .int p.2])) (l := List.zip cs (nums M p.1)) (m1 := m) (p := fun p => decide (p.2 ≤ p.1)) (by simp [runD_ap, startE, eVar_ap, eC_ap, eBin_ap, eChain_ap, tV_ap, tNot_ap, tAnd_ap, tOr_ap, eAnd_ap, eOr_ap, eNot_ap, eIf_ap, aNil_ap, aCons_ap, eTup_ap, eLst_ap, eLstM_ap, eRep_ap, eCall_ap, eB_ap, eIsi_ap, eMl_ap, eMs_ap, oNone_ap, oSome_ap, eSl_ap, sNil_ap, sSeq_ap, sRet_ap, sExpr_ap, sIf_ap, sSet_ap, sAsg_ap, sPar_ap, sPut_ap, iSeq_ap, iRg1_ap, iRg2_ap, fYes_ap, iZ2_ap, iZ3_ap, sRaise_ap, eNeg_ap, ofR, R.bind, toB_b, gN, gT, gsCons, gsNil, wipeE, pPlus_i, pPlus_l, pPlus_t, pPlus_s, pSub_i, pMul_i, pDiv_i, pMod_i, pPow_i, pEq_d, pNe_d, pLt_i, pLe_i, pGt_i, pGe_i, pLt_s, pLe_s, pGt_s, pGe_s, pIs_n, pIs_t, pIs_l, pIs_s, pIs_i, pIs_bn, pIs_b, pIn_s, pIn_l, pIn_t, pIx_l, pIx_t, pIx_s, qLen_s, qLen_l, qLen_t, qInt_i, qInt_b, qTup_l, qTup_t, qList_l, qList_t, qSum, qJoin, qCount, qIndex, locOk, isTW, isT, unW, unWs, noX, seqW_l, seqW_t, sizeLine_eq, L2.atI, L2.ixN, ix_rl0, ix_rl1, ix_fk0, ix_fk1, sq_cw, zip2_map]) (fun i hi => ?_)]
    · rfl
    · exact ⟨_, rfl, by simp [runD_ap, startE, eVar_ap, eC_ap, eBin_ap, eChain_ap, tV_ap, tNot_ap, tAnd_ap, tOr_ap, eAnd_ap, eOr_ap, eNot_ap, eIf_ap, aNil_ap, aCons_ap, eTup_ap, eLst_ap, eLstM_ap, eRep_ap, eCall_ap, eB_ap, eIsi_ap, eMl_ap, eMs_ap, oNone_ap, oSome_ap, eSl_ap, sNil_ap, sSeq_ap, sRet_ap, sExpr_ap, sIf_ap, sSet_ap, sAsg_ap, sPar_ap, sPut_ap, iSeq_ap, iRg1_ap, iRg2_ap, fYes_ap, iZ2_ap, iZ3_ap, sRaise_ap, eNeg_ap, ofR, R.bind, toB_b, gN, gT, gsCons, gsNil, wipeE, pPlus_i, pPlus_l, pPlus_t, pPlus_s, pSub_i, pMul_i, pDiv_i, pMod_i, pPow_i, pEq_d, pNe_d, pLt_i, pLe_i, pGt_i, pGe_i, pLt_s, pLe_s, pGt_s, pGe_s, pIs_n, pIs_t, pIs_l, pIs_s, pIs_i, pIs_bn, pIs_b, pIn_s, pIn_l, pIn_t, pIx_l, pIx_t, pIx_s, qLen_s, qLen_l, qLen_t, qInt_i, qInt_b, qTup_l, qTup_t, qList_l, qList_t, qSum, qJoin, qCount, qIndex, locOk, isTW, isT, unW, unWs, noX, seqW_l, seqW_t, sizeLine_eq, L2.atI, L2.ixN]⟩
  have a1 := any_rl rs p
  by_cases hm : p ∈ rs
  · simp [F_can_be_used, fs_can_be_used, runD_ap, startE, eVar_ap, eC_ap, eBin_ap, eChain_ap, tV_ap, tNot_ap, tAnd_ap, tOr_ap, eAnd_ap, eOr_ap, eNot_ap, eIf_ap, aNil_ap, aCons_ap, eTup_ap, eLst_ap, eLstM_ap, eRep_ap, eCall_ap, eB_ap, eIsi_ap, eMl_ap, eMs_ap, oNone_ap, oSome_ap, eSl_ap, sNil_ap, sSeq_ap, sRet_ap, sExpr_ap, sIf_ap, sSet_ap, sAsg_ap, sPar_ap, sPut_ap, iSeq_ap, iRg1_ap, iRg2_ap, fYes_ap, iZ2_ap, iZ3_ap, sRaise_ap, eNeg_ap, ofR, R.bind, toB_b, gN, gT, gsCons, gsNil, wipeE, pPlus_i, pPlus_l, pPlus_t, pPlus_s, pSub_i, pMul_i, pDiv_i, pMod_i, pPow_i, pEq_d, pNe_d, pLt_i, pLe_i, pGt_i, pGe_i, pLt_s, pLe_s, pGt_s, pGe_s, pIs_n, pIs_t, pIs_l, pIs_s, pIs_i, pIs_bn, pIs_b, pIn_s, pIn_l, pIn_t, pIx_l, pIx_t, pIx_s, qLen_s, qLen_l, qLen_t, qInt_i, qInt_b, qTup_l, qTup_t, qList_l, qList_t, qSum, qJoin, qCount, qIndex, locOk, isTW, isT, unW, unWs, noX, seqW_l, seqW_t, sizeLine_eq, L2.atI, L2.ixN, ix_rl0, ix_rl1, ix_fk0, ix_fk1, sq_cw, s1, s2, a1, hm, e1, q1, canB, dEnd_rt h]
  · simp [F_can_be_used, fs_can_be_used, runD_ap, startE, eVar_ap, eC_ap, eBin_ap, eChain_ap, tV_ap, tNot_ap, tAnd_ap, tOr_ap, eAnd_ap, eOr_ap, eNot_ap, eIf_ap, aNil_ap, aCons_ap, eTup_ap, eLst_ap, eLstM_ap, eRep_ap, eCall_ap, eB_ap, eIsi_ap, eMl_ap, eMs_ap, oNone_ap, oSome_ap, eSl_ap, sNil_ap, sSeq_ap, sRet_ap, sExpr_ap, sIf_ap, sSet_ap, sAsg_ap, sPar_ap, sPut_ap, iSeq_ap, iRg1_ap, iRg2_ap, fYes_ap, iZ2_ap, iZ3_ap, sRaise_ap, eNeg_ap, ofR, R.bind, toB_b, gN, gT, gsCons, gsNil, wipeE, pPlus_i, pPlus_l, pPlus_t, pPlus_s, pSub_i, pMul_i, pDiv_i, pMod_i, pPow_i, pEq_d, pNe_d, pLt_i, pLe_i, pGt_i, pGe_i, pLt_s, pLe_s, pGt_s, pGe_s, pIs_n, pIs_t, pIs_l, pIs_s, pIs_i, pIs_bn, pIs_b, pIn_s, pIn_l, pIn_t, pIx_l, pIx_t, pIx_s, qLen_s, qLen_l, qLen_t, qInt_i, qInt_b, qTup_l, qTup_t, qList_l, qList_t, qSum, qJoin, qCount, qIndex, locOk, isTW, isT, unW, unWs, noX, seqW_l, seqW_t, sizeLine_eq, L2.atI, L2.ixN, ix_rl0, ix_rl1, ix_fk0, ix_fk1, sq_cw, s1, s2, a1, hm, canB, dEnd_rt h]
/-- good folk, a good crowd of theirs -/
structure Gd (M : Str) (rs : List (Str × Str)) : Prop where
  ok : Fk M rs
  tx : TxT (fk M rs) = true
  good : isFolk (fk M rs) = true
def Cd (M : Str) (cs : List Int) : Prop := isCrowd M.length (cw cs) = true
theorem r_meetings (h : Fl m) (G : Gd M rs) (hc : Cd M cs) (hz : rs.length ≤ 16777216) : F_meetings [.d (fk M rs), .d (cw cs)] m = .ok (.d (.tuple ((rs.filter (canB M rs cs)).map rl))) m := by
  have e1 := r_dfolk h (fk M rs) G.tx
  rw [G.good, if_pos rfl] at e1
  have e2 : F_demand_crowd [.d (fk M rs), .d (cw cs)] m = if isCrowd M.length (cw cs) then .ok (.d .none) m else .exc "BadCrowd" m := r_dcrowd h M (.tuple (rs.map rl)) (cw cs) G.ok.len
  rw [if_pos (show isCrowd M.length (cw cs) = true from hc)] at e2
  have q1 : ∀ e2, eLc [2] (iSeq (eBin pIx (eVar 0) (eC (.int 1)))) (gN 2) (tV (eCall 3 F_can_be_used (aCons (eVar 0) (aCons (eVar 1) (aCons (eVar 2) aNil))))) (eVar 2) [some (.d (fk M rs)), some (.d (cw cs)), e2] m = .ok (.d (.list ((rs.filter (canB M rs cs)).map rl))) m := fun e2 => by
    rw [eLc_map (g0 := fun p => W.d (rl p)) (l := rs) (m1 := m) (c := canB M rs cs) (g := rl) (by simp [runD_ap, startE, eVar_ap, eC_ap, eBin_ap, eChain_ap, tV_ap, tNot_ap, tAnd_ap, tOr_ap, eAnd_ap, eOr_ap, eNot_ap, eIf_ap, aNil_ap, aCons_ap, eTup_ap, eLst_ap, eLstM_ap, eRep_ap, eCall_ap, eB_ap, eIsi_ap, eMl_ap, eMs_ap, oNone_ap, oSome_ap, eSl_ap, sNil_ap, sSeq_ap, sRet_ap, sExpr_ap, sIf_ap, sSet_ap, sAsg_ap, sPar_ap, sPut_ap, iSeq_ap, iRg1_ap, iRg2_ap, fYes_ap, iZ2_ap, iZ3_ap, sRaise_ap, eNeg_ap, ofR, R.bind, toB_b, gN, gT, gsCons, gsNil, wipeE, pPlus_i, pPlus_l, pPlus_t, pPlus_s, pSub_i, pMul_i, pDiv_i, pMod_i, pPow_i, pEq_d, pNe_d, pLt_i, pLe_i, pGt_i, pGe_i, pLt_s, pLe_s, pGt_s, pGe_s, pIs_n, pIs_t, pIs_l, pIs_s, pIs_i, pIs_bn, pIs_b, pIn_s, pIn_l, pIn_t, pIx_l, pIx_t, pIx_s, qLen_s, qLen_l, qLen_t, qInt_i, qInt_b, qTup_l, qTup_t, qList_l, qList_t, qSum, qJoin, qCount, qIndex, locOk, isTW, isT, unW, unWs, noX, seqW_l, seqW_t, sizeLine_eq, L2.atI, L2.ixN, ix_rl0, ix_rl1, ix_fk0, ix_fk1, sq_cw, Function.comp_def]) (fun p hp => ⟨_, rfl, ?_, fun _ => by simp [runD_ap, startE, eVar_ap, eC_ap, eBin_ap, eChain_ap, tV_ap, tNot_ap, tAnd_ap, tOr_ap, eAnd_ap, eOr_ap, eNot_ap, eIf_ap, aNil_ap, aCons_ap, eTup_ap, eLst_ap, eLstM_ap, eRep_ap, eCall_ap, eB_ap, eIsi_ap, eMl_ap, eMs_ap, oNone_ap, oSome_ap, eSl_ap, sNil_ap, sSeq_ap, sRet_ap, sExpr_ap, sIf_ap, sSet_ap, sAsg_ap, sPar_ap, sPut_ap, iSeq_ap, iRg1_ap, iRg2_ap, fYes_ap, iZ2_ap, iZ3_ap, sRaise_ap, eNeg_ap, ofR, R.bind, toB_b, gN, gT, gsCons, gsNil, wipeE, pPlus_i, pPlus_l, pPlus_t, pPlus_s, pSub_i, pMul_i, pDiv_i, pMod_i, pPow_i, pEq_d, pNe_d, pLt_i, pLe_i, pGt_i, pGe_i, pLt_s, pLe_s, pGt_s, pGe_s, pIs_n, pIs_t, pIs_l, pIs_s, pIs_i, pIs_bn, pIs_b, pIn_s, pIn_l, pIn_t, pIx_l, pIx_t, pIx_s, qLen_s, qLen_l, qLen_t, qInt_i, qInt_b, qTup_l, qTup_t, qList_l, qList_t, qSum, qJoin, qCount, qIndex, locOk, isTW, isT, unW, unWs, noX, seqW_l, seqW_t, sizeLine_eq, L2.atI, L2.ixN, ix_rl0, ix_rl1, ix_fk0, ix_fk1, sq_cw]⟩) (by rw [sizeLine_eq]; exact hz)]
    simp [runD_ap, startE, eVar_ap, eC_ap, eBin_ap, eChain_ap, tV_ap, tNot_ap, tAnd_ap, tOr_ap, eAnd_ap, eOr_ap, eNot_ap, eIf_ap, aNil_ap, aCons_ap, eTup_ap, eLst_ap, eLstM_ap, eRep_ap, eCall_ap, eB_ap, eIsi_ap, eMl_ap, eMs_ap, oNone_ap, oSome_ap, eSl_ap, sNil_ap, sSeq_ap, sRet_ap, sExpr_ap, sIf_ap, sSet_ap, sAsg_ap, sPar_ap, sPut_ap, iSeq_ap, iRg1_ap, iRg2_ap, fYes_ap, iZ2_ap, iZ3_ap, sRaise_ap, eNeg_ap, ofR, R.bind, toB_b, gN, gT, gsCons, gsNil, wipeE, pPlus_i, pPlus_l, pPlus_t, pPlus_s, pSub_i, pMul_i, pDiv_i, pMod_i, pPow_i, pEq_d, pNe_d, pLt_i, pLe_i, pGt_i, pGe_i, pLt_s, pLe_s, pGt_s, pGe_s, pIs_n, pIs_t, pIs_l, pIs_s, pIs_i, pIs_bn, pIs_b, pIn_s, pIn_l, pIn_t, pIx_l, pIx_t, pIx_s, qLen_s, qLen_l, qLen_t, qInt_i, qInt_b, qTup_l, qTup_t, qList_l, qList_t, qSum, qJoin, qCount, qIndex, locOk, isTW, isT, unW, unWs, noX, seqW_l, seqW_t, sizeLine_eq, L2.atI, L2.ixN, ix_rl0, ix_rl1, ix_fk0, ix_fk1, sq_cw, r_can h G.ok p (G.ok.sh p hp)]
  simp [F_meetings, fs_meetings, runD_ap, startE, eVar_ap, eC_ap, eBin_ap, eChain_ap, tV_ap, tNot_ap, tAnd_ap, tOr_ap, eAnd_ap, eOr_ap, eNot_ap, eIf_ap, aNil_ap, aCons_ap, eTup_ap, eLst_ap, eLstM_ap, eRep_ap, eCall_ap, eB_ap, eIsi_ap, eMl_ap, eMs_ap, oNone_ap, oSome_ap, eSl_ap, sNil_ap, sSeq_ap, sRet_ap, sExpr_ap, sIf_ap, sSet_ap, sAsg_ap, sPar_ap, sPut_ap, iSeq_ap, iRg1_ap, iRg2_ap, fYes_ap, iZ2_ap, iZ3_ap, sRaise_ap, eNeg_ap, ofR, R.bind, toB_b, gN, gT, gsCons, gsNil, wipeE, pPlus_i, pPlus_l, pPlus_t, pPlus_s, pSub_i, pMul_i, pDiv_i, pMod_i, pPow_i, pEq_d, pNe_d, pLt_i, pLe_i, pGt_i, pGe_i, pLt_s, pLe_s, pGt_s, pGe_s, pIs_n, pIs_t, pIs_l, pIs_s, pIs_i, pIs_bn, pIs_b, pIn_s, pIn_l, pIn_t, pIx_l, pIx_t, pIx_s, qLen_s, qLen_l, qLen_t, qInt_i, qInt_b, qTup_l, qTup_t, qList_l, qList_t, qSum, qJoin, qCount, qIndex, locOk, isTW, isT, unW, unWs, noX, seqW_l, seqW_t, sizeLine_eq, L2.atI, L2.ixN, ix_rl0, ix_rl1, ix_fk0, ix_fk1, sq_cw, e1, e2, q1, dEnd_rt h]
theorem r_rest (h : Fl m) (G : Gd M rs) (hc : Cd M cs) (hz : rs.length ≤ 16777216) : F_is_at_rest [.d (fk M rs), .d (cw cs)] m = .ok (.d (.bool (decide ((rs.filter (canB M rs cs)).length = 0)))) m := by
  have e := r_meetings h G hc hz
  generalize rs.filter (canB M rs cs) = l at e
  cases l with
  | nil => simp [F_is_at_rest, fs_is_at_rest, runD_ap, startE, eVar_ap, eC_ap, eBin_ap, eChain_ap, tV_ap, tNot_ap, tAnd_ap, tOr_ap, eAnd_ap, eOr_ap, eNot_ap, eIf_ap, aNil_ap, aCons_ap, eTup_ap, eLst_ap, eLstM_ap, eRep_ap, eCall_ap, eB_ap, eIsi_ap, eMl_ap, eMs_ap, oNone_ap, oSome_ap, eSl_ap, sNil_ap, sSeq_ap, sRet_ap, sExpr_ap, sIf_ap, sSet_ap, sAsg_ap, sPar_ap, sPut_ap, iSeq_ap, iRg1_ap, iRg2_ap, fYes_ap, iZ2_ap, iZ3_ap, sRaise_ap, eNeg_ap, ofR, R.bind, toB_b, gN, gT, gsCons, gsNil, wipeE, pPlus_i, pPlus_l, pPlus_t, pPlus_s, pSub_i, pMul_i, pDiv_i, pMod_i, pPow_i, pEq_d, pNe_d, pLt_i, pLe_i, pGt_i, pGe_i, pLt_s, pLe_s, pGt_s, pGe_s, pIs_n, pIs_t, pIs_l, pIs_s, pIs_i, pIs_bn, pIs_b, pIn_s, pIn_l, pIn_t, pIx_l, pIx_t, pIx_s, qLen_s, qLen_l, qLen_t, qInt_i, qInt_b, qTup_l, qTup_t, qList_l, qList_t, qSum, qJoin, qCount, qIndex, locOk, isTW, isT, unW, unWs, noX, seqW_l, seqW_t, sizeLine_eq, L2.atI, L2.ixN, ix_rl0, ix_rl1, ix_fk0, ix_fk1, sq_cw, e, sh_int, ev_int, dEnd_rt h]
  | cons a l =>
    have : ¬ ((l.length : Int) + 1 = 0) := by omega
    simp [F_is_at_rest, fs_is_at_rest, runD_ap, startE, eVar_ap, eC_ap, eBin_ap, eChain_ap, tV_ap, tNot_ap, tAnd_ap, tOr_ap, eAnd_ap, eOr_ap, eNot_ap, eIf_ap, aNil_ap, aCons_ap, eTup_ap, eLst_ap, eLstM_ap, eRep_ap, eCall_ap, eB_ap, eIsi_ap, eMl_ap, eMs_ap, oNone_ap, oSome_ap, eSl_ap, sNil_ap, sSeq_ap, sRet_ap, sExpr_ap, sIf_ap, sSet_ap, sAsg_ap, sPar_ap, sPut_ap, iSeq_ap, iRg1_ap, iRg2_ap, fYes_ap, iZ2_ap, iZ3_ap, sRaise_ap, eNeg_ap, ofR, R.bind, toB_b, gN, gT, gsCons, gsNil, wipeE, pPlus_i, pPlus_l, pPlus_t, pPlus_s, pSub_i, pMul_i, pDiv_i, pMod_i, pPow_i, pEq_d, pNe_d, pLt_i, pLe_i, pGt_i, pGe_i, pLt_s, pLe_s, pGt_s, pGe_s, pIs_n, pIs_t, pIs_l, pIs_s, pIs_i, pIs_bn, pIs_b, pIn_s, pIn_l, pIn_t, pIx_l, pIx_t, pIx_s, qLen_s, qLen_l, qLen_t, qInt_i, qInt_b, qTup_l, qTup_t, qList_l, qList_t, qSum, qJoin, qCount, qIndex, locOk, isTW, isT, unW, unWs, noX, seqW_l, seqW_t, sizeLine_eq, L2.atI, L2.ixN, ix_rl0, ix_rl1, ix_fk0, ix_fk1, sq_cw, e, sh_int, ev_int, this, dEnd_rt h]
/-- the crowd behind a rule -/
def bh (M : Str) (cs : List Int) (p : Str × Str) : List Int := (List.zip cs (List.zip (nums M p.1) (nums M p.2))).map fun q => q.1 - q.2.1 + q.2.2
theorem nums_len : (nums M t).length = M.length := by simp [nums]; rfl
theorem r_behind (h : Fl m) (F : Fk M rs) (p : Str × Str) : F_behind_rule [.d (fk M rs), .d (cw cs), .d (rl p)] m = .ok (.d (cw (bh M cs p))) m := by
  have e1 := r_numbers h M p.1 F.len
  have e2 := r_numbers h M p.2 F.len
  have q1 : ∀ e0 e2 e5 e6 e7, eLc [5, 6, 7] (iZ3 (aCons (eVar 1) (aCons (eVar 3) (aCons (eVar 4) aNil)))) (gT 3 (gsCons (gN 5) (gsCons (gN 6) (gsCons (gN 7) gsNil)))) fYes (eBin pPlus (eBin pSub (eVar 5) (eVar 6)) (eVar 7)) [e0, some (.d (cw cs)), e2, some (.d (cw (nums M p.1))), some (.d (cw (nums M p.2))), e5, e6, e7] m = .ok (.d (.list ((bh M cs p).map .int))) m := fun e0 e2 e5 e6 e7 => by
    rw [eLc_map (g0 := fun q : Int × Int × Int => W.d (.tuple [.int q.1, .int q.2.1, .int q.2.2])) (l := List.zip cs (List.zip (nums M p.1) (nums M p.2))) (m1 := m) (c := fun _ => true) (g := fun q => .int (q.1 - q.2.1 + q.2.2)) (by simp [runD_ap, startE, eVar_ap, eC_ap, eBin_ap, eChain_ap, tV_ap, tNot_ap, tAnd_ap, tOr_ap, eAnd_ap, eOr_ap, eNot_ap, eIf_ap, aNil_ap, aCons_ap, eTup_ap, eLst_ap, eLstM_ap, eRep_ap, eCall_ap, eB_ap, eIsi_ap, eMl_ap, eMs_ap, oNone_ap, oSome_ap, eSl_ap, sNil_ap, sSeq_ap, sRet_ap, sExpr_ap, sIf_ap, sSet_ap, sAsg_ap, sPar_ap, sPut_ap, iSeq_ap, iRg1_ap, iRg2_ap, fYes_ap, iZ2_ap, iZ3_ap, sRaise_ap, eNeg_ap, ofR, R.bind, toB_b, gN, gT, gsCons, gsNil, wipeE, pPlus_i, pPlus_l, pPlus_t, pPlus_s, pSub_i, pMul_i, pDiv_i, pMod_i, pPow_i, pEq_d, pNe_d, pLt_i, pLe_i, pGt_i, pGe_i, pLt_s, pLe_s, pGt_s, pGe_s, pIs_n, pIs_t, pIs_l, pIs_s, pIs_i, pIs_bn, pIs_b, pIn_s, pIn_l, pIn_t, pIx_l, pIx_t, pIx_s, qLen_s, qLen_l, qLen_t, qInt_i, qInt_b, qTup_l, qTup_t, qList_l, qList_t, qSum, qJoin, qCount, qIndex, locOk, isTW, isT, unW, unWs, noX, seqW_l, seqW_t, sizeLine_eq, L2.atI, L2.ixN, ix_rl0, ix_rl1, ix_fk0, ix_fk1, sq_cw, zip3_map]) (fun i hi => ⟨_, rfl, rfl, fun _ => by simp [runD_ap, startE, eVar_ap, eC_ap, eBin_ap, eChain_ap, tV_ap, tNot_ap, tAnd_ap, tOr_ap, eAnd_ap, eOr_ap, eNot_ap, eIf_ap, aNil_ap, aCons_ap, eTup_ap, eLst_ap, eLstM_ap, eRep_ap, eCall_ap, eB_ap, eIsi_ap, eMl_ap, eMs_ap, oNone_ap, oSome_ap, eSl_ap, sNil_ap, sSeq_ap, sRet_ap, sExpr_ap, sIf_ap, sSet_ap, sAsg_ap, sPar_ap, sPut_ap, iSeq_ap, iRg1_ap, iRg2_ap, fYes_ap, iZ2_ap, iZ3_ap, sRaise_ap, eNeg_ap, ofR, R.bind, toB_b, gN, gT, gsCons, gsNil, wipeE, pPlus_i, pPlus_l, pPlus_t, pPlus_s, pSub_i, pMul_i, pDiv_i, pMod_i, pPow_i, pEq_d, pNe_d, pLt_i, pLe_i, pGt_i, pGe_i, pLt_s, pLe_s, pGt_s, pGe_s, pIs_n, pIs_t, pIs_l, pIs_s, pIs_i, pIs_bn, pIs_b, pIn_s, pIn_l, pIn_t, pIx_l, pIx_t, pIx_s, qLen_s, qLen_l, qLen_t, qInt_i, qInt_b, qTup_l, qTup_t, qList_l, qList_t, qSum, qJoin, qCount, qIndex, locOk, isTW, isT, unW, unWs, noX, seqW_l, seqW_t, sizeLine_eq, L2.atI, L2.ixN]⟩) (by
      rw [sizeLine_eq, List.length_zip, List.length_zip, nums_len, nums_len, Nat.min_self]
      exact Nat.le_trans (Nat.min_le_right _ _) F.len)]
    simp [bh, filt_true, Function.comp_def]
  simp [F_behind_rule, fs_behind_rule, runD_ap, startE, eVar_ap, eC_ap, eBin_ap, eChain_ap, tV_ap, tNot_ap, tAnd_ap, tOr_ap, eAnd_ap, eOr_ap, eNot_ap, eIf_ap, aNil_ap, aCons_ap, eTup_ap, eLst_ap, eLstM_ap, eRep_ap, eCall_ap, eB_ap, eIsi_ap, eMl_ap, eMs_ap, oNone_ap, oSome_ap, eSl_ap, sNil_ap, sSeq_ap, sRet_ap, sExpr_ap, sIf_ap, sSet_ap, sAsg_ap, sPar_ap, sPut_ap, iSeq_ap, iRg1_ap, iRg2_ap, fYes_ap, iZ2_ap, iZ3_ap, sRaise_ap, eNeg_ap, ofR, R.bind, toB_b, gN, gT, gsCons, gsNil, wipeE, pPlus_i, pPlus_l, pPlus_t, pPlus_s, pSub_i, pMul_i, pDiv_i, pMod_i, pPow_i, pEq_d, pNe_d, pLt_i, pLe_i, pGt_i, pGe_i, pLt_s, pLe_s, pGt_s, pGe_s, pIs_n, pIs_t, pIs_l, pIs_s, pIs_i, pIs_bn, pIs_b, pIn_s, pIn_l, pIn_t, pIx_l, pIx_t, pIx_s, qLen_s, qLen_l, qLen_t, qInt_i, qInt_b, qTup_l, qTup_t, qList_l, qList_t, qSum, qJoin, qCount, qIndex, locOk, isTW, isT, unW, unWs, noX, seqW_l, seqW_t, sizeLine_eq, L2.atI, L2.ixN, ix_rl0, ix_rl1, ix_fk0, ix_fk1, sq_cw, e1, e2, q1, cw_fold, dEnd_rt h]
def small (cs : List Int) : Bool := !cs.any fun i => decide (TOP < i)
theorem r_met (h : Fl m) (G : Gd M rs) (hc : Cd M cs) (p : Str × Str) (hp : p ∈ rs) (hu : canB M rs cs p = true) (hs : small (bh M cs p) = true) : F_met [.d (fk M rs), .d (cw cs), .d (rl p)] m = .ok (.d (cw (bh M cs p))) m := by
  have e1 := r_dfolk h (fk M rs) G.tx
  rw [G.good, if_pos rfl] at e1
  have e2 : F_demand_crowd [.d (fk M rs), .d (cw cs)] m = if isCrowd M.length (cw cs) then .ok (.d .none) m else .exc "BadCrowd" m := r_dcrowd h M (.tuple (rs.map rl)) (cw cs) G.ok.len
  rw [if_pos (show isCrowd M.length (cw cs) = true from hc)] at e2
  have e3 := r_can (cs := cs) h G.ok p (G.ok.sh p hp)
  rw [hu] at e3
  have e4 := r_behind (cs := cs) h G.ok p
  have e5 := r_room h (bh M cs p)
  unfold small at hs
  rw [Bool.not_eq_true'] at hs
  rw [hs, if_neg (by decide)] at e5
  simp [F_met, fs_met, runD_ap, startE, eVar_ap, eC_ap, eBin_ap, eChain_ap, tV_ap, tNot_ap, tAnd_ap, tOr_ap, eAnd_ap, eOr_ap, eNot_ap, eIf_ap, aNil_ap, aCons_ap, eTup_ap, eLst_ap, eLstM_ap, eRep_ap, eCall_ap, eB_ap, eIsi_ap, eMl_ap, eMs_ap, oNone_ap, oSome_ap, eSl_ap, sNil_ap, sSeq_ap, sRet_ap, sExpr_ap, sIf_ap, sSet_ap, sAsg_ap, sPar_ap, sPut_ap, iSeq_ap, iRg1_ap, iRg2_ap, fYes_ap, iZ2_ap, iZ3_ap, sRaise_ap, eNeg_ap, ofR, R.bind, toB_b, gN, gT, gsCons, gsNil, wipeE, pPlus_i, pPlus_l, pPlus_t, pPlus_s, pSub_i, pMul_i, pDiv_i, pMod_i, pPow_i, pEq_d, pNe_d, pLt_i, pLe_i, pGt_i, pGe_i, pLt_s, pLe_s, pGt_s, pGe_s, pIs_n, pIs_t, pIs_l, pIs_s, pIs_i, pIs_bn, pIs_b, pIn_s, pIn_l, pIn_t, pIx_l, pIx_t, pIx_s, qLen_s, qLen_l, qLen_t, qInt_i, qInt_b, qTup_l, qTup_t, qList_l, qList_t, qSum, qJoin, qCount, qIndex, locOk, isTW, isT, unW, unWs, noX, seqW_l, seqW_t, sizeLine_eq, L2.atI, L2.ixN, ix_rl0, ix_rl1, ix_fk0, ix_fk1, sq_cw, e1, e2, e3, e4, e5, dEnd_rt h]
/-- behind a row of rules -/
def rowB (M : Str) (rs : List (Str × Str)) : List Int → List (Str × Str) → Option (List Int)
  | cs, [] => some cs
  | cs, p :: ps => if canB M rs cs p then rowB M rs (bh M cs p) ps else none
theorem r_rowloop (h : Fl m) (F : Fk M rs) (w2 : W) : ∀ (ps : List (Str × Str)) (cs : List Int) (e3 : Option W), (∀ p ∈ ps, Shp (rl p)) →
    ∃ e3', loopF (gN 3) (sSeq (sIf (Pd.tNot (tV (eCall 3 F_can_be_used (aCons (eVar 0) (aCons (eVar 1) (aCons (eVar 3) aNil)))))) (sRet (eC .none)) sNil) (sSet 1 (eCall 3 F_behind_rule (aCons (eVar 0) (aCons (eVar 1) (aCons (eVar 3) aNil)))))) (ps.map fun p => W.d (rl p)) [some (.d (fk M rs)), some (.d (cw cs)), some w2, e3] m =
      match rowB M rs cs ps with
      | some c => .nx [some (.d (fk M rs)), some (.d (cw c)), some w2, e3'] m
      | none => .rt (.d .none) m
  | [], cs, e3, _ => ⟨e3, rfl⟩
  | p :: ps, cs, e3, hsh => by
    have e := r_can (cs := cs) h F p (hsh p List.mem_cons_self)
    have e4 := r_behind (cs := cs) h F p
    obtain ⟨e3', ih⟩ := r_rowloop h F w2 ps (bh M cs p) (some (.d (rl p))) fun q hq => hsh q (List.mem_cons_of_mem _ hq)
    refine ⟨e3', ?_⟩
    rw [List.map_cons]
    unfold loopF rowB
    cases hb : canB M rs cs p with
    | true =>
      rw [hb] at e
      simp [runD_ap, startE, eVar_ap, eC_ap, eBin_ap, eChain_ap, tV_ap, tNot_ap, tAnd_ap, tOr_ap, eAnd_ap, eOr_ap, eNot_ap, eIf_ap, aNil_ap, aCons_ap, eTup_ap, eLst_ap, eLstM_ap, eRep_ap, eCall_ap, eB_ap, eIsi_ap, eMl_ap, eMs_ap, oNone_ap, oSome_ap, eSl_ap, sNil_ap, sSeq_ap, sRet_ap, sExpr_ap, sIf_ap, sSet_ap, sAsg_ap, sPar_ap, sPut_ap, iSeq_ap, iRg1_ap, iRg2_ap, fYes_ap, iZ2_ap, iZ3_ap, sRaise_ap, eNeg_ap, ofR, R.bind, toB_b, gN, gT, gsCons, gsNil, wipeE, pPlus_i, pPlus_l, pPlus_t, pPlus_s, pSub_i, pMul_i, pDiv_i, pMod_i, pPow_i, pEq_d, pNe_d, pLt_i, pLe_i, pGt_i, pGe_i, pLt_s, pLe_s, pGt_s, pGe_s, pIs_n, pIs_t, pIs_l, pIs_s, pIs_i, pIs_bn, pIs_b, pIn_s, pIn_l, pIn_t, pIx_l, pIx_t, pIx_s, qLen_s, qLen_l, qLen_t, qInt_i, qInt_b, qTup_l, qTup_t, qList_l, qList_t, qSum, qJoin, qCount, qIndex, locOk, isTW, isT, unW, unWs, noX, seqW_l, seqW_t, sizeLine_eq, L2.atI, L2.ixN, ix_rl0, ix_rl1, ix_fk0, ix_fk1, sq_cw, e, e4]
      exact ih
    | false =>
      rw [hb] at e
      simp [runD_ap, startE, eVar_ap, eC_ap, eBin_ap, eChain_ap, tV_ap, tNot_ap, tAnd_ap, tOr_ap, eAnd_ap, eOr_ap, eNot_ap, eIf_ap, aNil_ap, aCons_ap, eTup_ap, eLst_ap, eLstM_ap, eRep_ap, eCall_ap, eB_ap, eIsi_ap, eMl_ap, eMs_ap, oNone_ap, oSome_ap, eSl_ap, sNil_ap, sSeq_ap, sRet_ap, sExpr_ap, sIf_ap, sSet_ap, sAsg_ap, sPar_ap, sPut_ap, iSeq_ap, iRg1_ap, iRg2_ap, fYes_ap, iZ2_ap, iZ3_ap, sRaise_ap, eNeg_ap, ofR, R.bind, toB_b, gN, gT, gsCons, gsNil, wipeE, pPlus_i, pPlus_l, pPlus_t, pPlus_s, pSub_i, pMul_i, pDiv_i, pMod_i, pPow_i, pEq_d, pNe_d, pLt_i, pLe_i, pGt_i, pGe_i, pLt_s, pLe_s, pGt_s, pGe_s, pIs_n, pIs_t, pIs_l, pIs_s, pIs_i, pIs_bn, pIs_b, pIn_s, pIn_l, pIn_t, pIx_l, pIx_t, pIx_s, qLen_s, qLen_l, qLen_t, qInt_i, qInt_b, qTup_l, qTup_t, qList_l, qList_t, qSum, qJoin, qCount, qIndex, locOk, isTW, isT, unW, unWs, noX, seqW_l, seqW_t, sizeLine_eq, L2.atI, L2.ixN, ix_rl0, ix_rl1, ix_fk0, ix_fk1, sq_cw, e]
theorem r_brow (h : Fl m) (F : Fk M rs) (ps : List (Str × Str)) (hsh : ∀ p ∈ ps, Shp (rl p)) : F_behind_row [.d (fk M rs), .d (cw cs), .d (.tuple (ps.map rl))] m = .ok (.d (match rowB M rs cs ps with | some c => cw c | none => .none)) m := by
  obtain ⟨e3', e⟩ := r_rowloop h F (.d (.tuple (ps.map rl))) ps cs none hsh
  cases hr : rowB M rs cs ps with
  | some c =>
    rw [hr] at e
    simp only at e
    simp [F_behind_row, fs_behind_row, runD_ap, startE, eVar_ap, eC_ap, eBin_ap, eChain_ap, tV_ap, tNot_ap, tAnd_ap, tOr_ap, eAnd_ap, eOr_ap, eNot_ap, eIf_ap, aNil_ap, aCons_ap, eTup_ap, eLst_ap, eLstM_ap, eRep_ap, eCall_ap, eB_ap, eIsi_ap, eMl_ap, eMs_ap, oNone_ap, oSome_ap, eSl_ap, sNil_ap, sSeq_ap, sRet_ap, sExpr_ap, sIf_ap, sSet_ap, sAsg_ap, sPar_ap, sPut_ap, iSeq_ap, iRg1_ap, iRg2_ap, fYes_ap, iZ2_ap, iZ3_ap, sRaise_ap, eNeg_ap, ofR, R.bind, toB_b, gN, gT, gsCons, gsNil, wipeE, pPlus_i, pPlus_l, pPlus_t, pPlus_s, pSub_i, pMul_i, pDiv_i, pMod_i, pPow_i, pEq_d, pNe_d, pLt_i, pLe_i, pGt_i, pGe_i, pLt_s, pLe_s, pGt_s, pGe_s, pIs_n, pIs_t, pIs_l, pIs_s, pIs_i, pIs_bn, pIs_b, pIn_s, pIn_l, pIn_t, pIx_l, pIx_t, pIx_s, qLen_s, qLen_l, qLen_t, qInt_i, qInt_b, qTup_l, qTup_t, qList_l, qList_t, qSum, qJoin, qCount, qIndex, locOk, isTW, isT, unW, unWs, noX, seqW_l, seqW_t, sizeLine_eq, L2.atI, L2.ixN, ix_rl0, ix_rl1, ix_fk0, ix_fk1, sq_cw, sFor_ap, Function.comp_def, e, dEnd_rt h]
  | none =>
    rw [hr] at e
    simp only at e
    simp [F_behind_row, fs_behind_row, runD_ap, startE, eVar_ap, eC_ap, eBin_ap, eChain_ap, tV_ap, tNot_ap, tAnd_ap, tOr_ap, eAnd_ap, eOr_ap, eNot_ap, eIf_ap, aNil_ap, aCons_ap, eTup_ap, eLst_ap, eLstM_ap, eRep_ap, eCall_ap, eB_ap, eIsi_ap, eMl_ap, eMs_ap, oNone_ap, oSome_ap, eSl_ap, sNil_ap, sSeq_ap, sRet_ap, sExpr_ap, sIf_ap, sSet_ap, sAsg_ap, sPar_ap, sPut_ap, iSeq_ap, iRg1_ap, iRg2_ap, fYes_ap, iZ2_ap, iZ3_ap, sRaise_ap, eNeg_ap, ofR, R.bind, toB_b, gN, gT, gsCons, gsNil, wipeE, pPlus_i, pPlus_l, pPlus_t, pPlus_s, pSub_i, pMul_i, pDiv_i, pMod_i, pPow_i, pEq_d, pNe_d, pLt_i, pLe_i, pGt_i, pGe_i, pLt_s, pLe_s, pGt_s, pGe_s, pIs_n, pIs_t, pIs_l, pIs_s, pIs_i, pIs_bn, pIs_b, pIn_s, pIn_l, pIn_t, pIx_l, pIx_t, pIx_s, qLen_s, qLen_l, qLen_t, qInt_i, qInt_b, qTup_l, qTup_t, qList_l, qList_t, qSum, qJoin, qCount, qIndex, locOk, isTW, isT, unW, unWs, noX, seqW_l, seqW_t, sizeLine_eq, L2.atI, L2.ixN, ix_rl0, ix_rl1, ix_fk0, ix_fk1, sq_cw, sFor_ap, Function.comp_def, e, dEnd_rt h]
theorem r_metall (h : Fl m) (G : Gd M rs) (hc : Cd M cs) (ps : List (Str × Str)) (hsh : ∀ p ∈ ps, Shp (rl p)) (hs : ∀ c, rowB M rs cs ps = some c → small c = true) :
    F_met_all [.d (fk M rs), .d (cw cs), .d (.tuple (ps.map rl))] m = match rowB M rs cs ps with | some c => .ok (.d (cw c)) m | none => .exc "BadRow" m := by
  have e1 := r_dfolk h (fk M rs) G.tx
  rw [G.good, if_pos rfl] at e1
  have e2 : F_demand_crowd [.d (fk M rs), .d (cw cs)] m = if isCrowd M.length (cw cs) then .ok (.d .none) m else .exc "BadCrowd" m := r_dcrowd h M (.tuple (rs.map rl)) (cw cs) G.ok.len
  rw [if_pos (show isCrowd M.length (cw cs) = true from hc)] at e2
  have e3 := r_brow (cs := cs) h G.ok ps hsh
  cases hr : rowB M rs cs ps with
  | some c =>
    rw [hr] at e3
    simp only at e3
    have e5 := r_room h c
    have hs' := hs c hr
    unfold small at hs'
    rw [Bool.not_eq_true'] at hs'
    rw [hs', if_neg (by decide)] at e5
    have e6 : pIs true (.d (cw c)) (.d .none) m = .ok (.d (.bool false)) m := rfl
    simp [F_met_all, fs_met_all, runD_ap, startE, eVar_ap, eC_ap, eBin_ap, eChain_ap, tV_ap, tNot_ap, tAnd_ap, tOr_ap, eAnd_ap, eOr_ap, eNot_ap, eIf_ap, aNil_ap, aCons_ap, eTup_ap, eLst_ap, eLstM_ap, eRep_ap, eCall_ap, eB_ap, eIsi_ap, eMl_ap, eMs_ap, oNone_ap, oSome_ap, eSl_ap, sNil_ap, sSeq_ap, sRet_ap, sExpr_ap, sIf_ap, sSet_ap, sAsg_ap, sPar_ap, sPut_ap, iSeq_ap, iRg1_ap, iRg2_ap, fYes_ap, iZ2_ap, iZ3_ap, sRaise_ap, eNeg_ap, ofR, R.bind, toB_b, gN, gT, gsCons, gsNil, wipeE, pPlus_i, pPlus_l, pPlus_t, pPlus_s, pSub_i, pMul_i, pDiv_i, pMod_i, pPow_i, pEq_d, pNe_d, pLt_i, pLe_i, pGt_i, pGe_i, pLt_s, pLe_s, pGt_s, pGe_s, pIs_n, pIs_t, pIs_l, pIs_s, pIs_i, pIs_bn, pIs_b, pIn_s, pIn_l, pIn_t, pIx_l, pIx_t, pIx_s, qLen_s, qLen_l, qLen_t, qInt_i, qInt_b, qTup_l, qTup_t, qList_l, qList_t, qSum, qJoin, qCount, qIndex, locOk, isTW, isT, unW, unWs, noX, seqW_l, seqW_t, sizeLine_eq, L2.atI, L2.ixN, ix_rl0, ix_rl1, ix_fk0, ix_fk1, sq_cw, e1, e2, e3, e5, e6, dEnd_rt h]
  | none =>
    rw [hr] at e3
    simp only at e3
    simp [F_met_all, fs_met_all, runD_ap, startE, eVar_ap, eC_ap, eBin_ap, eChain_ap, tV_ap, tNot_ap, tAnd_ap, tOr_ap, eAnd_ap, eOr_ap, eNot_ap, eIf_ap, aNil_ap, aCons_ap, eTup_ap, eLst_ap, eLstM_ap, eRep_ap, eCall_ap, eB_ap, eIsi_ap, eMl_ap, eMs_ap, oNone_ap, oSome_ap, eSl_ap, sNil_ap, sSeq_ap, sRet_ap, sExpr_ap, sIf_ap, sSet_ap, sAsg_ap, sPar_ap, sPut_ap, iSeq_ap, iRg1_ap, iRg2_ap, fYes_ap, iZ2_ap, iZ3_ap, sRaise_ap, eNeg_ap, ofR, R.bind, toB_b, gN, gT, gsCons, gsNil, wipeE, pPlus_i, pPlus_l, pPlus_t, pPlus_s, pSub_i, pMul_i, pDiv_i, pMod_i, pPow_i, pEq_d, pNe_d, pLt_i, pLe_i, pGt_i, pGe_i, pLt_s, pLe_s, pGt_s, pGe_s, pIs_n, pIs_t, pIs_l, pIs_s, pIs_i, pIs_bn, pIs_b, pIn_s, pIn_l, pIn_t, pIx_l, pIx_t, pIx_s, qLen_s, qLen_l, qLen_t, qInt_i, qInt_b, qTup_l, qTup_t, qList_l, qList_t, qSum, qJoin, qCount, qIndex, locOk, isTW, isT, unW, unWs, noX, seqW_l, seqW_t, sizeLine_eq, L2.atI, L2.ixN, ix_rl0, ix_rl1, ix_fk0, ix_fk1, sq_cw, e1, e2, e3, dEnd_exc h]
end
end K00

set_option Elab.async false
set_option linter.all false
set_option maxRecDepth 100000
set_option maxHeartbeats 1000000
namespace K00
open PySem Pd
section
variable {m : Sto} {M t : Str} {p : Str × Str} {rs : List (Str × Str)} {cs : List Int}
/-! ### the law's own reckoning -/
def cntL (M t : Str) : List Int := M.cps.toList.map fun c => ((t.cps.toList.filter fun s => decide (s = c)).length : Int)
theorem eq_ch (a b : Nat) : ((⟨#[a]⟩ : Str) == ⟨#[b]⟩) = decide (a = b) := by
  by_cases h : a = b
  · simp [h]
  · have : ¬ (⟨#[a]⟩ : Str) = ⟨#[b]⟩ := fun e => h (by injection e with e; simpa using e)
    simp [h, this]
/-- the signs of a text may be held against others -/
def Sg (t : Str) : Prop := ∀ c ∈ t.cps.toList, Shp (.str ⟨#[c]⟩)
theorem q_counts (h : Fl m) (hM : M.length ≤ 16777216) (ht : t.length ≤ 16777216) (sM : Sg M) (st : Sg t) : F__law_counts [.d (.str M), .d (.str t)] m = .ok (.d (cw (cntL M t))) m := by
  have q1 : ∀ c ∈ M.cps.toList, ∀ e0 e3, eLc [3] (iSeq (eVar 1)) (gN 3) (tV (eBin pEq (eVar 3) (eVar 2))) (eC (.int 1)) [e0, some (.d (.str t)), some (.d (.str ⟨#[c]⟩)), e3] m = .ok (.d (.list ((t.cps.toList.filter fun s => decide (s = c)).map fun _ => .int 1))) m := fun c hc e0 e3 => by
    have s1 : SeqAt.shaped (.str ⟨#[c]⟩) = true := sM c hc
    exact eLc_map (g0 := fun c => W.d (.str ⟨#[c]⟩)) (l := t.cps.toList) (m1 := m) (c := fun s => decide (s = c)) (g := fun _ => .int 1) (by simp [runD_ap, startE, eVar_ap, eC_ap, eBin_ap, eChain_ap, tV_ap, tNot_ap, tAnd_ap, tOr_ap, eAnd_ap, eOr_ap, eNot_ap, eIf_ap, aNil_ap, aCons_ap, eTup_ap, eLst_ap, eLstM_ap, eRep_ap, eCall_ap, eB_ap, eIsi_ap, eMl_ap, eMs_ap, oNone_ap, oSome_ap, eSl_ap, sNil_ap, sSeq_ap, sRet_ap, sExpr_ap, sIf_ap, sSet_ap, sAsg_ap, sPar_ap, sPut_ap, iSeq_ap, iRg1_ap, iRg2_ap, fYes_ap, iZ2_ap, iZ3_ap, sRaise_ap, eNeg_ap, ofR, R.bind, toB_b, gN, gT, gsCons, gsNil, wipeE, pPlus_i, pPlus_l, pPlus_t, pPlus_s, pSub_i, pMul_i, pDiv_i, pMod_i, pPow_i, pEq_d, pNe_d, pLt_i, pLe_i, pGt_i, pGe_i, pLt_s, pLe_s, pGt_s, pGe_s, pIs_n, pIs_t, pIs_l, pIs_s, pIs_i, pIs_bn, pIs_b, pIn_s, pIn_l, pIn_t, pIx_l, pIx_t, pIx_s, qLen_s, qLen_l, qLen_t, qInt_i, qInt_b, qTup_l, qTup_t, qList_l, qList_t, qSum, qJoin, qCount, qIndex, locOk, isTW, isT, unW, unWs, noX, seqW_l, seqW_t, sizeLine_eq, L2.atI, L2.ixN, signs_items]) (fun a ha => ⟨_, rfl, by
      have s2 : SeqAt.shaped (.str ⟨#[a]⟩) = true := st a ha
      simp [runD_ap, startE, eVar_ap, eC_ap, eBin_ap, eChain_ap, tV_ap, tNot_ap, tAnd_ap, tOr_ap, eAnd_ap, eOr_ap, eNot_ap, eIf_ap, aNil_ap, aCons_ap, eTup_ap, eLst_ap, eLstM_ap, eRep_ap, eCall_ap, eB_ap, eIsi_ap, eMl_ap, eMs_ap, oNone_ap, oSome_ap, eSl_ap, sNil_ap, sSeq_ap, sRet_ap, sExpr_ap, sIf_ap, sSet_ap, sAsg_ap, sPar_ap, sPut_ap, iSeq_ap, iRg1_ap, iRg2_ap, fYes_ap, iZ2_ap, iZ3_ap, sRaise_ap, eNeg_ap, ofR, R.bind, toB_b, gN, gT, gsCons, gsNil, wipeE, pPlus_i, pPlus_l, pPlus_t, pPlus_s, pSub_i, pMul_i, pDiv_i, pMod_i, pPow_i, pEq_d, pNe_d, pLt_i, pLe_i, pGt_i, pGe_i, pLt_s, pLe_s, pGt_s, pGe_s, pIs_n, pIs_t, pIs_l, pIs_s, pIs_i, pIs_bn, pIs_b, pIn_s, pIn_l, pIn_t, pIx_l, pIx_t, pIx_s, qLen_s, qLen_l, qLen_t, qInt_i, qInt_b, qTup_l, qTup_t, qList_l, qList_t, qSum, qJoin, qCount, qIndex, locOk, isTW, isT, unW, unWs, noX, seqW_l, seqW_t, sizeLine_eq, L2.atI, L2.ixN, s1, s2, ev_str, eq_ch], fun _ => by simp [runD_ap, startE, eVar_ap, eC_ap, eBin_ap, eChain_ap, tV_ap, tNot_ap, tAnd_ap, tOr_ap, eAnd_ap, eOr_ap, eNot_ap, eIf_ap, aNil_ap, aCons_ap, eTup_ap, eLst_ap, eLstM_ap, eRep_ap, eCall_ap, eB_ap, eIsi_ap, eMl_ap, eMs_ap, oNone_ap, oSome_ap, eSl_ap, sNil_ap, sSeq_ap, sRet_ap, sExpr_ap, sIf_ap, sSet_ap, sAsg_ap, sPar_ap, sPut_ap, iSeq_ap, iRg1_ap, iRg2_ap, fYes_ap, iZ2_ap, iZ3_ap, sRaise_ap, eNeg_ap, ofR, R.bind, toB_b, gN, gT, gsCons, gsNil, wipeE, pPlus_i, pPlus_l, pPlus_t, pPlus_s, pSub_i, pMul_i, pDiv_i, pMod_i, pPow_i, pEq_d, pNe_d, pLt_i, pLe_i, pGt_i, pGe_i, pLt_s, pLe_s, pGt_s, pGe_s, pIs_n, pIs_t, pIs_l, pIs_s, pIs_i, pIs_bn, pIs_b, pIn_s, pIn_l, pIn_t, pIx_l, pIx_t, pIx_s, qLen_s, qLen_l, qLen_t, qInt_i, qInt_b, qTup_l, qTup_t, qList_l, qList_t, qSum, qJoin, qCount, qIndex, locOk, isTW, isT, unW, unWs, noX, seqW_l, seqW_t, sizeLine_eq, L2.atI, L2.ixN]⟩) (by rw [sizeLine_eq]; exact ht)
  have q2 : ∀ e2 e3, eLc [2] (iSeq (eVar 0)) (gN 2) fYes (eB qLen (aCons (eLc [3] (iSeq (eVar 1)) (gN 3) (tV (eBin pEq (eVar 3) (eVar 2))) (eC (.int 1))) aNil)) [some (.d (.str M)), some (.d (.str t)), e2, e3] m = .ok (.d (.list ((cntL M t).map .int))) m := fun e2 e3 => by
    rw [eLc_map (g0 := fun c => W.d (.str ⟨#[c]⟩)) (l := M.cps.toList) (m1 := m) (c := fun _ => true) (g := fun c => .int ((t.cps.toList.filter fun s => decide (s = c)).length : Int)) (by simp [runD_ap, startE, eVar_ap, eC_ap, eBin_ap, eChain_ap, tV_ap, tNot_ap, tAnd_ap, tOr_ap, eAnd_ap, eOr_ap, eNot_ap, eIf_ap, aNil_ap, aCons_ap, eTup_ap, eLst_ap, eLstM_ap, eRep_ap, eCall_ap, eB_ap, eIsi_ap, eMl_ap, eMs_ap, oNone_ap, oSome_ap, eSl_ap, sNil_ap, sSeq_ap, sRet_ap, sExpr_ap, sIf_ap, sSet_ap, sAsg_ap, sPar_ap, sPut_ap, iSeq_ap, iRg1_ap, iRg2_ap, fYes_ap, iZ2_ap, iZ3_ap, sRaise_ap, eNeg_ap, ofR, R.bind, toB_b, gN, gT, gsCons, gsNil, wipeE, pPlus_i, pPlus_l, pPlus_t, pPlus_s, pSub_i, pMul_i, pDiv_i, pMod_i, pPow_i, pEq_d, pNe_d, pLt_i, pLe_i, pGt_i, pGe_i, pLt_s, pLe_s, pGt_s, pGe_s, pIs_n, pIs_t, pIs_l, pIs_s, pIs_i, pIs_bn, pIs_b, pIn_s, pIn_l, pIn_t, pIx_l, pIx_t, pIx_s, qLen_s, qLen_l, qLen_t, qInt_i, qInt_b, qTup_l, qTup_t, qList_l, qList_t, qSum, qJoin, qCount, qIndex, locOk, isTW, isT, unW, unWs, noX, seqW_l, seqW_t, sizeLine_eq, L2.atI, L2.ixN, signs_items]) (fun c hc => ⟨_, rfl, rfl, fun _ => by
      have e := q1 c hc
      simp [runD_ap, startE, eVar_ap, eC_ap, eBin_ap, eChain_ap, tV_ap, tNot_ap, tAnd_ap, tOr_ap, eAnd_ap, eOr_ap, eNot_ap, eIf_ap, aNil_ap, aCons_ap, eTup_ap, eLst_ap, eLstM_ap, eRep_ap, eCall_ap, eB_ap, eIsi_ap, eMl_ap, eMs_ap, oNone_ap, oSome_ap, eSl_ap, sNil_ap, sSeq_ap, sRet_ap, sExpr_ap, sIf_ap, sSet_ap, sAsg_ap, sPar_ap, sPut_ap, iSeq_ap, iRg1_ap, iRg2_ap, fYes_ap, iZ2_ap, iZ3_ap, sRaise_ap, eNeg_ap, ofR, R.bind, toB_b, gN, gT, gsCons, gsNil, wipeE, pPlus_i, pPlus_l, pPlus_t, pPlus_s, pSub_i, pMul_i, pDiv_i, pMod_i, pPow_i, pEq_d, pNe_d, pLt_i, pLe_i, pGt_i, pGe_i, pLt_s, pLe_s, pGt_s, pGe_s, pIs_n, pIs_t, pIs_l, pIs_s, pIs_i, pIs_bn, pIs_b, pIn_s, pIn_l, pIn_t, pIx_l, pIx_t, pIx_s, qLen_s, qLen_l, qLen_t, qInt_i, qInt_b, qTup_l, qTup_t, qList_l, qList_t, qSum, qJoin, qCount, qIndex, locOk, isTW, isT, unW, unWs, noX, seqW_l, seqW_t, sizeLine_eq, L2.atI, L2.ixN, e]⟩) (by rw [sizeLine_eq]; exact hM)]
    simp [cntL, filt_true, Function.comp_def]
  simp [F__law_counts, fs__law_counts, runD_ap, startE, eVar_ap, eC_ap, eBin_ap, eChain_ap, tV_ap, tNot_ap, tAnd_ap, tOr_ap, eAnd_ap, eOr_ap, eNot_ap, eIf_ap, aNil_ap, aCons_ap, eTup_ap, eLst_ap, eLstM_ap, eRep_ap, eCall_ap, eB_ap, eIsi_ap, eMl_ap, eMs_ap, oNone_ap, oSome_ap, eSl_ap, sNil_ap, sSeq_ap, sRet_ap, sExpr_ap, sIf_ap, sSet_ap, sAsg_ap, sPar_ap, sPut_ap, iSeq_ap, iRg1_ap, iRg2_ap, fYes_ap, iZ2_ap, iZ3_ap, sRaise_ap, eNeg_ap, ofR, R.bind, toB_b, gN, gT, gsCons, gsNil, wipeE, pPlus_i, pPlus_l, pPlus_t, pPlus_s, pSub_i, pMul_i, pDiv_i, pMod_i, pPow_i, pEq_d, pNe_d, pLt_i, pLe_i, pGt_i, pGe_i, pLt_s, pLe_s, pGt_s, pGe_s, pIs_n, pIs_t, pIs_l, pIs_s, pIs_i, pIs_bn, pIs_b, pIn_s, pIn_l, pIn_t, pIx_l, pIx_t, pIx_s, qLen_s, qLen_l, qLen_t, qInt_i, qInt_b, qTup_l, qTup_t, qList_l, qList_t, qSum, qJoin, qCount, qIndex, locOk, isTW, isT, unW, unWs, noX, seqW_l, seqW_t, sizeLine_eq, L2.atI, L2.ixN, q2, cw_fold, dEnd_rt h]
theorem cnt_fil (c : Nat) : ∀ l : List Nat, PyProof.Rows.cnt c l = ((l.filter fun s => decide (s = c)).length : Int)
  | [] => rfl
  | n :: r => by
    rw [PyProof.Rows.cnt_cons, cnt_fil c r]
    by_cases h : n = c
    · simp [h]; omega
    · simp [h]
theorem cntL_nums : cntL M t = nums M t := by
  unfold cntL nums
  refine List.map_congr_left fun c _ => ?_
  rw [PyProof.Rows.count_cnt, cnt_fil]
theorem sh_ones {α : Type} (l : List α) : SeqAt.shaped (.list (l.map fun _ => PyData.int 1)) = true := by
  have h1 : PyData.canLayAll0 (l.map fun _ => PyData.int 1) = true := by
    induction l with
    | nil => rfl
    | cons a l ih => rw [List.map_cons]; unfold PyData.canLayAll0; rw [ih]; rfl
  have h2 : PyData.depthAll (l.map fun _ => PyData.int 1) = 0 := by
    induction l with
    | nil => rfl
    | cons a l ih =>
      have h1' : PyData.canLayAll0 (l.map fun _ => PyData.int 1) = true := by
        rw [List.map_cons] at h1
        unfold PyData.canLayAll0 at h1
        rw [Bool.and_eq_true] at h1
        exact h1.2
      rw [List.map_cons]; unfold PyData.depthAll; rw [ih h1']; rfl
  have h3 : PyData.canLay0 (.list (l.map fun _ => PyData.int 1)) = true := h1
  have h4 : PyData.depth (.list (l.map fun _ => PyData.int 1)) = 1 := by unfold PyData.depth; rw [h2]
  unfold SeqAt.shaped
  rw [h3, h4]
  rfl
theorem ev_nil (l : List PyData) : PyData.eqv (.list l) (.list []) = l.isEmpty := by
  cases l <;> rfl
theorem sh_nil : SeqAt.shaped (.list []) = true := rfl
theorem enough_fil (cs ns : List Int) : (((List.zip cs ns).filter fun p => decide (p.1 < p.2)).map fun _ => PyData.int 1).isEmpty = enough cs ns := by
  unfold enough
  generalize List.zip cs ns = l
  induction l with
  | nil => rfl
  | cons p l ih =>
    by_cases h : p.1 < p.2
    · have h' : ¬ p.2 ≤ p.1 := by omega
      simp [h, h']
    · have h' : p.2 ≤ p.1 := by omega
      simp only [h, decide_false, Bool.false_eq_true, not_false_eq_true, List.filter_cons_of_neg, List.all_cons, h', decide_true, Bool.true_and]
      exact ih
def usable (M : Str) (rs : List (Str × Str)) (cs : List Int) : List (Str × Str) := rs.filter fun p => enough cs (cntL M p.1)
/-- the texts of rules are small and of signs -/
structure Rs (M : Str) (rs : List (Str × Str)) : Prop where
  len : M.length ≤ 16777216
  sg : Sg M
  l1 : ∀ p ∈ rs, p.1.length ≤ 16777216 ∧ Sg p.1 ∧ p.2.length ≤ 16777216 ∧ Sg p.2
  few : rs.length ≤ 1000
  sh : ∀ p ∈ rs, Shp (rl p)
theorem q_usloop (h : Fl m) (Z : Rs M rs) : ∀ (ps acc : List (Str × Str)) (e3 e4 e5 e6 : Option W), (∀ p ∈ ps, p ∈ rs) → acc.length + ps.length ≤ 1000 →
    ∃ e3' e4', loopF (gN 3) (sSeq (sSet 4 (eCall 2 F__law_counts (aCons (eBin pIx (eVar 0) (eC (.int 0))) (aCons (eBin pIx (eVar 3) (eC (.int 0))) aNil)))) (sSet 2 (eBin pPlus (eVar 2) (eRep (aCons (eVar 3) aNil) (eB qInt (aCons (eBin pEq (eLc [5, 6] (iZ2 (aCons (eVar 1) (aCons (eVar 4) aNil))) (gT 2 (gsCons (gN 5) (gsCons (gN 6) gsNil))) (tV (eBin pLt (eVar 5) (eVar 6))) (eC (.int 1))) (eLst aNil)) aNil))))))
      (ps.map fun p => W.d (rl p)) [some (.d (fk M rs)), some (.d (cw cs)), some (.d (.list (acc.map rl))), e3, e4, e5, e6] m =
      .nx [some (.d (fk M rs)), some (.d (cw cs)), some (.d (.list ((acc ++ ps.filter fun p => enough cs (cntL M p.1)).map rl))), e3', e4', e5, e6] m
  | [], acc, e3, e4, e5, e6, _, _ => ⟨e3, e4, by simp [loopF]⟩
  | p :: ps, acc, e3, e4, e5, e6, hp, hl => by
    have hp1 := Z.l1 p (hp p List.mem_cons_self)
    have e1 := q_counts h Z.len hp1.1 Z.sg hp1.2.1
    have hl' : acc.length + (ps.length + 1) ≤ 1000 := hl
    have q1 : ∀ e2 e3, eLc [5, 6] (iZ2 (aCons (eVar 1) (aCons (eVar 4) aNil))) (gT 2 (gsCons (gN 5) (gsCons (gN 6) gsNil))) (tV (eBin pLt (eVar 5) (eVar 6))) (eC (.int 1)) [some (.d (fk M rs)), some (.d (cw cs)), e2, e3, some (.d (cw (cntL M p.1))), e5, e6] m =
        .ok (.d (.list (((List.zip cs (cntL M p.1)).filter fun p => decide (p.1 < p.2)).map fun _ => .int 1))) m := fun e2 e3 =>
      eLc_map (g0 := fun p : Int × Int => W.d (.tuple [.int p.1, .int p.2])) (l := List.zip cs (cntL M p.1)) (m1 := m) (c := fun p => decide (p.1 < p.2)) (g := fun _ => .int 1) (by simp [runD_ap, startE, eVar_ap, eC_ap, eBin_ap, eChain_ap, tV_ap, tNot_ap, tAnd_ap, tOr_ap, eAnd_ap, eOr_ap, eNot_ap, eIf_ap, aNil_ap, aCons_ap, eTup_ap, eLst_ap, eLstM_ap, eRep_ap, eCall_ap, eB_ap, eIsi_ap, eMl_ap, eMs_ap, oNone_ap, oSome_ap, eSl_ap, sNil_ap, sSeq_ap, sRet_ap, sExpr_ap, sIf_ap, sSet_ap, sAsg_ap, sPar_ap, sPut_ap, iSeq_ap, iRg1_ap, iRg2_ap, fYes_ap, iZ2_ap, iZ3_ap, sRaise_ap, eNeg_ap, ofR, R.bind, toB_b, gN, gT, gsCons, gsNil, wipeE, pPlus_i, pPlus_l, pPlus_t, pPlus_s, pSub_i, pMul_i, pDiv_i, pMod_i, pPow_i, pEq_d, pNe_d, pLt_i, pLe_i, pGt_i, pGe_i, pLt_s, pLe_s, pGt_s, pGe_s, pIs_n, pIs_t, pIs_l, pIs_s, pIs_i, pIs_bn, pIs_b, pIn_s, pIn_l, pIn_t, pIx_l, pIx_t, pIx_s, qLen_s, qLen_l, qLen_t, qInt_i, qInt_b, qTup_l, qTup_t, qList_l, qList_t, qSum, qJoin, qCount, qIndex, locOk, isTW, isT, unW, unWs, noX, seqW_l, seqW_t, sizeLine_eq, L2.atI, L2.ixN, ix_rl0, ix_rl1, ix_fk0, ix_fk1, sq_cw, zip2_map]) (fun a ha => ⟨_, rfl, by simp [runD_ap, startE, eVar_ap, eC_ap, eBin_ap, eChain_ap, tV_ap, tNot_ap, tAnd_ap, tOr_ap, eAnd_ap, eOr_ap, eNot_ap, eIf_ap, aNil_ap, aCons_ap, eTup_ap, eLst_ap, eLstM_ap, eRep_ap, eCall_ap, eB_ap, eIsi_ap, eMl_ap, eMs_ap, oNone_ap, oSome_ap, eSl_ap, sNil_ap, sSeq_ap, sRet_ap, sExpr_ap, sIf_ap, sSet_ap, sAsg_ap, sPar_ap, sPut_ap, iSeq_ap, iRg1_ap, iRg2_ap, fYes_ap, iZ2_ap, iZ3_ap, sRaise_ap, eNeg_ap, ofR, R.bind, toB_b, gN, gT, gsCons, gsNil, wipeE, pPlus_i, pPlus_l, pPlus_t, pPlus_s, pSub_i, pMul_i, pDiv_i, pMod_i, pPow_i, pEq_d, pNe_d, pLt_i, pLe_i, pGt_i, pGe_i, pLt_s, pLe_s, pGt_s, pGe_s, pIs_n, pIs_t, pIs_l, pIs_s, pIs_i, pIs_bn, pIs_b, pIn_s, pIn_l, pIn_t, pIx_l, pIx_t, pIx_s, qLen_s, qLen_l, qLen_t, qInt_i, qInt_b, qTup_l, qTup_t, qList_l, qList_t, qSum, qJoin, qCount, qIndex, locOk, isTW, isT, unW, unWs, noX, seqW_l, seqW_t, sizeLine_eq, L2.atI, L2.ixN], fun _ => by simp [runD_ap, startE, eVar_ap, eC_ap, eBin_ap, eChain_ap, tV_ap, tNot_ap, tAnd_ap, tOr_ap, eAnd_ap, eOr_ap, eNot_ap, eIf_ap, aNil_ap, aCons_ap, eTup_ap, eLst_ap, eLstM_ap, eRep_ap, eCall_ap, eB_ap, eIsi_ap, eMl_ap, eMs_ap, oNone_ap, oSome_ap, eSl_ap, sNil_ap, sSeq_ap, sRet_ap, sExpr_ap, sIf_ap, sSet_ap, sAsg_ap, sPar_ap, sPut_ap, iSeq_ap, iRg1_ap, iRg2_ap, fYes_ap, iZ2_ap, iZ3_ap, sRaise_ap, eNeg_ap, ofR, R.bind, toB_b, gN, gT, gsCons, gsNil, wipeE, pPlus_i, pPlus_l, pPlus_t, pPlus_s, pSub_i, pMul_i, pDiv_i, pMod_i, pPow_i, pEq_d, pNe_d, pLt_i, pLe_i, pGt_i, pGe_i, pLt_s, pLe_s, pGt_s, pGe_s, pIs_n, pIs_t, pIs_l, pIs_s, pIs_i, pIs_bn, pIs_b, pIn_s, pIn_l, pIn_t, pIx_l, pIx_t, pIx_s, qLen_s, qLen_l, qLen_t, qInt_i, qInt_b, qTup_l, qTup_t, qList_l, qList_t, qSum, qJoin, qCount, qIndex, locOk, isTW, isT, unW, unWs, noX, seqW_l, seqW_t, sizeLine_eq, L2.atI, L2.ixN]⟩) (by
        rw [sizeLine_eq, List.length_zip]
        have : (cntL M p.1).length = M.length := by simp [cntL]; rfl
        rw [this]
        exact Nat.le_trans (Nat.min_le_right _ _) Z.len)
    have s1 := sh_ones ((List.zip cs (cntL M p.1)).filter fun p => decide (p.1 < p.2))
    have e2 := enough_fil cs (cntL M p.1)
    rw [List.map_cons]
    unfold loopF
    cases hb : enough cs (cntL M p.1) with
    | true =>
      obtain ⟨e3', e4', ih⟩ := q_usloop h Z ps (acc ++ [p]) (some (.d (rl p))) (some (.d (cw (cntL M p.1)))) e5 e6 (fun q hq => hp q (List.mem_cons_of_mem _ hq)) (by simp only [List.length_append, List.length_cons, List.length_nil]; omega)
      refine ⟨e3', e4', ?_⟩
      rw [hb] at e2
      have h1 : acc.length ≤ 16777215 := by omega
      simp [runD_ap, startE, eVar_ap, eC_ap, eBin_ap, eChain_ap, tV_ap, tNot_ap, tAnd_ap, tOr_ap, eAnd_ap, eOr_ap, eNot_ap, eIf_ap, aNil_ap, aCons_ap, eTup_ap, eLst_ap, eLstM_ap, eRep_ap, eCall_ap, eB_ap, eIsi_ap, eMl_ap, eMs_ap, oNone_ap, oSome_ap, eSl_ap, sNil_ap, sSeq_ap, sRet_ap, sExpr_ap, sIf_ap, sSet_ap, sAsg_ap, sPar_ap, sPut_ap, iSeq_ap, iRg1_ap, iRg2_ap, fYes_ap, iZ2_ap, iZ3_ap, sRaise_ap, eNeg_ap, ofR, R.bind, toB_b, gN, gT, gsCons, gsNil, wipeE, pPlus_i, pPlus_l, pPlus_t, pPlus_s, pSub_i, pMul_i, pDiv_i, pMod_i, pPow_i, pEq_d, pNe_d, pLt_i, pLe_i, pGt_i, pGe_i, pLt_s, pLe_s, pGt_s, pGe_s, pIs_n, pIs_t, pIs_l, pIs_s, pIs_i, pIs_bn, pIs_b, pIn_s, pIn_l, pIn_t, pIx_l, pIx_t, pIx_s, qLen_s, qLen_l, qLen_t, qInt_i, qInt_b, qTup_l, qTup_t, qList_l, qList_t, qSum, qJoin, qCount, qIndex, locOk, isTW, isT, unW, unWs, noX, seqW_l, seqW_t, sizeLine_eq, L2.atI, L2.ixN, ix_rl0, ix_rl1, ix_fk0, ix_fk1, sq_cw, e1, q1, s1, sh_nil, ev_nil, e2, pCatL, h1, hb] at ih ⊢
      exact ih
    | false =>
      obtain ⟨e3', e4', ih⟩ := q_usloop h Z ps acc (some (.d (rl p))) (some (.d (cw (cntL M p.1)))) e5 e6 (fun q hq => hp q (List.mem_cons_of_mem _ hq)) (by omega)
      refine ⟨e3', e4', ?_⟩
      rw [hb] at e2
      have h1 : acc.length ≤ 16777216 := by omega
      simp [runD_ap, startE, eVar_ap, eC_ap, eBin_ap, eChain_ap, tV_ap, tNot_ap, tAnd_ap, tOr_ap, eAnd_ap, eOr_ap, eNot_ap, eIf_ap, aNil_ap, aCons_ap, eTup_ap, eLst_ap, eLstM_ap, eRep_ap, eCall_ap, eB_ap, eIsi_ap, eMl_ap, eMs_ap, oNone_ap, oSome_ap, eSl_ap, sNil_ap, sSeq_ap, sRet_ap, sExpr_ap, sIf_ap, sSet_ap, sAsg_ap, sPar_ap, sPut_ap, iSeq_ap, iRg1_ap, iRg2_ap, fYes_ap, iZ2_ap, iZ3_ap, sRaise_ap, eNeg_ap, ofR, R.bind, toB_b, gN, gT, gsCons, gsNil, wipeE, pPlus_i, pPlus_l, pPlus_t, pPlus_s, pSub_i, pMul_i, pDiv_i, pMod_i, pPow_i, pEq_d, pNe_d, pLt_i, pLe_i, pGt_i, pGe_i, pLt_s, pLe_s, pGt_s, pGe_s, pIs_n, pIs_t, pIs_l, pIs_s, pIs_i, pIs_bn, pIs_b, pIn_s, pIn_l, pIn_t, pIx_l, pIx_t, pIx_s, qLen_s, qLen_l, qLen_t, qInt_i, qInt_b, qTup_l, qTup_t, qList_l, qList_t, qSum, qJoin, qCount, qIndex, locOk, isTW, isT, unW, unWs, noX, seqW_l, seqW_t, sizeLine_eq, L2.atI, L2.ixN, ix_rl0, ix_rl1, ix_fk0, ix_fk1, sq_cw, e1, q1, s1, sh_nil, ev_nil, e2, pCatL, h1, hb] at ih ⊢
      exact ih
theorem q_usable (h : Fl m) (Z : Rs M rs) : F__law_usable [.d (fk M rs), .d (cw cs)] m = .ok (.d (.list ((usable M rs cs).map rl))) m := by
  obtain ⟨e3', e4', e⟩ := q_usloop (cs := cs) h Z rs [] none none none none (fun p hp => hp) (by simpa using Z.few)
  simp [F__law_usable, fs__law_usable, runD_ap, startE, eVar_ap, eC_ap, eBin_ap, eChain_ap, tV_ap, tNot_ap, tAnd_ap, tOr_ap, eAnd_ap, eOr_ap, eNot_ap, eIf_ap, aNil_ap, aCons_ap, eTup_ap, eLst_ap, eLstM_ap, eRep_ap, eCall_ap, eB_ap, eIsi_ap, eMl_ap, eMs_ap, oNone_ap, oSome_ap, eSl_ap, sNil_ap, sSeq_ap, sRet_ap, sExpr_ap, sIf_ap, sSet_ap, sAsg_ap, sPar_ap, sPut_ap, iSeq_ap, iRg1_ap, iRg2_ap, fYes_ap, iZ2_ap, iZ3_ap, sRaise_ap, eNeg_ap, ofR, R.bind, toB_b, gN, gT, gsCons, gsNil, wipeE, pPlus_i, pPlus_l, pPlus_t, pPlus_s, pSub_i, pMul_i, pDiv_i, pMod_i, pPow_i, pEq_d, pNe_d, pLt_i, pLe_i, pGt_i, pGe_i, pLt_s, pLe_s, pGt_s, pGe_s, pIs_n, pIs_t, pIs_l, pIs_s, pIs_i, pIs_bn, pIs_b, pIn_s, pIn_l, pIn_t, pIx_l, pIx_t, pIx_s, qLen_s, qLen_l, qLen_t, qInt_i, qInt_b, qTup_l, qTup_t, qList_l, qList_t, qSum, qJoin, qCount, qIndex, locOk, isTW, isT, unW, unWs, noX, seqW_l, seqW_t, sizeLine_eq, L2.atI, L2.ixN, ix_rl0, ix_rl1, ix_fk0, ix_fk1, sq_cw, sFor_ap, Function.comp_def, usable] at e ⊢
  simp [e, dEnd_rt h]
def bhL (M : Str) (cs : List Int) (p : Str × Str) : List Int := (List.zip cs (List.zip (cntL M p.1) (cntL M p.2))).map fun q => q.1 - q.2.1 + q.2.2
theorem bhL_bh : bhL M cs p = bh M cs p := by
  unfold bhL bh
  rw [cntL_nums, cntL_nums]
theorem q_behind (h : Fl m) (Z : Rs M rs) (p : Str × Str) (hp : p ∈ rs) : F__law_behind [.d (fk M rs), .d (cw cs), .d (rl p)] m = .ok (.d (cw (bh M cs p))) m := by
  have hp1 := Z.l1 p hp
  have e1 := q_counts h Z.len hp1.1 Z.sg hp1.2.1
  have e2 := q_counts h Z.len hp1.2.2.1 Z.sg hp1.2.2.2
  rw [cntL_nums] at e1 e2
  have q1 : ∀ e0 e2 e5 e6 e7, eLc [5, 6, 7] (iZ3 (aCons (eVar 1) (aCons (eVar 3) (aCons (eVar 4) aNil)))) (gT 3 (gsCons (gN 5) (gsCons (gN 6) (gsCons (gN 7) gsNil)))) fYes (eBin pPlus (eBin pSub (eVar 5) (eVar 6)) (eVar 7)) [e0, some (.d (cw cs)), e2, some (.d (cw (nums M p.1))), some (.d (cw (nums M p.2))), e5, e6, e7] m = .ok (.d (.list ((bh M cs p).map .int))) m := fun e0 e2 e5 e6 e7 => by
    rw [eLc_map (g0 := fun q : Int × Int × Int => W.d (.tuple [.int q.1, .int q.2.1, .int q.2.2])) (l := List.zip cs (List.zip (nums M p.1) (nums M p.2))) (m1 := m) (c := fun _ => true) (g := fun q => .int (q.1 - q.2.1 + q.2.2)) (by simp [runD_ap, startE, eVar_ap, eC_ap, eBin_ap, eChain_ap, tV_ap, tNot_ap, tAnd_ap, tOr_ap, eAnd_ap, eOr_ap, eNot_ap, eIf_ap, aNil_ap, aCons_ap, eTup_ap, eLst_ap, eLstM_ap, eRep_ap, eCall_ap, eB_ap, eIsi_ap, eMl_ap, eMs_ap, oNone_ap, oSome_ap, eSl_ap, sNil_ap, sSeq_ap, sRet_ap, sExpr_ap, sIf_ap, sSet_ap, sAsg_ap, sPar_ap, sPut_ap, iSeq_ap, iRg1_ap, iRg2_ap, fYes_ap, iZ2_ap, iZ3_ap, sRaise_ap, eNeg_ap, ofR, R.bind, toB_b, gN, gT, gsCons, gsNil, wipeE, pPlus_i, pPlus_l, pPlus_t, pPlus_s, pSub_i, pMul_i, pDiv_i, pMod_i, pPow_i, pEq_d, pNe_d, pLt_i, pLe_i, pGt_i, pGe_i, pLt_s, pLe_s, pGt_s, pGe_s, pIs_n, pIs_t, pIs_l, pIs_s, pIs_i, pIs_bn, pIs_b, pIn_s, pIn_l, pIn_t, pIx_l, pIx_t, pIx_s, qLen_s, qLen_l, qLen_t, qInt_i, qInt_b, qTup_l, qTup_t, qList_l, qList_t, qSum, qJoin, qCount, qIndex, locOk, isTW, isT, unW, unWs, noX, seqW_l, seqW_t, sizeLine_eq, L2.atI, L2.ixN, ix_rl0, ix_rl1, ix_fk0, ix_fk1, sq_cw, zip3_map]) (fun i hi => ⟨_, rfl, rfl, fun _ => by simp [runD_ap, startE, eVar_ap, eC_ap, eBin_ap, eChain_ap, tV_ap, tNot_ap, tAnd_ap, tOr_ap, eAnd_ap, eOr_ap, eNot_ap, eIf_ap, aNil_ap, aCons_ap, eTup_ap, eLst_ap, eLstM_ap, eRep_ap, eCall_ap, eB_ap, eIsi_ap, eMl_ap, eMs_ap, oNone_ap, oSome_ap, eSl_ap, sNil_ap, sSeq_ap, sRet_ap, sExpr_ap, sIf_ap, sSet_ap, sAsg_ap, sPar_ap, sPut_ap, iSeq_ap, iRg1_ap, iRg2_ap, fYes_ap, iZ2_ap, iZ3_ap, sRaise_ap, eNeg_ap, ofR, R.bind, toB_b, gN, gT, gsCons, gsNil, wipeE, pPlus_i, pPlus_l, pPlus_t, pPlus_s, pSub_i, pMul_i, pDiv_i, pMod_i, pPow_i, pEq_d, pNe_d, pLt_i, pLe_i, pGt_i, pGe_i, pLt_s, pLe_s, pGt_s, pGe_s, pIs_n, pIs_t, pIs_l, pIs_s, pIs_i, pIs_bn, pIs_b, pIn_s, pIn_l, pIn_t, pIx_l, pIx_t, pIx_s, qLen_s, qLen_l, qLen_t, qInt_i, qInt_b, qTup_l, qTup_t, qList_l, qList_t, qSum, qJoin, qCount, qIndex, locOk, isTW, isT, unW, unWs, noX, seqW_l, seqW_t, sizeLine_eq, L2.atI, L2.ixN]⟩) (by
      rw [sizeLine_eq, List.length_zip, List.length_zip, nums_len, nums_len, Nat.min_self]
      exact Nat.le_trans (Nat.min_le_right _ _) Z.len)]
    simp [bh, filt_true, Function.comp_def]
  simp [F__law_behind, fs__law_behind, runD_ap, startE, eVar_ap, eC_ap, eBin_ap, eChain_ap, tV_ap, tNot_ap, tAnd_ap, tOr_ap, eAnd_ap, eOr_ap, eNot_ap, eIf_ap, aNil_ap, aCons_ap, eTup_ap, eLst_ap, eLstM_ap, eRep_ap, eCall_ap, eB_ap, eIsi_ap, eMl_ap, eMs_ap, oNone_ap, oSome_ap, eSl_ap, sNil_ap, sSeq_ap, sRet_ap, sExpr_ap, sIf_ap, sSet_ap, sAsg_ap, sPar_ap, sPut_ap, iSeq_ap, iRg1_ap, iRg2_ap, fYes_ap, iZ2_ap, iZ3_ap, sRaise_ap, eNeg_ap, ofR, R.bind, toB_b, gN, gT, gsCons, gsNil, wipeE, pPlus_i, pPlus_l, pPlus_t, pPlus_s, pSub_i, pMul_i, pDiv_i, pMod_i, pPow_i, pEq_d, pNe_d, pLt_i, pLe_i, pGt_i, pGe_i, pLt_s, pLe_s, pGt_s, pGe_s, pIs_n, pIs_t, pIs_l, pIs_s, pIs_i, pIs_bn, pIs_b, pIn_s, pIn_l, pIn_t, pIx_l, pIx_t, pIx_s, qLen_s, qLen_l, qLen_t, qInt_i, qInt_b, qTup_l, qTup_t, qList_l, qList_t, qSum, qJoin, qCount, qIndex, locOk, isTW, isT, unW, unWs, noX, seqW_l, seqW_t, sizeLine_eq, L2.atI, L2.ixN, ix_rl0, ix_rl1, ix_fk0, ix_fk1, sq_cw, e1, e2, q1, cw_fold, dEnd_rt h]
theorem usable_can : (usable M rs cs).contains p = canB M rs cs p := by
  rw [Bool.eq_iff_iff, List.contains_iff_mem]
  unfold usable canB
  rw [List.mem_filter, Bool.and_eq_true, decide_eq_true_eq, cntL_nums]
theorem usable_filter : usable M rs cs = rs.filter (canB M rs cs) := by
  unfold usable
  refine List.filter_congr fun p hp => ?_
  unfold canB
  rw [cntL_nums, decide_eq_true hp, Bool.true_and]
theorem q_ledloop (h : Fl m) (Z : Rs M rs) (w2 : W) (hsu : ∀ cs, Shp (.list ((usable M rs cs).map rl))) : ∀ (ps : List (Str × Str)) (cs : List Int) (e3 : Option W), (∀ p ∈ ps, Shp (rl p)) →
    ∃ e3', loopF (gN 3) (sSeq (sIf (tV (eBin (pIn false) (eVar 3) (eCall 2 F__law_usable (aCons (eVar 0) (aCons (eVar 1) aNil))))) (sRet (eC .none)) sNil) (sSet 1 (eCall 3 F__law_behind (aCons (eVar 0) (aCons (eVar 1) (aCons (eVar 3) aNil)))))) (ps.map fun p => W.d (rl p)) [some (.d (fk M rs)), some (.d (cw cs)), some w2, e3] m =
      match rowB M rs cs ps with
      | some c => .nx [some (.d (fk M rs)), some (.d (cw c)), some w2, e3'] m
      | none => .rt (.d .none) m
  | [], cs, e3, _ => ⟨e3, rfl⟩
  | p :: ps, cs, e3, hsh => by
    have e := q_usable (cs := cs) h Z
    have s1 : SeqAt.shaped (rl p) = true := hsh p List.mem_cons_self
    have s2 : SeqAt.shaped (.list ((usable M rs cs).map rl)) = true := hsu cs
    have a1 := any_rl (usable M rs cs) p
    have a2 := usable_can (M := M) (rs := rs) (cs := cs) (p := p)
    rw [List.contains_eq_mem] at a2
    rw [a2] at a1
    obtain ⟨e3', ih⟩ := q_ledloop h Z w2 hsu ps (bh M cs p) (some (.d (rl p))) fun q hq => hsh q (List.mem_cons_of_mem _ hq)
    refine ⟨e3', ?_⟩
    rw [List.map_cons]
    unfold loopF rowB
    cases hb : canB M rs cs p with
    | true =>
      have hp : p ∈ rs := by
        unfold canB at hb
        rw [Bool.and_eq_true] at hb
        exact of_decide_eq_true hb.1
      have e4 := q_behind (cs := cs) h Z p hp
      rw [hb] at a1
      simp [runD_ap, startE, eVar_ap, eC_ap, eBin_ap, eChain_ap, tV_ap, tNot_ap, tAnd_ap, tOr_ap, eAnd_ap, eOr_ap, eNot_ap, eIf_ap, aNil_ap, aCons_ap, eTup_ap, eLst_ap, eLstM_ap, eRep_ap, eCall_ap, eB_ap, eIsi_ap, eMl_ap, eMs_ap, oNone_ap, oSome_ap, eSl_ap, sNil_ap, sSeq_ap, sRet_ap, sExpr_ap, sIf_ap, sSet_ap, sAsg_ap, sPar_ap, sPut_ap, iSeq_ap, iRg1_ap, iRg2_ap, fYes_ap, iZ2_ap, iZ3_ap, sRaise_ap, eNeg_ap, ofR, R.bind, toB_b, gN, gT, gsCons, gsNil, wipeE, pPlus_i, pPlus_l, pPlus_t, pPlus_s, pSub_i, pMul_i, pDiv_i, pMod_i, pPow_i, pEq_d, pNe_d, pLt_i, pLe_i, pGt_i, pGe_i, pLt_s, pLe_s, pGt_s, pGe_s, pIs_n, pIs_t, pIs_l, pIs_s, pIs_i, pIs_bn, pIs_b, pIn_s, pIn_l, pIn_t, pIx_l, pIx_t, pIx_s, qLen_s, qLen_l, qLen_t, qInt_i, qInt_b, qTup_l, qTup_t, qList_l, qList_t, qSum, qJoin, qCount, qIndex, locOk, isTW, isT, unW, unWs, noX, seqW_l, seqW_t, sizeLine_eq, L2.atI, L2.ixN, ix_rl0, ix_rl1, ix_fk0, ix_fk1, sq_cw, e, s1, s2, a1, e4]
      exact ih
    | false =>
      rw [hb] at a1
      simp [runD_ap, startE, eVar_ap, eC_ap, eBin_ap, eChain_ap, tV_ap, tNot_ap, tAnd_ap, tOr_ap, eAnd_ap, eOr_ap, eNot_ap, eIf_ap, aNil_ap, aCons_ap, eTup_ap, eLst_ap, eLstM_ap, eRep_ap, eCall_ap, eB_ap, eIsi_ap, eMl_ap, eMs_ap, oNone_ap, oSome_ap, eSl_ap, sNil_ap, sSeq_ap, sRet_ap, sExpr_ap, sIf_ap, sSet_ap, sAsg_ap, sPar_ap, sPut_ap, iSeq_ap, iRg1_ap, iRg2_ap, fYes_ap, iZ2_ap, iZ3_ap, sRaise_ap, eNeg_ap, ofR, R.bind, toB_b, gN, gT, gsCons, gsNil, wipeE, pPlus_i, pPlus_l, pPlus_t, pPlus_s, pSub_i, pMul_i, pDiv_i, pMod_i, pPow_i, pEq_d, pNe_d, pLt_i, pLe_i, pGt_i, pGe_i, pLt_s, pLe_s, pGt_s, pGe_s, pIs_n, pIs_t, pIs_l, pIs_s, pIs_i, pIs_bn, pIs_b, pIn_s, pIn_l, pIn_t, pIx_l, pIx_t, pIx_s, qLen_s, qLen_l, qLen_t, qInt_i, qInt_b, qTup_l, qTup_t, qList_l, qList_t, qSum, qJoin, qCount, qIndex, locOk, isTW, isT, unW, unWs, noX, seqW_l, seqW_t, sizeLine_eq, L2.atI, L2.ixN, ix_rl0, ix_rl1, ix_fk0, ix_fk1, sq_cw, e, s1, s2, a1]
theorem q_led (h : Fl m) (Z : Rs M rs) (hsu : ∀ cs, Shp (.list ((usable M rs cs).map rl))) (ps : List (Str × Str)) (hsh : ∀ p ∈ ps, Shp (rl p)) : F__law_led [.d (fk M rs), .d (cw cs), .d (.tuple (ps.map rl))] m = .ok (.d (match rowB M rs cs ps with | some c => cw c | none => .none)) m := by
  obtain ⟨e3', e⟩ := q_ledloop h Z (.d (.tuple (ps.map rl))) hsu ps cs none hsh
  cases hr : rowB M rs cs ps with
  | some c =>
    rw [hr] at e
    simp only at e
    simp [F__law_led, fs__law_led, runD_ap, startE, eVar_ap, eC_ap, eBin_ap, eChain_ap, tV_ap, tNot_ap, tAnd_ap, tOr_ap, eAnd_ap, eOr_ap, eNot_ap, eIf_ap, aNil_ap, aCons_ap, eTup_ap, eLst_ap, eLstM_ap, eRep_ap, eCall_ap, eB_ap, eIsi_ap, eMl_ap, eMs_ap, oNone_ap, oSome_ap, eSl_ap, sNil_ap, sSeq_ap, sRet_ap, sExpr_ap, sIf_ap, sSet_ap, sAsg_ap, sPar_ap, sPut_ap, iSeq_ap, iRg1_ap, iRg2_ap, fYes_ap, iZ2_ap, iZ3_ap, sRaise_ap, eNeg_ap, ofR, R.bind, toB_b, gN, gT, gsCons, gsNil, wipeE, pPlus_i, pPlus_l, pPlus_t, pPlus_s, pSub_i, pMul_i, pDiv_i, pMod_i, pPow_i, pEq_d, pNe_d, pLt_i, pLe_i, pGt_i, pGe_i, pLt_s, pLe_s, pGt_s, pGe_s, pIs_n, pIs_t, pIs_l, pIs_s, pIs_i, pIs_bn, pIs_b, pIn_s, pIn_l, pIn_t, pIx_l, pIx_t, pIx_s, qLen_s, qLen_l, qLen_t, qInt_i, qInt_b, qTup_l, qTup_t, qList_l, qList_t, qSum, qJoin, qCount, qIndex, locOk, isTW, isT, unW, unWs, noX, seqW_l, seqW_t, sizeLine_eq, L2.atI, L2.ixN, ix_rl0, ix_rl1, ix_fk0, ix_fk1, sq_cw, sFor_ap, Function.comp_def, e, dEnd_rt h]
  | none =>
    rw [hr] at e
    simp only at e
    simp [F__law_led, fs__law_led, runD_ap, startE, eVar_ap, eC_ap, eBin_ap, eChain_ap, tV_ap, tNot_ap, tAnd_ap, tOr_ap, eAnd_ap, eOr_ap, eNot_ap, eIf_ap, aNil_ap, aCons_ap, eTup_ap, eLst_ap, eLstM_ap, eRep_ap, eCall_ap, eB_ap, eIsi_ap, eMl_ap, eMs_ap, oNone_ap, oSome_ap, eSl_ap, sNil_ap, sSeq_ap, sRet_ap, sExpr_ap, sIf_ap, sSet_ap, sAsg_ap, sPar_ap, sPut_ap, iSeq_ap, iRg1_ap, iRg2_ap, fYes_ap, iZ2_ap, iZ3_ap, sRaise_ap, eNeg_ap, ofR, R.bind, toB_b, gN, gT, gsCons, gsNil, wipeE, pPlus_i, pPlus_l, pPlus_t, pPlus_s, pSub_i, pMul_i, pDiv_i, pMod_i, pPow_i, pEq_d, pNe_d, pLt_i, pLe_i, pGt_i, pGe_i, pLt_s, pLe_s, pGt_s, pGe_s, pIs_n, pIs_t, pIs_l, pIs_s, pIs_i, pIs_bn, pIs_b, pIn_s, pIn_l, pIn_t, pIx_l, pIx_t, pIx_s, qLen_s, qLen_l, qLen_t, qInt_i, qInt_b, qTup_l, qTup_t, qList_l, qList_t, qSum, qJoin, qCount, qIndex, locOk, isTW, isT, unW, unWs, noX, seqW_l, seqW_t, sizeLine_eq, L2.atI, L2.ixN, ix_rl0, ix_rl1, ix_fk0, ix_fk1, sq_cw, sFor_ap, Function.comp_def, e, dEnd_rt h]
end
end K00

set_option Elab.async false
set_option linter.all false
set_option maxRecDepth 100000
set_option maxHeartbeats 1000000
namespace K00
open PySem Pd
/-! ### a thing is alike with itself -/
mutual
def Al : Nat → PyData → Bool
  | 0, _ => false
  | n + 1, .list ds => decide (ds.length ≤ 1000) && Als n ds
  | n + 1, .tuple ds => decide (ds.length ≤ 1000) && Als n ds
  | _ + 1, .dict _ => false
  | _ + 1, .str s => SeqAt.shaped (.str s)
  | _ + 1, _ => true
def Als : Nat → List PyData → Bool
  | _, [] => true
  | n, d :: ds => Al n d && Als n ds
end
theorem Als_mem {n : Nat} : ∀ {ds : List PyData} {d : PyData}, Als n ds = true → d ∈ ds → Al n d = true
  | x :: xs, d, h, hd => by
    unfold Als at h
    rw [Bool.and_eq_true] at h
    rcases List.mem_cons.mp hd with rfl | hd
    · exact h.1
    · exact Als_mem h.2 hd
theorem iRg1_i (j : Int) (r : FA) (e : Pd.Env) (m m1 : Sto) (e4 : r e m = .ok [.d (.int j)] m1) (hj : -(2 ^ 62) ≤ j ∧ j < 2 ^ 62) : iRg1 r e m = .ok (rng 0 j.toNat) m1 := by
  rw [iRg1_ap, e4]
  exact if_pos hj
theorem in_62 (n : Nat) (hl : n ≤ 1000) : -(2 ^ 62) ≤ (n : Int) ∧ (n : Int) < 2 ^ 62 := by omega
theorem iRg1_n (n : Nat) (hl : n ≤ 1000) (r : FA) (e : Pd.Env) (m m1 : Sto) (e4 : r e m = .ok [.d (.int n)] m1) : iRg1 r e m = .ok ((List.range n).map fun i => W.d (.int (0 + (i : Nat)))) m1 := by
  have := iRg1_i _ r e m m1 e4 (in_62 n hl)
  rw [Int.toNat_natCast] at this
  exact this
theorem iRg_len {x : PyData} {ds : List PyData} (hx : x = .list ds ∨ x = .tuple ds) (hl : ds.length ≤ 1000) (m : Sto) (e : Pd.Env) (h1 : e[1]? = some (some (W.d x))) : iRg1 (aCons (eB qLen (aCons (eVar 1) aNil)) aNil) e m = .ok ((List.range ds.length).map fun i => W.d (.int (0 + (i : Nat)))) m := by
  have e2 : qLen [.d x] m = .ok (.d (.int ds.length)) m := by rcases hx with rfl | rfl <;> rfl
  have e3 : eVar 1 e m = .ok (.d x) m := by rw [eVar_ap, h1]
  have e4 : aCons (eB qLen (aCons (eVar 1) aNil)) aNil e m = .ok [.d (.int ds.length)] m := by
    simp only [aCons_ap, eB_ap, aNil_ap, e3, R.bind, e2]
  exact iRg1_n _ hl _ e m m e4
theorem al_item {x : PyData} {ds : List PyData} (hx : x = .list ds ∨ x = .tuple ds) {i : Nat} (hi : i < ds.length) (m : Sto) : pIx (.d x) (.d (.int (0 + (i : Nat)))) m = .ok (.d ds[i]) m := by
  have g1 : ds[i]? = some ds[i] := List.getElem?_eq_getElem hi
  rw [Int.zero_add]
  rcases hx with rfl | rfl
  · rw [pIx_l, atI_nat, g1]
  · rw [pIx_t, atI_nat, g1]
theorem al_q {m : Sto} {F : List W → Sto → R W} {x : PyData} {ds : List PyData} (hx : x = .list ds ∨ x = .tuple ds) (hl : ds.length ≤ 1000) (hF : ∀ d ∈ ds, F [.d d, .d d] m = .ok (.d (.bool true)) m) (e2 e3 : Option W) :
    eLc [2] (iRg1 (aCons (eB qLen (aCons (eVar 1) aNil)) aNil)) (gN 2) (Pd.tNot (tV (eCall 2 F (aCons (eBin pIx (eVar 0) (eVar 2)) (aCons (eBin pIx (eVar 1) (eVar 2)) aNil))))) (eVar 2) [some (.d x), some (.d x), e2, e3] m = .ok (.d (.list [])) m := by
  rw [eLc_map (g0 := fun i => W.d (.int (0 + (i : Nat)))) (l := List.range ds.length) (m1 := m) (c := fun _ => false) (g := fun _ => .none) (iRg_len hx hl m _ rfl) (fun i hi => ⟨_, rfl, ?_, fun z => by cases z⟩) (by rw [sizeLine_eq, List.length_range]; omega)]
  · simp
  · have hi' : i < ds.length := List.mem_range.mp hi
    have g2 := hF ds[i] (List.getElem_mem hi')
    have g3 := al_item hx hi' m
    simp only [tNot_ap, tV_ap, eCall_ap, aCons_ap, aNil_ap, eBin_ap, eVar_ap, wipeE, gN, List.set_cons_succ, List.set_cons_zero, List.getElem?_cons_zero, List.getElem?_cons_succ, R.bind, g3, List.length_cons, List.length_nil, if_true, g2, toB_b, Bool.not_true]
theorem al_t1 {x : PyData} {ds : List PyData} (hx : x = .list ds ∨ x = .tuple ds) (e : Pd.Env) (m : Sto) (i : Nat) (h1 : e[i]? = some (some (W.d x))) : eIsi ["tuple", "list"] (eVar i) e m = .ok (.d (.bool true)) m := by
  rw [eIsi_ap, eVar_ap, h1]
  rcases hx with rfl | rfl <;> rfl
theorem al_t2 {x : PyData} (e : Pd.Env) (m : Sto) (i : Nat) (h1 : e[i]? = some (some (W.d x))) : eIsi ["list"] (eVar i) e m = .ok (.d (.bool (isT "list" x))) m := by
  rw [eIsi_ap, eVar_ap, h1]
  simp only [R.bind, locOk, if_true, isTW, List.any_cons, List.any_nil, Bool.or_false]
theorem al_t3 {x : PyData} {ds : List PyData} (hx : x = .list ds ∨ x = .tuple ds) (e : Pd.Env) (m : Sto) (i : Nat) (h1 : e[i]? = some (some (W.d x))) : eB qLen (aCons (eVar i) aNil) e m = .ok (.d (.int ds.length)) m := by
  have e2 : qLen [.d x] m = .ok (.d (.int ds.length)) m := by rcases hx with rfl | rfl <;> rfl
  have e3 : eVar i e m = .ok (.d x) m := by rw [eVar_ap, h1]
  simp only [aCons_ap, eB_ap, aNil_ap, e3, R.bind, e2]
theorem alike_seq {m : Sto} {F : List W → Sto → R W} {x : PyData} {ds : List PyData} (h : Fl m) (hx : x = .list ds ∨ x = .tuple ds) (hl : ds.length ≤ 1000) (hF : ∀ d ∈ ds, F [.d d, .d d] m = .ok (.d (.bool true)) m) :
    runD 4 (fs__law_alike F) [.d x, .d x] m = .ok (.d (.bool true)) m := by
  have q1 := al_q hx hl hF none none
  have a0 := al_t1 hx [some (.d x), some (.d x), none, none] m 0 rfl
  have a1 := al_t1 hx [some (.d x), some (.d x), none, none] m 1 rfl
  have b0 := al_t2 (x := x) [some (.d x), some (.d x), none, none] m 0 rfl
  have b1 := al_t2 (x := x) [some (.d x), some (.d x), none, none] m 1 rfl
  have c0 := al_t3 hx [some (.d x), some (.d x), none, none] m 0 rfl
  have c1 := al_t3 hx [some (.d x), some (.d x), none, none] m 1 rfl
  have n1 : ((ds.length : Int) == ds.length) = true := by rw [beq_iff_eq]
  simp only [runD_ap, startE, List.map_cons, List.map_nil, List.length_cons, List.length_nil, Nat.reduceAdd, Nat.reduceSub, List.replicate_succ, List.replicate_zero, List.cons_append, List.nil_append, fs__law_alike, sSeq_ap, sIf_ap, tV_ap, tOr_ap, tNot_ap, eBin_ap, a0, a1, b0, b1, c0, c1, q1, R.bind, toB_b, ofR, if_true, pNe_d, pEq_d, sh_bool, sh_int, ev_bool, ev_int, n1, BEq.rfl, and_self, Bool.not_true, Bool.false_eq_true, if_false, sNil_ap, sRet_ap, eLst_ap, aNil_ap, unWs, sh_nil, ev_nil, List.isEmpty_nil, Nat.zero_le, dEnd_rt h]
theorem alike_refl {m : Sto} (h : Fl m) : ∀ (n : Nat) (x : PyData), Al n x = true → FJ__law_alike n [.d x, .d x] m = .ok (.d (.bool true)) m
  | 0, x, hx => by
    unfold Al at hx
    cases hx
  | n + 1, x, hx => by
    show runD 4 (fs__law_alike (FJ__law_alike n)) [.d x, .d x] m = _
    cases x with
    | list ds =>
      unfold Al at hx
      rw [Bool.and_eq_true] at hx
      exact alike_seq h (.inl rfl) (of_decide_eq_true hx.1) fun d hd => alike_refl h n d (Als_mem hx.2 hd)
    | tuple ds =>
      unfold Al at hx
      rw [Bool.and_eq_true] at hx
      exact alike_seq h (.inr rfl) (of_decide_eq_true hx.1) fun d hd => alike_refl h n d (Als_mem hx.2 hd)
    | dict ds =>
      unfold Al at hx
      cases hx
    | str s =>
      have s1 : SeqAt.shaped (.str s) = true := by unfold Al at hx; exact hx
      simp [fs__law_alike, runD_ap, startE, eVar_ap, eC_ap, eBin_ap, eChain_ap, tV_ap, tNot_ap, tAnd_ap, tOr_ap, eAnd_ap, eOr_ap, eNot_ap, eIf_ap, aNil_ap, aCons_ap, eTup_ap, eLst_ap, eLstM_ap, eRep_ap, eCall_ap, eB_ap, eIsi_ap, eMl_ap, eMs_ap, oNone_ap, oSome_ap, eSl_ap, sNil_ap, sSeq_ap, sRet_ap, sExpr_ap, sIf_ap, sSet_ap, sAsg_ap, sPar_ap, sPut_ap, iSeq_ap, iRg1_ap, iRg2_ap, fYes_ap, iZ2_ap, iZ3_ap, sRaise_ap, eNeg_ap, ofR, R.bind, toB_b, gN, gT, gsCons, gsNil, wipeE, pPlus_i, pPlus_l, pPlus_t, pPlus_s, pSub_i, pMul_i, pDiv_i, pMod_i, pPow_i, pEq_d, pNe_d, pLt_i, pLe_i, pGt_i, pGe_i, pLt_s, pLe_s, pGt_s, pGe_s, pIs_n, pIs_t, pIs_l, pIs_s, pIs_i, pIs_bn, pIs_b, pIn_s, pIn_l, pIn_t, pIx_l, pIx_t, pIx_s, qLen_s, qLen_l, qLen_t, qInt_i, qInt_b, qTup_l, qTup_t, qList_l, qList_t, qSum, qJoin, qCount, qIndex, locOk, isTW, isT, unW, unWs, noX, seqW_l, seqW_t, sizeLine_eq, L2.atI, L2.ixN, sh_bool, ev_bool, s1, ev_str, dEnd_rt h]
    | none => simp [fs__law_alike, runD_ap, startE, eVar_ap, eC_ap, eBin_ap, eChain_ap, tV_ap, tNot_ap, tAnd_ap, tOr_ap, eAnd_ap, eOr_ap, eNot_ap, eIf_ap, aNil_ap, aCons_ap, eTup_ap, eLst_ap, eLstM_ap, eRep_ap, eCall_ap, eB_ap, eIsi_ap, eMl_ap, eMs_ap, oNone_ap, oSome_ap, eSl_ap, sNil_ap, sSeq_ap, sRet_ap, sExpr_ap, sIf_ap, sSet_ap, sAsg_ap, sPar_ap, sPut_ap, iSeq_ap, iRg1_ap, iRg2_ap, fYes_ap, iZ2_ap, iZ3_ap, sRaise_ap, eNeg_ap, ofR, R.bind, toB_b, gN, gT, gsCons, gsNil, wipeE, pPlus_i, pPlus_l, pPlus_t, pPlus_s, pSub_i, pMul_i, pDiv_i, pMod_i, pPow_i, pEq_d, pNe_d, pLt_i, pLe_i, pGt_i, pGe_i, pLt_s, pLe_s, pGt_s, pGe_s, pIs_n, pIs_t, pIs_l, pIs_s, pIs_i, pIs_bn, pIs_b, pIn_s, pIn_l, pIn_t, pIx_l, pIx_t, pIx_s, qLen_s, qLen_l, qLen_t, qInt_i, qInt_b, qTup_l, qTup_t, qList_l, qList_t, qSum, qJoin, qCount, qIndex, locOk, isTW, isT, unW, unWs, noX, seqW_l, seqW_t, sizeLine_eq, L2.atI, L2.ixN, sh_bool, ev_bool, sh_non, PyData.eqv, dEnd_rt h]
    | bool b => simp [fs__law_alike, runD_ap, startE, eVar_ap, eC_ap, eBin_ap, eChain_ap, tV_ap, tNot_ap, tAnd_ap, tOr_ap, eAnd_ap, eOr_ap, eNot_ap, eIf_ap, aNil_ap, aCons_ap, eTup_ap, eLst_ap, eLstM_ap, eRep_ap, eCall_ap, eB_ap, eIsi_ap, eMl_ap, eMs_ap, oNone_ap, oSome_ap, eSl_ap, sNil_ap, sSeq_ap, sRet_ap, sExpr_ap, sIf_ap, sSet_ap, sAsg_ap, sPar_ap, sPut_ap, iSeq_ap, iRg1_ap, iRg2_ap, fYes_ap, iZ2_ap, iZ3_ap, sRaise_ap, eNeg_ap, ofR, R.bind, toB_b, gN, gT, gsCons, gsNil, wipeE, pPlus_i, pPlus_l, pPlus_t, pPlus_s, pSub_i, pMul_i, pDiv_i, pMod_i, pPow_i, pEq_d, pNe_d, pLt_i, pLe_i, pGt_i, pGe_i, pLt_s, pLe_s, pGt_s, pGe_s, pIs_n, pIs_t, pIs_l, pIs_s, pIs_i, pIs_bn, pIs_b, pIn_s, pIn_l, pIn_t, pIx_l, pIx_t, pIx_s, qLen_s, qLen_l, qLen_t, qInt_i, qInt_b, qTup_l, qTup_t, qList_l, qList_t, qSum, qJoin, qCount, qIndex, locOk, isTW, isT, unW, unWs, noX, seqW_l, seqW_t, sizeLine_eq, L2.atI, L2.ixN, sh_bool, ev_bool, dEnd_rt h]
    | int i => simp [fs__law_alike, runD_ap, startE, eVar_ap, eC_ap, eBin_ap, eChain_ap, tV_ap, tNot_ap, tAnd_ap, tOr_ap, eAnd_ap, eOr_ap, eNot_ap, eIf_ap, aNil_ap, aCons_ap, eTup_ap, eLst_ap, eLstM_ap, eRep_ap, eCall_ap, eB_ap, eIsi_ap, eMl_ap, eMs_ap, oNone_ap, oSome_ap, eSl_ap, sNil_ap, sSeq_ap, sRet_ap, sExpr_ap, sIf_ap, sSet_ap, sAsg_ap, sPar_ap, sPut_ap, iSeq_ap, iRg1_ap, iRg2_ap, fYes_ap, iZ2_ap, iZ3_ap, sRaise_ap, eNeg_ap, ofR, R.bind, toB_b, gN, gT, gsCons, gsNil, wipeE, pPlus_i, pPlus_l, pPlus_t, pPlus_s, pSub_i, pMul_i, pDiv_i, pMod_i, pPow_i, pEq_d, pNe_d, pLt_i, pLe_i, pGt_i, pGe_i, pLt_s, pLe_s, pGt_s, pGe_s, pIs_n, pIs_t, pIs_l, pIs_s, pIs_i, pIs_bn, pIs_b, pIn_s, pIn_l, pIn_t, pIx_l, pIx_t, pIx_s, qLen_s, qLen_l, qLen_t, qInt_i, qInt_b, qTup_l, qTup_t, qList_l, qList_t, qSum, qJoin, qCount, qIndex, locOk, isTW, isT, unW, unWs, noX, seqW_l, seqW_t, sizeLine_eq, L2.atI, L2.ixN, sh_bool, ev_bool, sh_int, ev_int, dEnd_rt h]
end K00

set_option Elab.async false
set_option linter.all false
set_option maxRecDepth 100000
set_option maxHeartbeats 1000000
namespace K00
open PySem Pd
/-! ### what the script gives -/
/-- the script's numbers, how many are read, the state, what is left of a great one -/
def rc (ns : List Int) (k : Nat) (s b : Int) : Cell := .lst [.d (.list (ns.map .int)), .d (.int k), .d (.int s), .d (.int b)]
theorem Fl_rc {ns ns' : List Int} {k k' : Nat} {s s' b b' : Int} {mt : Sto} (h : Fl (rc ns k s b :: mt)) : Fl (rc ns' k' s' b' :: mt) := h
theorem dEnd_to {m m' : Sto} {x : PyData} (h : Fl m') (hl : m'.length = m.length) : dEnd m.length (.rt (.d x) m') = .ok (.d x) m' := by
  rw [← hl]
  exact dEnd_rt h
section
variable {α : Type} (xs : List α)
theorem at_0 : L2.atI xs 0 = xs[0]? := atI_nat xs 0
theorem at_1 : L2.atI xs 1 = xs[1]? := atI_nat xs 1
theorem at_2 : L2.atI xs 2 = xs[2]? := atI_nat xs 2
theorem at_3 : L2.atI xs 3 = xs[3]? := atI_nat xs 3
end
theorem ix41 : L2.ixN 4 1 = some 1 := rfl
theorem ix42 : L2.ixN 4 2 = some 2 := rfl
theorem ix43 : L2.ixN 4 3 = some 3 := rfl
theorem md_in (i n : Int) (hn : 0 < n) : 0 ≤ i % n ∧ i % n < n := ⟨Int.emod_nonneg _ (by omega), Int.emod_lt_of_pos _ hn⟩
theorem q_taken {ns : List Int} {k : Nat} {s b : Int} {mt : Sto} (h : Fl (rc ns k s b :: mt)) (hs : 0 ≤ s ∧ s < 2147483647) (hb : 0 ≤ b) (n : Int) (hn : 0 < n ∧ n < 1073741824) :
    ∃ x k' s' b', F__law_taken [.loc 0, .d (.int n)] (rc ns k s b :: mt) = .ok (.d (.int x)) (rc ns k' s' b' :: mt) ∧ 0 ≤ x ∧ x < n ∧ 0 ≤ s' ∧ s' < 2147483647 ∧ 0 ≤ b' := by
  have hn1 := hn.1
  by_cases h1 : 0 < b
  · have e := dEnd_to (m := rc ns k s b :: mt) (x := .int (b % n)) (Fl_rc (ns' := ns) (k' := k) (s' := s) (b' := b / n) h) rfl
    refine ⟨b % n, k, s, b / n, ?_, (md_in b n hn1).1, (md_in b n hn1).2, hs.1, hs.2, Int.ediv_nonneg hb (by omega)⟩
    simp [F__law_taken, fs__law_taken, runD_ap, startE, eVar_ap, eC_ap, eBin_ap, eChain_ap, tV_ap, tNot_ap, tAnd_ap, tOr_ap, eAnd_ap, eOr_ap, eNot_ap, eIf_ap, aNil_ap, aCons_ap, eTup_ap, eLst_ap, eLstM_ap, eRep_ap, eCall_ap, eB_ap, eIsi_ap, eMl_ap, eMs_ap, oNone_ap, oSome_ap, eSl_ap, sNil_ap, sSeq_ap, sRet_ap, sExpr_ap, sIf_ap, sSet_ap, sAsg_ap, sPar_ap, sPut_ap, iSeq_ap, iRg1_ap, iRg2_ap, fYes_ap, iZ2_ap, iZ3_ap, sRaise_ap, eNeg_ap, ofR, R.bind, toB_b, gN, gT, gsCons, gsNil, wipeE, pPlus_i, pPlus_l, pPlus_t, pPlus_s, pSub_i, pMul_i, pDiv_i, pMod_i, pPow_i, pEq_d, pNe_d, pLt_i, pLe_i, pGt_i, pGe_i, pLt_s, pLe_s, pGt_s, pGe_s, pIs_n, pIs_t, pIs_l, pIs_s, pIs_i, pIs_bn, pIs_b, pIn_s, pIn_l, pIn_t, pIx_l, pIx_t, pIx_s, qLen_s, qLen_l, qLen_t, qInt_i, qInt_b, qTup_l, qTup_t, qList_l, qList_t, qSum, qJoin, qCount, qIndex, locOk, isTW, isT, unW, unWs, noX, seqW_l, seqW_t, sizeLine_eq, L2.atI, L2.ixN, pIx_loc, rc, h1, hn, stSet] at e ⊢
    exact e
  · by_cases h2 : (ns.length : Int) < k + 1
    · have e := dEnd_to (m := rc ns k s b :: mt) (x := .int (((s * 48271 + 11) % 2147483647 / 7) % n)) (Fl_rc (ns' := ns) (k' := k + 1) (s' := (s * 48271 + 11) % 2147483647) (b' := b) h) rfl
      have m1 := md_in (s * 48271 + 11) 2147483647 (by decide)
      refine ⟨_, k + 1, (s * 48271 + 11) % 2147483647, b, ?_, (md_in ((s * 48271 + 11) % 2147483647 / 7) n hn1).1, (md_in ((s * 48271 + 11) % 2147483647 / 7) n hn1).2, m1.1, m1.2, hb⟩
      simp [F__law_taken, fs__law_taken, runD_ap, startE, eVar_ap, eC_ap, eBin_ap, eChain_ap, tV_ap, tNot_ap, tAnd_ap, tOr_ap, eAnd_ap, eOr_ap, eNot_ap, eIf_ap, aNil_ap, aCons_ap, eTup_ap, eLst_ap, eLstM_ap, eRep_ap, eCall_ap, eB_ap, eIsi_ap, eMl_ap, eMs_ap, oNone_ap, oSome_ap, eSl_ap, sNil_ap, sSeq_ap, sRet_ap, sExpr_ap, sIf_ap, sSet_ap, sAsg_ap, sPar_ap, sPut_ap, iSeq_ap, iRg1_ap, iRg2_ap, fYes_ap, iZ2_ap, iZ3_ap, sRaise_ap, eNeg_ap, ofR, R.bind, toB_b, gN, gT, gsCons, gsNil, wipeE, pPlus_i, pPlus_l, pPlus_t, pPlus_s, pSub_i, pMul_i, pDiv_i, pMod_i, pPow_i, pEq_d, pNe_d, pLt_i, pLe_i, pGt_i, pGe_i, pLt_s, pLe_s, pGt_s, pGe_s, pIs_n, pIs_t, pIs_l, pIs_s, pIs_i, pIs_bn, pIs_b, pIn_s, pIn_l, pIn_t, pIx_l, pIx_t, pIx_s, qLen_s, qLen_l, qLen_t, qInt_i, qInt_b, qTup_l, qTup_t, qList_l, qList_t, qSum, qJoin, qCount, qIndex, locOk, isTW, isT, unW, unWs, noX, seqW_l, seqW_t, sizeLine_eq, L2.atI, L2.ixN, pIx_loc, rc, h1, h2, hn, stSet] at e ⊢
      exact e
    · have hk : k < ns.length := by omega
      have g1 : ns[k]? = some ns[k] := List.getElem?_eq_getElem hk
      generalize ns[k] = c at g1
      have m1 := md_in (s * 48271 + c + 11) 2147483647 (by decide)
      have m2 := md_in c n hn1
      by_cases h3 : 1000000000000000000 ≤ c
      · have e := dEnd_to (m := rc ns k s b :: mt) (x := .int (c % n)) (Fl_rc (ns' := ns) (k' := k + 1) (s' := (s * 48271 + c + 11) % 2147483647) (b' := c / n) h) rfl
        refine ⟨c % n, k + 1, (s * 48271 + c + 11) % 2147483647, c / n, ?_, m2.1, m2.2, m1.1, m1.2, Int.ediv_nonneg (by omega) (by omega)⟩
        simp [F__law_taken, fs__law_taken, runD_ap, startE, eVar_ap, eC_ap, eBin_ap, eChain_ap, tV_ap, tNot_ap, tAnd_ap, tOr_ap, eAnd_ap, eOr_ap, eNot_ap, eIf_ap, aNil_ap, aCons_ap, eTup_ap, eLst_ap, eLstM_ap, eRep_ap, eCall_ap, eB_ap, eIsi_ap, eMl_ap, eMs_ap, oNone_ap, oSome_ap, eSl_ap, sNil_ap, sSeq_ap, sRet_ap, sExpr_ap, sIf_ap, sSet_ap, sAsg_ap, sPar_ap, sPut_ap, iSeq_ap, iRg1_ap, iRg2_ap, fYes_ap, iZ2_ap, iZ3_ap, sRaise_ap, eNeg_ap, ofR, R.bind, toB_b, gN, gT, gsCons, gsNil, wipeE, pPlus_i, pPlus_l, pPlus_t, pPlus_s, pSub_i, pMul_i, pDiv_i, pMod_i, pPow_i, pEq_d, pNe_d, pLt_i, pLe_i, pGt_i, pGe_i, pLt_s, pLe_s, pGt_s, pGe_s, pIs_n, pIs_t, pIs_l, pIs_s, pIs_i, pIs_bn, pIs_b, pIn_s, pIn_l, pIn_t, pIx_l, pIx_t, pIx_s, qLen_s, qLen_l, qLen_t, qInt_i, qInt_b, qTup_l, qTup_t, qList_l, qList_t, qSum, qJoin, qCount, qIndex, locOk, isTW, isT, unW, unWs, noX, seqW_l, seqW_t, sizeLine_eq, atI_nat, atI_nat1, at_0, at_1, at_2, at_3, ix41, ix42, ix43, g1, pIx_loc, rc, h1, h2, h3, hn, stSet] at e ⊢
        exact e
      · have e := dEnd_to (m := rc ns k s b :: mt) (x := .int (c % n)) (Fl_rc (ns' := ns) (k' := k + 1) (s' := (s * 48271 + c + 11) % 2147483647) (b' := b) h) rfl
        refine ⟨c % n, k + 1, (s * 48271 + c + 11) % 2147483647, b, ?_, m2.1, m2.2, m1.1, m1.2, hb⟩
        simp [F__law_taken, fs__law_taken, runD_ap, startE, eVar_ap, eC_ap, eBin_ap, eChain_ap, tV_ap, tNot_ap, tAnd_ap, tOr_ap, eAnd_ap, eOr_ap, eNot_ap, eIf_ap, aNil_ap, aCons_ap, eTup_ap, eLst_ap, eLstM_ap, eRep_ap, eCall_ap, eB_ap, eIsi_ap, eMl_ap, eMs_ap, oNone_ap, oSome_ap, eSl_ap, sNil_ap, sSeq_ap, sRet_ap, sExpr_ap, sIf_ap, sSet_ap, sAsg_ap, sPar_ap, sPut_ap, iSeq_ap, iRg1_ap, iRg2_ap, fYes_ap, iZ2_ap, iZ3_ap, sRaise_ap, eNeg_ap, ofR, R.bind, toB_b, gN, gT, gsCons, gsNil, wipeE, pPlus_i, pPlus_l, pPlus_t, pPlus_s, pSub_i, pMul_i, pDiv_i, pMod_i, pPow_i, pEq_d, pNe_d, pLt_i, pLe_i, pGt_i, pGe_i, pLt_s, pLe_s, pGt_s, pGe_s, pIs_n, pIs_t, pIs_l, pIs_s, pIs_i, pIs_bn, pIs_b, pIn_s, pIn_l, pIn_t, pIx_l, pIx_t, pIx_s, qLen_s, qLen_l, qLen_t, qInt_i, qInt_b, qTup_l, qTup_t, qList_l, qList_t, qSum, qJoin, qCount, qIndex, locOk, isTW, isT, unW, unWs, noX, seqW_l, seqW_t, sizeLine_eq, atI_nat, atI_nat1, at_0, at_1, at_2, at_3, ix41, ix42, ix43, g1, pIx_loc, rc, h1, h2, h3, hn, stSet] at e ⊢
        exact e
/-- the store: the script's row first, then these -/
def Rw (ns : List Int) (mt m : Sto) : Prop := ∃ k s b, m = rc ns k s b :: mt ∧ (0 ≤ s ∧ s < 2147483647) ∧ 0 ≤ b
theorem Rw.fl {ns : List Int} {mt m m' : Sto} (r : Rw ns mt m) (r' : Rw ns mt m') (h : Fl m) : Fl m' := by
  obtain ⟨k, s, b, rfl, _⟩ := r
  obtain ⟨k', s', b', rfl, _⟩ := r'
  exact Fl_rc h
theorem Rw.len {ns : List Int} {mt m m' : Sto} (r : Rw ns mt m) (r' : Rw ns mt m') : m'.length = m.length := by
  obtain ⟨k, s, b, rfl, _⟩ := r
  obtain ⟨k', s', b', rfl, _⟩ := r'
  rfl
theorem g_taken {ns : List Int} {mt m : Sto} (r : Rw ns mt m) (h : Fl m) (n : Int) (hn : 0 < n ∧ n < 1073741824) : ∃ (x : Nat) (m' : Sto), F__law_taken [.loc 0, .d (.int n)] m = .ok (.d (.int x)) m' ∧ Rw ns mt m' ∧ Fl m' ∧ (x : Int) < n := by
  obtain ⟨k, s, b, rfl, hs, hb⟩ := r
  obtain ⟨x, k', s', b', e, h0, h1, h2, h3, h4⟩ := q_taken h hs hb n hn
  refine ⟨x.toNat, rc ns k' s' b' :: mt, ?_, ⟨k', s', b', rfl, ⟨h2, h3⟩, h4⟩, Fl_rc h, by omega⟩
  rw [e, Int.toNat_of_nonneg h0]
theorem g_pick {ns : List Int} {mt m : Sto} (r : Rw ns mt m) (h : Fl m) (ds : List PyData) (w : PyData) (hw : w = .list ds ∨ w = .tuple ds) (h0 : 0 < ds.length) (h1 : ds.length < 1000) : ∃ (d : PyData) (m' : Sto), F__law_pick [.loc 0, .d w] m = .ok (.d d) m' ∧ Rw ns mt m' ∧ Fl m' ∧ d ∈ ds := by
  obtain ⟨x, m', e, r', h', hx⟩ := g_taken r h ds.length (by omega)
  have hx' : x < ds.length := by omega
  have g1 : ds[x]? = some ds[x] := List.getElem?_eq_getElem hx'
  refine ⟨ds[x], m', ?_, r', h', List.getElem_mem hx'⟩
  have e2 := dEnd_to (m := m) (m' := m') (x := ds[x]) h' (r.len r')
  rcases hw with rfl | rfl
  · simp [F__law_pick, fs__law_pick, runD_ap, startE, eVar_ap, eC_ap, eBin_ap, eChain_ap, tV_ap, tNot_ap, tAnd_ap, tOr_ap, eAnd_ap, eOr_ap, eNot_ap, eIf_ap, aNil_ap, aCons_ap, eTup_ap, eLst_ap, eLstM_ap, eRep_ap, eCall_ap, eB_ap, eIsi_ap, eMl_ap, eMs_ap, oNone_ap, oSome_ap, eSl_ap, sNil_ap, sSeq_ap, sRet_ap, sExpr_ap, sIf_ap, sSet_ap, sAsg_ap, sPar_ap, sPut_ap, iSeq_ap, iRg1_ap, iRg2_ap, fYes_ap, iZ2_ap, iZ3_ap, sRaise_ap, eNeg_ap, ofR, R.bind, toB_b, gN, gT, gsCons, gsNil, wipeE, pPlus_i, pPlus_l, pPlus_t, pPlus_s, pSub_i, pMul_i, pDiv_i, pMod_i, pPow_i, pEq_d, pNe_d, pLt_i, pLe_i, pGt_i, pGe_i, pLt_s, pLe_s, pGt_s, pGe_s, pIs_n, pIs_t, pIs_l, pIs_s, pIs_i, pIs_bn, pIs_b, pIn_s, pIn_l, pIn_t, pIx_l, pIx_t, pIx_s, qLen_s, qLen_l, qLen_t, qInt_i, qInt_b, qTup_l, qTup_t, qList_l, qList_t, qSum, qJoin, qCount, qIndex, locOk, isTW, isT, unW, unWs, noX, seqW_l, seqW_t, sizeLine_eq, atI_nat, atI_nat1, e, g1, e2]
  · simp [F__law_pick, fs__law_pick, runD_ap, startE, eVar_ap, eC_ap, eBin_ap, eChain_ap, tV_ap, tNot_ap, tAnd_ap, tOr_ap, eAnd_ap, eOr_ap, eNot_ap, eIf_ap, aNil_ap, aCons_ap, eTup_ap, eLst_ap, eLstM_ap, eRep_ap, eCall_ap, eB_ap, eIsi_ap, eMl_ap, eMs_ap, oNone_ap, oSome_ap, eSl_ap, sNil_ap, sSeq_ap, sRet_ap, sExpr_ap, sIf_ap, sSet_ap, sAsg_ap, sPar_ap, sPut_ap, iSeq_ap, iRg1_ap, iRg2_ap, fYes_ap, iZ2_ap, iZ3_ap, sRaise_ap, eNeg_ap, ofR, R.bind, toB_b, gN, gT, gsCons, gsNil, wipeE, pPlus_i, pPlus_l, pPlus_t, pPlus_s, pSub_i, pMul_i, pDiv_i, pMod_i, pPow_i, pEq_d, pNe_d, pLt_i, pLe_i, pGt_i, pGe_i, pLt_s, pLe_s, pGt_s, pGe_s, pIs_n, pIs_t, pIs_l, pIs_s, pIs_i, pIs_bn, pIs_b, pIn_s, pIn_l, pIn_t, pIx_l, pIx_t, pIx_s, qLen_s, qLen_l, qLen_t, qInt_i, qInt_b, qTup_l, qTup_t, qList_l, qList_t, qSum, qJoin, qCount, qIndex, locOk, isTW, isT, unW, unWs, noX, seqW_l, seqW_t, sizeLine_eq, atI_nat, atI_nat1, e, g1, e2]
/-- two signs of M, ascending or alike -/
def TwoOf (M : Str) (t : Str) : Prop := ∃ a b, t = ⟨#[a, b]⟩ ∧ a ∈ M.cps.toList ∧ b ∈ M.cps.toList ∧ a ≤ b
theorem sLt_ch (a b : Nat) : sLt ⟨#[a]⟩ ⟨#[b]⟩ = decide (a < b) := by
  unfold sLt
  by_cases h : a < b <;> simp [List.cons_lt_cons_iff, h]
theorem sort_two (a b : Nat) : sortS [⟨#[a]⟩, ⟨#[b]⟩] = if a ≤ b then [⟨#[a]⟩, ⟨#[b]⟩] else [⟨#[b]⟩, ⟨#[a]⟩] := by
  unfold sortS
  by_cases h : a ≤ b
  · have h' : ¬ b < a := by omega
    simp [List.mergeSort, List.MergeSort.Internal.splitInTwo, List.merge, sLt_ch, h, h']
  · have h' : b < a := by omega
    simp [List.mergeSort, List.MergeSort.Internal.splitInTwo, List.merge, sLt_ch, h, h']
theorem join_two (a b : Nat) : Txt.join "" [⟨#[a]⟩, ⟨#[b]⟩] = ⟨#[a, b]⟩ := rfl
theorem g_two {ns : List Int} {mt m : Sto} (r : Rw ns mt m) (h : Fl m) (M : Str) (h0 : 0 < M.length) (h1 : M.length < 1000) : ∃ (t : Str) (m' : Sto), F__law_two [.loc 0, .d (.str M)] m = .ok (.d (.str t)) m' ∧ Rw ns mt m' ∧ Fl m' ∧ TwoOf M t := by
  have hl : (signs M).length = M.length := by simp [signs]; rfl
  have hq : ∀ m, qList [.d (.str M)] m = .ok (.d (.list (signs M))) m := fun m => qList_s M m (by rw [sizeLine_eq]; exact Nat.le_of_lt (Nat.lt_trans h1 (by decide)))
  obtain ⟨d1, m1, e1, r1, f1, i1⟩ := g_pick r h (signs M) (.list (signs M)) (.inl rfl) (by omega) (by omega)
  obtain ⟨d2, m2, e2, r2, f2, i2⟩ := g_pick r1 f1 (signs M) (.list (signs M)) (.inl rfl) (by omega) (by omega)
  obtain ⟨a, ha, rfl⟩ : ∃ c, c ∈ M.cps.toList ∧ PyData.str ⟨#[c]⟩ = d1 := by simpa [signs] using i1
  obtain ⟨b, hb, rfl⟩ : ∃ c, c ∈ M.cps.toList ∧ PyData.str ⟨#[c]⟩ = d2 := by simpa [signs] using i2
  have l2 := (r.len r1 ▸ r1.len r2 : m2.length = m.length)
  have c1 : (⟨#[a]⟩ : Str).length + (⟨#[b]⟩ : Str).length + 2 * (Str.ofString "").length ≤ 16777216 := by show 1 + 1 + 2 * 0 ≤ 16777216; decide
  have c2 : (⟨#[b]⟩ : Str).length + (⟨#[a]⟩ : Str).length + 2 * (Str.ofString "").length ≤ 16777216 := c1
  by_cases hab : a ≤ b
  · refine ⟨⟨#[a, b]⟩, m2, ?_, r2, f2, a, b, rfl, ha, hb, hab⟩
    have e3 := dEnd_to (m := m) (m' := m2) (x := .str ⟨#[a, b]⟩) f2 l2
    have s2 := sort_two a b
    rw [if_pos hab] at s2
    have j2 := join_two a b
    simp [F__law_two, fs__law_two, runD_ap, startE, eVar_ap, eC_ap, eBin_ap, eChain_ap, tV_ap, tNot_ap, tAnd_ap, tOr_ap, eAnd_ap, eOr_ap, eNot_ap, eIf_ap, aNil_ap, aCons_ap, eTup_ap, eLst_ap, eLstM_ap, eRep_ap, eCall_ap, eB_ap, eIsi_ap, eMl_ap, eMs_ap, oNone_ap, oSome_ap, eSl_ap, sNil_ap, sSeq_ap, sRet_ap, sExpr_ap, sIf_ap, sSet_ap, sAsg_ap, sPar_ap, sPut_ap, iSeq_ap, iRg1_ap, iRg2_ap, fYes_ap, iZ2_ap, iZ3_ap, sRaise_ap, eNeg_ap, ofR, R.bind, toB_b, gN, gT, gsCons, gsNil, wipeE, pPlus_i, pPlus_l, pPlus_t, pPlus_s, pSub_i, pMul_i, pDiv_i, pMod_i, pPow_i, pEq_d, pNe_d, pLt_i, pLe_i, pGt_i, pGe_i, pLt_s, pLe_s, pGt_s, pGe_s, pIs_n, pIs_t, pIs_l, pIs_s, pIs_i, pIs_bn, pIs_b, pIn_s, pIn_l, pIn_t, pIx_l, pIx_t, pIx_s, qLen_s, qLen_l, qLen_t, qInt_i, qInt_b, qTup_l, qTup_t, qList_l, qList_t, qSum, qJoin, qCount, qIndex, locOk, isTW, isT, unW, unWs, noX, seqW_l, seqW_t, sizeLine_eq, L2.atI, L2.ixN, hq, e1, e2, qSortS, unSs, unS, s2, c1, j2, e3]
  · have hba : b ≤ a := by omega
    refine ⟨⟨#[b, a]⟩, m2, ?_, r2, f2, b, a, rfl, hb, ha, hba⟩
    have e3 := dEnd_to (m := m) (m' := m2) (x := .str ⟨#[b, a]⟩) f2 l2
    have s2 := sort_two a b
    rw [if_neg hab] at s2
    have j2 := join_two b a
    simp [F__law_two, fs__law_two, runD_ap, startE, eVar_ap, eC_ap, eBin_ap, eChain_ap, tV_ap, tNot_ap, tAnd_ap, tOr_ap, eAnd_ap, eOr_ap, eNot_ap, eIf_ap, aNil_ap, aCons_ap, eTup_ap, eLst_ap, eLstM_ap, eRep_ap, eCall_ap, eB_ap, eIsi_ap, eMl_ap, eMs_ap, oNone_ap, oSome_ap, eSl_ap, sNil_ap, sSeq_ap, sRet_ap, sExpr_ap, sIf_ap, sSet_ap, sAsg_ap, sPar_ap, sPut_ap, iSeq_ap, iRg1_ap, iRg2_ap, fYes_ap, iZ2_ap, iZ3_ap, sRaise_ap, eNeg_ap, ofR, R.bind, toB_b, gN, gT, gsCons, gsNil, wipeE, pPlus_i, pPlus_l, pPlus_t, pPlus_s, pSub_i, pMul_i, pDiv_i, pMod_i, pPow_i, pEq_d, pNe_d, pLt_i, pLe_i, pGt_i, pGe_i, pLt_s, pLe_s, pGt_s, pGe_s, pIs_n, pIs_t, pIs_l, pIs_s, pIs_i, pIs_bn, pIs_b, pIn_s, pIn_l, pIn_t, pIx_l, pIx_t, pIx_s, qLen_s, qLen_l, qLen_t, qInt_i, qInt_b, qTup_l, qTup_t, qList_l, qList_t, qSum, qJoin, qCount, qIndex, locOk, isTW, isT, unW, unWs, noX, seqW_l, seqW_t, sizeLine_eq, L2.atI, L2.ixN, hq, e1, e2, qSortS, unSs, unS, s2, c2, j2, e3]
def MOODS : List Str := ["a", "ab", "ab", "abc", "abc", "bxz", "abcd", "abcd", "abcde", "cdefgh"]
theorem g_moods {ns : List Int} {mt m : Sto} (r : Rw ns mt m) (h : Fl m) : ∃ (M : Str) (m' : Sto), F__law_moods [.loc 0] m = .ok (.d (.str M)) m' ∧ Rw ns mt m' ∧ Fl m' ∧ M ∈ MOODS := by
  obtain ⟨d, m1, e1, r1, f1, i1⟩ := g_pick r h (MOODS.map .str) (.list (MOODS.map .str)) (.inl rfl) (by decide) (by decide)
  obtain ⟨M, hM, rfl⟩ := List.mem_map.mp i1
  refine ⟨M, m1, ?_, r1, f1, hM⟩
  have e3 := dEnd_to (m := m) (m' := m1) (x := .str M) f1 (r.len r1)
  simp only [MOODS, List.map_cons, List.map_nil] at e1
  simp [F__law_moods, fs__law_moods, runD_ap, startE, eVar_ap, eC_ap, eBin_ap, eChain_ap, tV_ap, tNot_ap, tAnd_ap, tOr_ap, eAnd_ap, eOr_ap, eNot_ap, eIf_ap, aNil_ap, aCons_ap, eTup_ap, eLst_ap, eLstM_ap, eRep_ap, eCall_ap, eB_ap, eIsi_ap, eMl_ap, eMs_ap, oNone_ap, oSome_ap, eSl_ap, sNil_ap, sSeq_ap, sRet_ap, sExpr_ap, sIf_ap, sSet_ap, sAsg_ap, sPar_ap, sPut_ap, iSeq_ap, iRg1_ap, iRg2_ap, fYes_ap, iZ2_ap, iZ3_ap, sRaise_ap, eNeg_ap, ofR, R.bind, toB_b, gN, gT, gsCons, gsNil, wipeE, pPlus_i, pPlus_l, pPlus_t, pPlus_s, pSub_i, pMul_i, pDiv_i, pMod_i, pPow_i, pEq_d, pNe_d, pLt_i, pLe_i, pGt_i, pGe_i, pLt_s, pLe_s, pGt_s, pGe_s, pIs_n, pIs_t, pIs_l, pIs_s, pIs_i, pIs_bn, pIs_b, pIn_s, pIn_l, pIn_t, pIx_l, pIx_t, pIx_s, qLen_s, qLen_l, qLen_t, qInt_i, qInt_b, qTup_l, qTup_t, qList_l, qList_t, qSum, qJoin, qCount, qIndex, locOk, isTW, isT, unW, unWs, noX, seqW_l, seqW_t, sizeLine_eq, L2.atI, L2.ixN, e1, e3]
/-- the place of a mood -/
theorem mood_at : ∀ M ∈ MOODS, ∀ c ∈ M.cps.toList, ∃ i rest, Builtin.Str.occurrences M ⟨#[c]⟩ 0 M.length 1 = i :: rest ∧ i < M.length := by
  have key : (MOODS.all fun M => M.cps.toList.all fun c => match Builtin.Str.occurrences M ⟨#[c]⟩ 0 M.length 1 with | i :: _ => decide (i < M.length) | [] => false) = true := by decide +kernel
  intro M hM c hc
  have h1 := List.all_eq_true.mp (List.all_eq_true.mp key M hM) c hc
  cases e : Builtin.Str.occurrences M ⟨#[c]⟩ 0 M.length 1 with
  | nil => rw [e] at h1; cases h1
  | cons i rest => rw [e] at h1; exact ⟨i, rest, rfl, of_decide_eq_true h1⟩
theorem g_weight {m : Sto} (h : Fl m) {M : Str} (hM : M ∈ MOODS) (ws : List Int) (hw : ws.length = M.length) {t : Str} (ht : TwoOf M t) : ∃ i : Int, F__law_weight [.d (.str M), .d (.list (ws.map .int)), .d (.str t)] m = .ok (.d (.int i)) m := by
  obtain ⟨a, b, rfl, ha, hb, _⟩ := ht
  have key : ∀ c ∈ M.cps.toList, ∃ i : Int, ∀ e2, (eBin pIx (eVar 1) (eMs qIndex (eVar 0) (eVar 3))) [some (.d (.str M)), some (.d (.list (ws.map .int))), e2, some (.d (.str ⟨#[c]⟩))] m = .ok (.d (.int i)) m := fun c hc => by
    obtain ⟨i, rest, e, hi⟩ := mood_at M hM c hc
    have hi' : i < ws.length := by omega
    have g1 : ws[i]? = some ws[i] := List.getElem?_eq_getElem hi'
    exact ⟨ws[i], fun e2 => by simp [runD_ap, startE, eVar_ap, eC_ap, eBin_ap, eChain_ap, tV_ap, tNot_ap, tAnd_ap, tOr_ap, eAnd_ap, eOr_ap, eNot_ap, eIf_ap, aNil_ap, aCons_ap, eTup_ap, eLst_ap, eLstM_ap, eRep_ap, eCall_ap, eB_ap, eIsi_ap, eMl_ap, eMs_ap, oNone_ap, oSome_ap, eSl_ap, sNil_ap, sSeq_ap, sRet_ap, sExpr_ap, sIf_ap, sSet_ap, sAsg_ap, sPar_ap, sPut_ap, iSeq_ap, iRg1_ap, iRg2_ap, fYes_ap, iZ2_ap, iZ3_ap, sRaise_ap, eNeg_ap, ofR, R.bind, toB_b, gN, gT, gsCons, gsNil, wipeE, pPlus_i, pPlus_l, pPlus_t, pPlus_s, pSub_i, pMul_i, pDiv_i, pMod_i, pPow_i, pEq_d, pNe_d, pLt_i, pLe_i, pGt_i, pGe_i, pLt_s, pLe_s, pGt_s, pGe_s, pIs_n, pIs_t, pIs_l, pIs_s, pIs_i, pIs_bn, pIs_b, pIn_s, pIn_l, pIn_t, pIx_l, pIx_t, pIx_s, qLen_s, qLen_l, qLen_t, qInt_i, qInt_b, qTup_l, qTup_t, qList_l, qList_t, qSum, qJoin, qCount, qIndex, locOk, isTW, isT, unW, unWs, noX, seqW_l, seqW_t, sizeLine_eq, atI_nat, atI_nat1, e, g1]⟩
  obtain ⟨ia, ka⟩ := key a ha
  obtain ⟨ib, kb⟩ := key b hb
  have q1 : ∀ e3, eLc [3] (iSeq (eVar 2)) (gN 3) fYes (eBin pIx (eVar 1) (eMs qIndex (eVar 0) (eVar 3))) [some (.d (.str M)), some (.d (.list (ws.map .int))), some (.d (.str ⟨#[a, b]⟩)), e3] m = .ok (.d (.list [.int ia, .int (if b = a then ia else ib)])) m := fun e3 => by
    rw [eLc_map (g0 := fun c => W.d (.str ⟨#[c]⟩)) (l := [a, b]) (m1 := m) (c := fun _ => true) (g := fun c => .int (if c = a then ia else ib)) (by simp [runD_ap, startE, eVar_ap, eC_ap, eBin_ap, eChain_ap, tV_ap, tNot_ap, tAnd_ap, tOr_ap, eAnd_ap, eOr_ap, eNot_ap, eIf_ap, aNil_ap, aCons_ap, eTup_ap, eLst_ap, eLstM_ap, eRep_ap, eCall_ap, eB_ap, eIsi_ap, eMl_ap, eMs_ap, oNone_ap, oSome_ap, eSl_ap, sNil_ap, sSeq_ap, sRet_ap, sExpr_ap, sIf_ap, sSet_ap, sAsg_ap, sPar_ap, sPut_ap, iSeq_ap, iRg1_ap, iRg2_ap, fYes_ap, iZ2_ap, iZ3_ap, sRaise_ap, eNeg_ap, ofR, R.bind, toB_b, gN, gT, gsCons, gsNil, wipeE, pPlus_i, pPlus_l, pPlus_t, pPlus_s, pSub_i, pMul_i, pDiv_i, pMod_i, pPow_i, pEq_d, pNe_d, pLt_i, pLe_i, pGt_i, pGe_i, pLt_s, pLe_s, pGt_s, pGe_s, pIs_n, pIs_t, pIs_l, pIs_s, pIs_i, pIs_bn, pIs_b, pIn_s, pIn_l, pIn_t, pIx_l, pIx_t, pIx_s, qLen_s, qLen_l, qLen_t, qInt_i, qInt_b, qTup_l, qTup_t, qList_l, qList_t, qSum, qJoin, qCount, qIndex, locOk, isTW, isT, unW, unWs, noX, seqW_l, seqW_t, sizeLine_eq, L2.atI, L2.ixN, signs_items]) (fun c hc => ⟨_, rfl, rfl, fun _ => ?_⟩) (by rw [sizeLine_eq]; show 2 ≤ 16777216; decide)]
    · simp
    · by_cases hca : c = a
      · subst hca
        rw [if_pos rfl]
        exact ka _
      · have hcb : c = b := by
          rcases List.mem_cons.mp hc with z | z
          · exact absurd z hca
          · simpa using z
        subst hcb
        rw [if_neg hca]
        exact kb _
  generalize (if b = a then ia else ib) = ib' at q1
  refine ⟨ia + ib', ?_⟩
  simp [F__law_weight, fs__law_weight, runD_ap, startE, eVar_ap, eC_ap, eBin_ap, eChain_ap, tV_ap, tNot_ap, tAnd_ap, tOr_ap, eAnd_ap, eOr_ap, eNot_ap, eIf_ap, aNil_ap, aCons_ap, eTup_ap, eLst_ap, eLstM_ap, eRep_ap, eCall_ap, eB_ap, eIsi_ap, eMl_ap, eMs_ap, oNone_ap, oSome_ap, eSl_ap, sNil_ap, sSeq_ap, sRet_ap, sExpr_ap, sIf_ap, sSet_ap, sAsg_ap, sPar_ap, sPut_ap, iSeq_ap, iRg1_ap, iRg2_ap, fYes_ap, iZ2_ap, iZ3_ap, sRaise_ap, eNeg_ap, ofR, R.bind, toB_b, gN, gT, gsCons, gsNil, wipeE, pPlus_i, pPlus_l, pPlus_t, pPlus_s, pSub_i, pMul_i, pDiv_i, pMod_i, pPow_i, pEq_d, pNe_d, pLt_i, pLe_i, pGt_i, pGe_i, pLt_s, pLe_s, pGt_s, pGe_s, pIs_n, pIs_t, pIs_l, pIs_s, pIs_i, pIs_bn, pIs_b, pIn_s, pIn_l, pIn_t, pIx_l, pIx_t, pIx_s, qLen_s, qLen_l, qLen_t, qInt_i, qInt_b, qTup_l, qTup_t, qList_l, qList_t, qSum, qJoin, qCount, qIndex, locOk, isTW, isT, unW, unWs, noX, seqW_l, seqW_t, sizeLine_eq, L2.atI, L2.ixN, q1, unIs, unI, dEnd_rt h]
end K00

set_option Elab.async false
set_option linter.all false
set_option maxRecDepth 100000
set_option maxHeartbeats 1000000
namespace K00
open PySem Pd
section
variable {tg : FG} {tt : FT} {f : FE} {e : Pd.Env}
theorem loopC_inv {Inv : Sto → Prop} {P : PyData → Prop} : ∀ {ws : List W} {acc : List PyData} {m : Sto}, (∀ w ∈ ws, ∀ m, Inv m → ∃ e1 d m', tg w e = some e1 ∧ tt e1 m = .ok true m ∧ f e1 m = .ok (.d d) m' ∧ Inv m' ∧ P d) → acc.length + ws.length ≤ sizeLine → Inv m →
    ∃ ds m', loopC tg tt f e ws acc m = .ok (acc ++ ds) m' ∧ ds.length = ws.length ∧ (∀ d ∈ ds, P d) ∧ Inv m'
  | [], acc, m, _, _, i => ⟨[], m, by unfold loopC; simp, rfl, fun d h => (by cases h), i⟩
  | w :: ws, acc, m, h, hl, i => by
    obtain ⟨e1, d, m1, h1, h2, h3, i1, p1⟩ := h w List.mem_cons_self m i
    have hl' : acc.length + (ws.length + 1) ≤ sizeLine := hl
    obtain ⟨ds, m', e', l', p', i'⟩ := loopC_inv (acc := acc ++ [d]) (fun w hw => h w (List.mem_cons_of_mem _ hw)) (by simp only [List.length_append, List.length_cons, List.length_nil]; omega) i1
    refine ⟨d :: ds, m', ?_, by simp [l'], fun x hx => ?_, i'⟩
    · unfold loopC
      rw [h1]
      simp only [h2, noX, R.bind, if_true, h3, unW]
      rw [if_pos (by omega), e', List.append_assoc]
      rfl
    · rcases List.mem_cons.mp hx with rfl | hx
      · exact p1
      · exact p' x hx
theorem loopF_inv {body : FS} {N : Nat} {Inv : Nat → Pd.Env → Sto → Prop} : ∀ {ws : List W} {k : Nat} {e : Pd.Env} {m : Sto}, k + ws.length = N → (∀ w ∈ ws, ∀ k e m, k < N → Inv k e m → ∃ e1, tg w e = some e1 ∧ ∃ e2 m2, body e1 m = .nx e2 m2 ∧ Inv (k + 1) e2 m2) → Inv k e m → ∃ e' m', loopF tg body ws e m = .nx e' m' ∧ Inv N e' m'
  | [], k, e, m, hN, _, i => ⟨e, m, rfl, by have : k = N := hN; rw [← this]; exact i⟩
  | w :: ws, k, e, m, hN, h, i => by
    have hN' : k + (ws.length + 1) = N := hN
    obtain ⟨e1, h1, e2, m2, h2, i2⟩ := h w List.mem_cons_self k e m (by omega) i
    obtain ⟨e', m', h3, i3⟩ := loopF_inv (by omega) (fun w hw => h w (List.mem_cons_of_mem _ hw)) i2
    refine ⟨e', m', ?_, i3⟩
    unfold loopF
    rw [h1]
    simp only [h2]
    exact h3
end
/-! ### the moods' texts -/
theorem moods_sg : ∀ M ∈ MOODS, (∀ c ∈ M.cps.toList, c < 1114112) ∧ 0 < M.length ∧ M.length ≤ 6 := by
  have key : (MOODS.all fun M => (M.cps.toList.all fun c => decide (c < 1114112)) && decide (0 < M.length) && decide (M.length ≤ 6)) = true := by decide +kernel
  intro M hM
  have h1 := List.all_eq_true.mp key M hM
  simp only [Bool.and_eq_true, List.all_eq_true, decide_eq_true_eq] at h1
  exact ⟨h1.1.1, h1.1.2, h1.2⟩
theorem sh_str {t : Str} (h : ∀ c ∈ t.cps.toList, c < 1114112) : SeqAt.shaped (.str t) = true := by
  have h1 : (t.cps.all fun c => decide (c < 1114112)) = true := by
    rw [← Array.all_toList]
    exact List.all_eq_true.mpr fun c hc => decide_eq_true (h c hc)
  show ((t.cps.all fun c => decide (c < 1114112)) && _) = true
  rw [h1]
  rfl
theorem two_sg {M t : Str} (hM : M ∈ MOODS) (h : TwoOf M t) : (∀ c ∈ t.cps.toList, c < 1114112) ∧ t.length = 2 := by
  obtain ⟨a, b, rfl, ha, hb, _⟩ := h
  refine ⟨fun c hc => ?_, rfl⟩
  have hc' : c = a ∨ c = b := by simpa using hc
  rcases hc' with rfl | rfl
  · exact (moods_sg M hM).1 _ ha
  · exact (moods_sg M hM).1 _ hb
theorem two_sh {M t : Str} (hM : M ∈ MOODS) (h : TwoOf M t) : SeqAt.shaped (.str t) = true := sh_str (two_sg hM h).1
/-- rules as the law draws them -/
structure GR (M : Str) (rs : List (Str × Str)) : Prop where
  two : ∀ p ∈ rs, TwoOf M p.1 ∧ TwoOf M p.2 ∧ p.1 ≠ p.2
  nd : rs.Nodup
theorem lay_str {t : Str} (h : SeqAt.shaped (.str t) = true) : (PyData.str t).canLay0 = true := SeqAt.canLay_of_shaped h
theorem rl_sh {p : Str × Str} (h1 : SeqAt.shaped (.str p.1) = true) (h2 : SeqAt.shaped (.str p.2) = true) : SeqAt.shaped (rl p) = true ∧ (rl p).canLay0 = true ∧ (rl p).depth = 1 := by
  have l1 := lay_str h1
  have l2 := lay_str h2
  have l3 : (rl p).canLay0 = true := by
    unfold rl PyData.canLay0 PyData.canLayAll0
    rw [l1]
    unfold PyData.canLayAll0
    rw [l2]
    rfl
  have d3 : (rl p).depth = 1 := rfl
  refine ⟨?_, l3, d3⟩
  unfold SeqAt.shaped
  rw [l3, d3]
  rfl
theorem rls_sh {rs : List (Str × Str)} (h : ∀ p ∈ rs, SeqAt.shaped (.str p.1) = true ∧ SeqAt.shaped (.str p.2) = true) : SeqAt.shaped (.list (rs.map rl)) = true := by
  have l : PyData.canLayAll0 (rs.map rl) = true := by
    induction rs with
    | nil => rfl
    | cons p rs ih =>
      rw [List.map_cons]
      unfold PyData.canLayAll0
      rw [(rl_sh (h p List.mem_cons_self).1 (h p List.mem_cons_self).2).2.1, ih fun q hq => h q (List.mem_cons_of_mem _ hq)]
      rfl
  have d : PyData.depthAll (rs.map rl) ≤ 1 := by
    induction rs with
    | nil => exact Nat.zero_le _
    | cons p rs ih =>
      have l' : PyData.canLayAll0 (rs.map rl) = true := by
        rw [List.map_cons] at l
        unfold PyData.canLayAll0 at l
        rw [Bool.and_eq_true] at l
        exact l.2
      rw [List.map_cons]
      unfold PyData.depthAll
      rw [(rl_sh (h p List.mem_cons_self).1 (h p List.mem_cons_self).2).2.2]
      exact Nat.max_le.mpr ⟨Nat.le_refl _, ih (fun q hq => h q (List.mem_cons_of_mem _ hq)) l'⟩
  have l3 : (PyData.list (rs.map rl)).canLay0 = true := l
  have d3 : (PyData.list (rs.map rl)).depth ≤ 64 := by
    unfold PyData.depth
    omega
  unfold SeqAt.shaped
  rw [l3, decide_eq_true d3]
  rfl
theorem GR.shs {M : Str} {rs : List (Str × Str)} (hM : M ∈ MOODS) (g : GR M rs) : ∀ p ∈ rs, SeqAt.shaped (.str p.1) = true ∧ SeqAt.shaped (.str p.2) = true := fun p hp => ⟨two_sh hM (g.two p hp).1, two_sh hM (g.two p hp).2.1⟩
theorem un_rl (rs : List (Str × Str)) : unWs (rs.map fun p => W.d (rl p)) = some (rs.map rl) := by
  induction rs with
  | nil => rfl
  | cons p rs ih =>
    rw [List.map_cons]
    unfold unWs
    rw [ih]
    rfl
end K00

set_option Elab.async false
set_option linter.all false
set_option maxRecDepth 100000
set_option maxHeartbeats 2000000
namespace K00
open PySem Pd
/-- the store with the rules found so far -/
def lR (rs : List (Str × Str)) : Cell := .lst (rs.map fun p => W.d (rl p))
theorem Rw.get {ns : List Int} {c : Cell} {m : Sto} (r : Rw ns [c] m) : m[1]? = some c := by
  obtain ⟨k, s, b, rfl, _⟩ := r
  rfl
theorem Rw.set {ns : List Int} {c d : Cell} {m : Sto} (r : Rw ns [c] m) : Rw ns [d] (m.set 1 d) := by
  obtain ⟨k, s, b, rfl, h⟩ := r
  exact ⟨k, s, b, rfl, h⟩
theorem Rw.new {ns : List Int} {d : Cell} {m : Sto} (r : Rw ns [] m) : Rw ns [d] (m ++ [d]) ∧ m.length = 1 := by
  obtain ⟨k, s, b, rfl, h⟩ := r
  exact ⟨⟨k, s, b, rfl, h⟩, rfl⟩
theorem low_lR (rs : List (Str × Str)) (n : Nat) : Cell.low n (lR rs) = true := by
  show (rs.map fun p => W.d (rl p)).all (W.low n) = true
  rw [List.all_map]
  exact List.all_eq_true.mpr fun _ _ => rfl
theorem Rw.flR {ns : List Int} {rs : List (Str × Str)} {m : Sto} (r : Rw ns [lR rs] m) : Fl m := by
  obtain ⟨k, s, b, rfl, h⟩ := r
  unfold Fl
  rw [List.all_cons, List.all_cons, low_lR]
  rfl
theorem Rw.fl0 {ns : List Int} {m : Sto} (r : Rw ns [] m) : Fl m := by
  obtain ⟨k, s, b, rfl, h⟩ := r
  rfl
abbrev bodyF : FS := (sSeq (sPar 8 9 (aCons (eCall 2 F__law_two (aCons (eVar 0) (aCons (eVar 3) aNil))) (aCons (eCall 2 F__law_two (aCons (eVar 0) (aCons (eVar 3) aNil))) aNil))) (sSeq (sIf (Pd.tAnd (tV (eBin pGt (eVar 6) (eC (.int 0)))) (tV (eBin pLt (eCall 3 F__law_weight (aCons (eVar 3) (aCons (eVar 5) (aCons (eVar 8) aNil)))) (eCall 3 F__law_weight (aCons (eVar 3) (aCons (eVar 5) (aCons (eVar 9) aNil))))))) (sPar 8 9 (aCons (eVar 9) (aCons (eVar 8) aNil))) sNil) (sSeq (sSet 7 (eOr (eBin pEq (eVar 6) (eC (.int 0))) (eBin pGt (eCall 3 F__law_weight (aCons (eVar 3) (aCons (eVar 5) (aCons (eVar 8) aNil)))) (eCall 3 F__law_weight (aCons (eVar 3) (aCons (eVar 5) (aCons (eVar 9) aNil))))))) (sIf (Pd.tAnd (tV (eBin pNe (eVar 8) (eVar 9))) (Pd.tAnd (tV (eBin (pIn false) (eTup (aCons (eVar 8) (aCons (eVar 9) aNil))) (eVar 4))) (tV (eVar 7)))) (sExpr (eMl qApp (eVar 4) (aCons (eTup (aCons (eVar 8) (aCons (eVar 9) aNil))) aNil))) sNil))))
def InvF (ns : List Int) (M : Str) (ws : List Int) (way : Int) (w1 : W) (k : Nat) (e : Pd.Env) (m : Sto) : Prop :=
  (∃ w2 w7 w8 w9 w10, e = [some (.loc 0), some w1, w2, some (.d (.str M)), some (.loc 1), some (.d (.list (ws.map .int))), some (.d (.int way)), w7, w8, w9, w10]) ∧ ∃ rs, Rw ns [lR rs] m ∧ GR M rs ∧ rs.length ≤ k
/-- the end of a turn: two unlike texts are looked at -/
theorem f_tail {ns : List Int} {M : Str} (hM : M ∈ MOODS) {ws : List Int} (hw : ws.length = M.length) {way : Int} {w1 : W} {w2 w10 : Option W} {w7 : Option W} {rs : List (Str × Str)} {m : Sto} (r : Rw ns [lR rs] m) (g : GR M rs) {k : Nat} (hk : rs.length ≤ k) (hk8 : k < 1000) {t u : Str} (ht : TwoOf M t) (hu : TwoOf M u) :
    ∃ e2 m2, (sSeq (sSet 7 (eOr (eBin pEq (eVar 6) (eC (.int 0))) (eBin pGt (eCall 3 F__law_weight (aCons (eVar 3) (aCons (eVar 5) (aCons (eVar 8) aNil)))) (eCall 3 F__law_weight (aCons (eVar 3) (aCons (eVar 5) (aCons (eVar 9) aNil))))))) (sIf (Pd.tAnd (tV (eBin pNe (eVar 8) (eVar 9))) (Pd.tAnd (tV (eBin (pIn false) (eTup (aCons (eVar 8) (aCons (eVar 9) aNil))) (eVar 4))) (tV (eVar 7)))) (sExpr (eMl qApp (eVar 4) (aCons (eTup (aCons (eVar 8) (aCons (eVar 9) aNil))) aNil))) sNil))
      [some (.loc 0), some w1, w2, some (.d (.str M)), some (.loc 1), some (.d (.list (ws.map .int))), some (.d (.int way)), w7, some (.d (.str t)), some (.d (.str u)), w10] m = .nx e2 m2 ∧ InvF ns M ws way w1 (k + 1) e2 m2 := by
  have h := r.flR
  have hg := r.get
  obtain ⟨i, ei⟩ := g_weight h hM ws hw ht
  obtain ⟨j, ej⟩ := g_weight h hM ws hw hu
  have st := two_sh hM ht
  have su := two_sh hM hu
  -- is_loss
  have q1 : ∃ b, (eOr (eBin pEq (eVar 6) (eC (.int 0))) (eBin pGt (eCall 3 F__law_weight (aCons (eVar 3) (aCons (eVar 5) (aCons (eVar 8) aNil)))) (eCall 3 F__law_weight (aCons (eVar 3) (aCons (eVar 5) (aCons (eVar 9) aNil)))))) [some (.loc 0), some w1, w2, some (.d (.str M)), some (.loc 1), some (.d (.list (ws.map .int))), some (.d (.int way)), w7, some (.d (.str t)), some (.d (.str u)), w10] m = .ok (.d (.bool b)) m := by
    by_cases h0 : way = 0
    · exact ⟨true, by simp [runD_ap, startE, eVar_ap, eC_ap, eBin_ap, eChain_ap, tV_ap, tNot_ap, tAnd_ap, tOr_ap, eAnd_ap, eOr_ap, eNot_ap, eIf_ap, aNil_ap, aCons_ap, eTup_ap, eLst_ap, eLstM_ap, eRep_ap, eCall_ap, eB_ap, eIsi_ap, eMl_ap, eMs_ap, oNone_ap, oSome_ap, eSl_ap, sNil_ap, sSeq_ap, sRet_ap, sExpr_ap, sIf_ap, sSet_ap, sAsg_ap, sPar_ap, sPut_ap, iSeq_ap, iRg1_ap, iRg2_ap, fYes_ap, iZ2_ap, iZ3_ap, sRaise_ap, eNeg_ap, ofR, R.bind, toB_b, gN, gT, gsCons, gsNil, wipeE, pPlus_i, pPlus_l, pPlus_t, pPlus_s, pSub_i, pMul_i, pDiv_i, pMod_i, pPow_i, pEq_d, pNe_d, pLt_i, pLe_i, pGt_i, pGe_i, pLt_s, pLe_s, pGt_s, pGe_s, pIs_n, pIs_t, pIs_l, pIs_s, pIs_i, pIs_bn, pIs_b, pIn_s, pIn_l, pIn_t, pIx_l, pIx_t, pIx_s, qLen_s, qLen_l, qLen_t, qInt_i, qInt_b, qTup_l, qTup_t, qList_l, qList_t, qSum, qJoin, qCount, qIndex, locOk, isTW, isT, unW, unWs, noX, seqW_l, seqW_t, sizeLine_eq, L2.atI, L2.ixN, sh_int, ev_int, h0]⟩
    · exact ⟨decide (j < i), by simp [runD_ap, startE, eVar_ap, eC_ap, eBin_ap, eChain_ap, tV_ap, tNot_ap, tAnd_ap, tOr_ap, eAnd_ap, eOr_ap, eNot_ap, eIf_ap, aNil_ap, aCons_ap, eTup_ap, eLst_ap, eLstM_ap, eRep_ap, eCall_ap, eB_ap, eIsi_ap, eMl_ap, eMs_ap, oNone_ap, oSome_ap, eSl_ap, sNil_ap, sSeq_ap, sRet_ap, sExpr_ap, sIf_ap, sSet_ap, sAsg_ap, sPar_ap, sPut_ap, iSeq_ap, iRg1_ap, iRg2_ap, fYes_ap, iZ2_ap, iZ3_ap, sRaise_ap, eNeg_ap, ofR, R.bind, toB_b, gN, gT, gsCons, gsNil, wipeE, pPlus_i, pPlus_l, pPlus_t, pPlus_s, pSub_i, pMul_i, pDiv_i, pMod_i, pPow_i, pEq_d, pNe_d, pLt_i, pLe_i, pGt_i, pGe_i, pLt_s, pLe_s, pGt_s, pGe_s, pIs_n, pIs_t, pIs_l, pIs_s, pIs_i, pIs_bn, pIs_b, pIn_s, pIn_l, pIn_t, pIx_l, pIx_t, pIx_s, qLen_s, qLen_l, qLen_t, qInt_i, qInt_b, qTup_l, qTup_t, qList_l, qList_t, qSum, qJoin, qCount, qIndex, locOk, isTW, isT, unW, unWs, noX, seqW_l, seqW_t, sizeLine_eq, L2.atI, L2.ixN, sh_int, ev_int, h0, ei, ej]⟩
  obtain ⟨b, q1⟩ := q1
  have s3 := (rl_sh (p := (t, u)) st su).1
  have s4 := rls_sh (g.shs hM)
  have q2 : pIn false (.d (rl (t, u))) (.loc 1) m = .ok (.d (.bool (!decide ((t, u) ∈ rs)))) m := by
    rw [pIn_loc _ _ 1 _ _ hg (un_rl rs), if_pos ⟨s3, s4⟩, List.any_map, any_rl]
    simp
  generalize he : ([some (.loc 0), some w1, w2, some (.d (.str M)), some (.loc 1), some (.d (.list (ws.map .int))), some (.d (.int way)), some (.d (.bool b)), some (.d (.str t)), some (.d (.str u)), w10] : Pd.Env) = en
  have v4 : eVar 4 en m = .ok (.loc 1) m := by rw [← he]; rfl
  have v7 : eVar 7 en m = .ok (.d (.bool b)) m := by rw [← he]; rfl
  have v8 : eVar 8 en m = .ok (.d (.str t)) m := by rw [← he]; rfl
  have v9 : eVar 9 en m = .ok (.d (.str u)) m := by rw [← he]; rfl
  have q3 : eTup (aCons (eVar 8) (aCons (eVar 9) aNil)) en m = .ok (.d (rl (t, u))) m := by
    simp [eTup_ap, aCons_ap, aNil_ap, v8, v9, R.bind, unWs, unW, sizeLine_eq, rl]
  have hl : rs.length < 16777216 := by omega
  have hg' : m[1]? = some (Cell.lst (rs.map fun p => W.d (rl p))) := hg
  have q4 : eMl qApp (eVar 4) (aCons (eTup (aCons (eVar 8) (aCons (eVar 9) aNil))) aNil) en m = .ok (.d .none) (m.set 1 (lR (rs ++ [(t, u)]))) := by
    simp [eMl_ap, v4, R.bind, hg', aCons_ap, q3, aNil_ap, qApp, sizeLine_eq, hl, stSet, lR]
  have q5 : (eBin (pIn false) (eTup (aCons (eVar 8) (aCons (eVar 9) aNil))) (eVar 4)) en m = .ok (.d (.bool (!decide ((t, u) ∈ rs)))) m := by
    rw [eBin_ap, q3]
    simp only [R.bind, v4, q2]
  have q6 : eBin pNe (eVar 8) (eVar 9) en m = .ok (.d (.bool (!(t == u)))) m := by
    rw [eBin_ap, v8]
    simp only [R.bind, v9, pNe_d, st, su, and_self, if_true, ev_str]
  have step : ∀ Y : FS, sSeq (sSet 7 (eOr (eBin pEq (eVar 6) (eC (.int 0))) (eBin pGt (eCall 3 F__law_weight (aCons (eVar 3) (aCons (eVar 5) (aCons (eVar 8) aNil)))) (eCall 3 F__law_weight (aCons (eVar 3) (aCons (eVar 5) (aCons (eVar 9) aNil))))))) Y [some (.loc 0), some w1, w2, some (.d (.str M)), some (.loc 1), some (.d (.list (ws.map .int))), some (.d (.int way)), w7, some (.d (.str t)), some (.d (.str u)), w10] m = Y en m := fun Y => by
    rw [sSeq_ap, sSet_ap, q1, ← he]
    rfl
  rw [step]
  have stay : ∀ k', k ≤ k' → InvF ns M ws way w1 k' en m := fun k' hk' => ⟨⟨w2, _, _, _, w10, he.symm⟩, rs, r, g, by omega⟩
  have cond : ∀ c : Bool, c = ((!(t == u)) && ((!decide ((t, u) ∈ rs)) && b)) → (Pd.tAnd (tV (eBin pNe (eVar 8) (eVar 9))) (Pd.tAnd (tV (eBin (pIn false) (eTup (aCons (eVar 8) (aCons (eVar 9) aNil))) (eVar 4))) (tV (eVar 7)))) en m = .ok c m := fun c hc => by
    rw [hc, tAnd_ap, tV_ap, q6]
    simp only [R.bind, toB_b]
    cases (!(t == u)) with
    | false => rfl
    | true =>
      simp only [if_true, tAnd_ap, tV_ap, q5, R.bind, toB_b]
      cases (!decide ((t, u) ∈ rs)) with
      | false => rfl
      | true => simp only [if_true, tV_ap, v7, R.bind, toB_b, Bool.true_and]
  cases hc : ((!(t == u)) && ((!decide ((t, u) ∈ rs)) && b)) with
  | false =>
    refine ⟨en, m, ?_, stay _ (Nat.le_succ _)⟩
    rw [sIf_ap, cond _ hc.symm]
    rfl
  | true =>
    simp only [Bool.and_eq_true, Bool.not_eq_true', beq_eq_false_iff_ne, decide_eq_false_iff_not] at hc
    obtain ⟨hne, hin, hb⟩ := hc
    have hc' : true = ((!(t == u)) && ((!decide ((t, u) ∈ rs)) && b)) := by simp [hne, hin, hb]
    refine ⟨en, m.set 1 (lR (rs ++ [(t, u)])), ?_, ⟨w2, _, _, _, w10, he.symm⟩, rs ++ [(t, u)], r.set, ⟨fun p hp => ?_, ?_⟩, by simp; omega⟩
    · rw [sIf_ap, cond _ hc']
      simp only [ofR, if_true, sExpr_ap, q4]
    · rcases List.mem_append.mp hp with z | z
      · exact g.two p z
      · have : p = (t, u) := by simpa using z
        subst this
        exact ⟨ht, hu, hne⟩
    · rw [List.nodup_append]
      exact ⟨g.nd, by simp, fun a ha b hb z => by
        have : b = (t, u) := by simpa using hb
        rw [z, this] at ha
        exact hin ha⟩
abbrev tailF : FS := (sSeq (sSet 7 (eOr (eBin pEq (eVar 6) (eC (.int 0))) (eBin pGt (eCall 3 F__law_weight (aCons (eVar 3) (aCons (eVar 5) (aCons (eVar 8) aNil)))) (eCall 3 F__law_weight (aCons (eVar 3) (aCons (eVar 5) (aCons (eVar 9) aNil))))))) (sIf (Pd.tAnd (tV (eBin pNe (eVar 8) (eVar 9))) (Pd.tAnd (tV (eBin (pIn false) (eTup (aCons (eVar 8) (aCons (eVar 9) aNil))) (eVar 4))) (tV (eVar 7)))) (sExpr (eMl qApp (eVar 4) (aCons (eTup (aCons (eVar 8) (aCons (eVar 9) aNil))) aNil))) sNil))
theorem f_turn {ns : List Int} {M : Str} (hM : M ∈ MOODS) {ws : List Int} (hw : ws.length = M.length) {way : Int} {w1 : W} {k : Nat} (hk : k < 1000) {e : Pd.Env} {m : Sto} (i : InvF ns M ws way w1 k e m) (w : W) : ∃ e2 m2, bodyF (e.set 2 (some w)) m = .nx e2 m2 ∧ InvF ns M ws way w1 (k + 1) e2 m2 := by
  obtain ⟨⟨w2, w7, w8, w9, w10, rfl⟩, rs, r, g, hl⟩ := i
  have b0 := (moods_sg M hM).2
  obtain ⟨t, m1, e1, r1, f1, ht⟩ := g_two r r.flR M b0.1 (by omega)
  obtain ⟨u, m2, e2, r2, f2, hu⟩ := g_two r1 f1 M b0.1 (by omega)
  have step : ∀ Y : FS, sSeq (sPar 8 9 (aCons (eCall 2 F__law_two (aCons (eVar 0) (aCons (eVar 3) aNil))) (aCons (eCall 2 F__law_two (aCons (eVar 0) (aCons (eVar 3) aNil))) aNil))) Y [some (.loc 0), some w1, some w, some (.d (.str M)), some (.loc 1), some (.d (.list (ws.map .int))), some (.d (.int way)), w7, w8, w9, w10] m =
      Y [some (.loc 0), some w1, some w, some (.d (.str M)), some (.loc 1), some (.d (.list (ws.map .int))), some (.d (.int way)), w7, some (.d (.str t)), some (.d (.str u)), w10] m2 := fun Y => by
    simp [sSeq_ap, sPar_ap, aCons_ap, eCall_ap, eVar_ap, aNil_ap, R.bind, e1, e2, ofR]
  obtain ⟨i1, j1⟩ := g_weight f2 hM ws hw ht
  obtain ⟨i2, j2⟩ := g_weight f2 hM ws hw hu
  have swap : ∃ t' u', TwoOf M t' ∧ TwoOf M u' ∧ ∀ Y : FS, sSeq (sIf (Pd.tAnd (tV (eBin pGt (eVar 6) (eC (.int 0)))) (tV (eBin pLt (eCall 3 F__law_weight (aCons (eVar 3) (aCons (eVar 5) (aCons (eVar 8) aNil)))) (eCall 3 F__law_weight (aCons (eVar 3) (aCons (eVar 5) (aCons (eVar 9) aNil))))))) (sPar 8 9 (aCons (eVar 9) (aCons (eVar 8) aNil))) sNil) Y
        [some (.loc 0), some w1, some w, some (.d (.str M)), some (.loc 1), some (.d (.list (ws.map .int))), some (.d (.int way)), w7, some (.d (.str t)), some (.d (.str u)), w10] m2 =
      Y [some (.loc 0), some w1, some w, some (.d (.str M)), some (.loc 1), some (.d (.list (ws.map .int))), some (.d (.int way)), w7, some (.d (.str t')), some (.d (.str u')), w10] m2 := by
    by_cases h0 : 0 < way
    · by_cases h1 : i1 < i2
      · exact ⟨u, t, hu, ht, fun Y => by simp [runD_ap, startE, eVar_ap, eC_ap, eBin_ap, eChain_ap, tV_ap, tNot_ap, tAnd_ap, tOr_ap, eAnd_ap, eOr_ap, eNot_ap, eIf_ap, aNil_ap, aCons_ap, eTup_ap, eLst_ap, eLstM_ap, eRep_ap, eCall_ap, eB_ap, eIsi_ap, eMl_ap, eMs_ap, oNone_ap, oSome_ap, eSl_ap, sNil_ap, sSeq_ap, sRet_ap, sExpr_ap, sIf_ap, sSet_ap, sAsg_ap, sPar_ap, sPut_ap, iSeq_ap, iRg1_ap, iRg2_ap, fYes_ap, iZ2_ap, iZ3_ap, sRaise_ap, eNeg_ap, ofR, R.bind, toB_b, gN, gT, gsCons, gsNil, wipeE, pPlus_i, pPlus_l, pPlus_t, pPlus_s, pSub_i, pMul_i, pDiv_i, pMod_i, pPow_i, pEq_d, pNe_d, pLt_i, pLe_i, pGt_i, pGe_i, pLt_s, pLe_s, pGt_s, pGe_s, pIs_n, pIs_t, pIs_l, pIs_s, pIs_i, pIs_bn, pIs_b, pIn_s, pIn_l, pIn_t, pIx_l, pIx_t, pIx_s, qLen_s, qLen_l, qLen_t, qInt_i, qInt_b, qTup_l, qTup_t, qList_l, qList_t, qSum, qJoin, qCount, qIndex, locOk, isTW, isT, unW, unWs, noX, seqW_l, seqW_t, sizeLine_eq, L2.atI, L2.ixN, h0, h1, j1, j2]⟩
      · exact ⟨t, u, ht, hu, fun Y => by simp [runD_ap, startE, eVar_ap, eC_ap, eBin_ap, eChain_ap, tV_ap, tNot_ap, tAnd_ap, tOr_ap, eAnd_ap, eOr_ap, eNot_ap, eIf_ap, aNil_ap, aCons_ap, eTup_ap, eLst_ap, eLstM_ap, eRep_ap, eCall_ap, eB_ap, eIsi_ap, eMl_ap, eMs_ap, oNone_ap, oSome_ap, eSl_ap, sNil_ap, sSeq_ap, sRet_ap, sExpr_ap, sIf_ap, sSet_ap, sAsg_ap, sPar_ap, sPut_ap, iSeq_ap, iRg1_ap, iRg2_ap, fYes_ap, iZ2_ap, iZ3_ap, sRaise_ap, eNeg_ap, ofR, R.bind, toB_b, gN, gT, gsCons, gsNil, wipeE, pPlus_i, pPlus_l, pPlus_t, pPlus_s, pSub_i, pMul_i, pDiv_i, pMod_i, pPow_i, pEq_d, pNe_d, pLt_i, pLe_i, pGt_i, pGe_i, pLt_s, pLe_s, pGt_s, pGe_s, pIs_n, pIs_t, pIs_l, pIs_s, pIs_i, pIs_bn, pIs_b, pIn_s, pIn_l, pIn_t, pIx_l, pIx_t, pIx_s, qLen_s, qLen_l, qLen_t, qInt_i, qInt_b, qTup_l, qTup_t, qList_l, qList_t, qSum, qJoin, qCount, qIndex, locOk, isTW, isT, unW, unWs, noX, seqW_l, seqW_t, sizeLine_eq, L2.atI, L2.ixN, h0, h1, j1, j2]⟩
    · exact ⟨t, u, ht, hu, fun Y => by simp [runD_ap, startE, eVar_ap, eC_ap, eBin_ap, eChain_ap, tV_ap, tNot_ap, tAnd_ap, tOr_ap, eAnd_ap, eOr_ap, eNot_ap, eIf_ap, aNil_ap, aCons_ap, eTup_ap, eLst_ap, eLstM_ap, eRep_ap, eCall_ap, eB_ap, eIsi_ap, eMl_ap, eMs_ap, oNone_ap, oSome_ap, eSl_ap, sNil_ap, sSeq_ap, sRet_ap, sExpr_ap, sIf_ap, sSet_ap, sAsg_ap, sPar_ap, sPut_ap, iSeq_ap, iRg1_ap, iRg2_ap, fYes_ap, iZ2_ap, iZ3_ap, sRaise_ap, eNeg_ap, ofR, R.bind, toB_b, gN, gT, gsCons, gsNil, wipeE, pPlus_i, pPlus_l, pPlus_t, pPlus_s, pSub_i, pMul_i, pDiv_i, pMod_i, pPow_i, pEq_d, pNe_d, pLt_i, pLe_i, pGt_i, pGe_i, pLt_s, pLe_s, pGt_s, pGe_s, pIs_n, pIs_t, pIs_l, pIs_s, pIs_i, pIs_bn, pIs_b, pIn_s, pIn_l, pIn_t, pIx_l, pIx_t, pIx_s, qLen_s, qLen_l, qLen_t, qInt_i, qInt_b, qTup_l, qTup_t, qList_l, qList_t, qSum, qJoin, qCount, qIndex, locOk, isTW, isT, unW, unWs, noX, seqW_l, seqW_t, sizeLine_eq, L2.atI, L2.ixN, h0]⟩
  obtain ⟨t', u', ht', hu', sw⟩ := swap
  obtain ⟨e3, m3, h3, i3⟩ := f_tail (w1 := w1) (w2 := some w) (w10 := w10) (w7 := w7) (way := way) hM hw r2 g hl hk ht' hu'
  refine ⟨e3, m3, ?_, i3⟩
  show bodyF [some (.loc 0), some w1, some w, some (.d (.str M)), some (.loc 1), some (.d (.list (ws.map .int))), some (.d (.int way)), w7, w8, w9, w10] m = _
  unfold bodyF
  rw [step, sw]
  exact h3
/-- the folk that the law draws -/
theorem g_folk {ns : List Int} {m : Sto} (r : Rw ns [] m) : ∃ (M : Str) (rs : List (Str × Str)) (m' : Sto), F__law_folk [.loc 0, .d (.int 8)] m = .ok (.d (fk M rs)) m' ∧ Rw ns [] m' ∧ M ∈ MOODS ∧ GR M rs ∧ rs.length ≤ 8 := by
  obtain ⟨M, m1, e1, r1, f1, hM⟩ := g_moods r r.fl0
  have b0 := (moods_sg M hM).2
  obtain ⟨r2, l2⟩ := r1.new (d := lR [])
  -- told
  have told : ∀ e : Pd.Env, e[0]? = some (some (.loc 0)) → e[3]? = some (some (.d (.str M))) → ∃ (ws : List Int) (m3 : Sto), ws.length = M.length ∧ Rw ns [lR []] m3 ∧ eLc [10] (iSeq (eVar 3)) (gN 10) fYes (eCall 2 F__law_taken (aCons (eVar 0) (aCons (eC (.int 6)) aNil))) e (m1 ++ [lR []]) = .ok (.d (.list (ws.map .int))) m3 := fun e h0 h3 => by
    obtain ⟨ds, m3, e3, l3, p3, i3⟩ := loopC_inv (tg := gN 10) (tt := fYes) (f := eCall 2 F__law_taken (aCons (eVar 0) (aCons (eC (.int 6)) aNil))) (e := wipeE e [10]) (Inv := fun m => Rw ns [lR []] m) (P := fun d => ∃ i : Int, d = .int i) (ws := (signs M).map W.d) (acc := []) (m := m1 ++ [lR []]) (fun w hw m i => by
      obtain ⟨x, m', e4, r4, f4, _⟩ := g_taken i i.flR 6 (by decide)
      have h0' : ((wipeE e [10]).set 10 (some w))[0]? = some (some (.loc 0)) := by
        simp [wipeE, h0]
      exact ⟨_, .int x, m', rfl, rfl, by simp [eCall_ap, aCons_ap, eVar_ap, h0', eC_ap, aNil_ap, R.bind, e4], r4, x, rfl⟩) (by rw [sizeLine_eq]; simp [signs]; have : M.cps.size = M.length := rfl; omega) r2
    have hi : ∃ ws : List Int, ds = ws.map .int := by
      clear e3 l3
      induction ds with
      | nil => exact ⟨[], rfl⟩
      | cons d ds ih =>
        obtain ⟨i, rfl⟩ := p3 d List.mem_cons_self
        obtain ⟨ws, rfl⟩ := ih fun x hx => p3 x (List.mem_cons_of_mem _ hx)
        exact ⟨i :: ws, rfl⟩
    obtain ⟨ws, rfl⟩ := hi
    refine ⟨ws, m3, ?_, i3, ?_⟩
    · simp only [List.length_map] at l3
      rw [l3]
      simp [signs]
      rfl
    · rw [eLc_ap, iSeq_ap, eVar_ap, h3]
      simp only [R.bind]
      rw [e3]
      rfl
  obtain ⟨ws, m3, hw, r3, et⟩ := told [some (.loc 0), some (.d (.int 8)), none, some (.d (.str M)), some (.loc 1), none, none, none, none, none, none] rfl rfl
  obtain ⟨way, m4, e4, r4, f4, _⟩ := g_taken r3 r3.flR 4 (by decide)
  obtain ⟨n, m5, e5, r5, f5, hn⟩ := g_taken r4 r4.flR 9 (by decide)
  have it : ∀ e : Pd.Env, e[0]? = some (some (.loc 0)) → e[1]? = some (some (.d (.int 8))) → iRg1 (aCons (eCall 2 F__law_taken (aCons (eVar 0) (aCons (eBin pPlus (eVar 1) (eC (.int 1))) aNil))) aNil) e m4 = .ok ((List.range n).map fun i => W.d (.int (0 + (i : Nat)))) m5 := fun e h0 h1 => by
    refine iRg1_n n (by omega) _ e m4 m5 ?_
    have e5' : F__law_taken [.loc 0, .d (.int (8 + 1))] m4 = .ok (.d (.int n)) m5 := e5
    simp only [aCons_ap, eCall_ap, eVar_ap, h0, h1, eC_ap, eBin_ap, aNil_ap, R.bind, pPlus_i, List.length_cons, List.length_nil, if_true, Nat.reduceAdd, e5']
  have lp := loopF_inv (tg := gN 2) (body := bodyF) (N := n) (Inv := InvF ns M ws way (.d (.int 8))) (ws := (List.range n).map fun i => W.d (.int (0 + (i : Nat)))) (k := 0)
    (e := [some (.loc 0), some (.d (.int 8)), none, some (.d (.str M)), some (.loc 1), some (.d (.list (ws.map .int))), some (.d (.int way)), none, none, none, none]) (m := m5) (by simp)
    (fun w hw' k e m hk i => ⟨_, rfl, f_turn hM hw (by omega) i w⟩) ⟨⟨none, none, none, none, none, rfl⟩, [], r5, ⟨fun p hp => (by cases hp), List.nodup_nil⟩, Nat.le_refl _⟩
  obtain ⟨e6, m6, e6h, ⟨w2, w7, w8, w9, w10, rfl⟩, rs, r6, g6, l6⟩ := lp
  have hg6 : m6[1]? = some (Cell.lst (rs.map fun p => W.d (rl p))) := r6.get
  obtain ⟨k0, s0, b0', hm6, hs0, hb0⟩ := r6
  refine ⟨M, rs, [rc ns k0 s0 b0'], ?_, ⟨k0, s0, b0', rfl, hs0, hb0⟩, hM, g6, by omega⟩
  have lm : m.length = 1 := by obtain ⟨k, s, b, rfl, _⟩ := r; rfl
  have hl1 : m1.length = 1 := l2
  have qt := qTup_loc (rs.map rl) 1 m6 hg6 (un_rl rs)
  have end1 : dEnd 1 (.rt (.d (fk M rs)) m6) = .ok (.d (fk M rs)) [rc ns k0 s0 b0'] := by rw [hm6]; rfl
  have lR0 : lR [] = Cell.lst [] := rfl
  rw [lR0] at et
  show dEnd m.length (fs__law_folk (startE 11 [.loc 0, .d (.int 8)]) m) = _
  rw [lm]
  have st : startE 11 [W.loc 0, .d (.int 8)] = [some (.loc 0), some (.d (.int 8)), none, none, none, none, none, none, none, none, none] := rfl
  rw [st]
  unfold fs__law_folk
  have step1 : ∀ Y : FS, sSeq (sPar 3 4 (aCons (eCall 1 F__law_moods (aCons (eVar 0) aNil)) (aCons (eLstM aNil) aNil))) Y [some (.loc 0), some (.d (.int 8)), none, none, none, none, none, none, none, none, none] m = Y [some (.loc 0), some (.d (.int 8)), none, some (.d (.str M)), some (.loc 1), none, none, none, none, none, none] (m1 ++ [Cell.lst []]) := fun Y => by
    simp [sSeq_ap, sPar_ap, aCons_ap, eCall_ap, eVar_ap, aNil_ap, R.bind, e1, eLstM_ap, hl1, ofR]
  have step2 : ∀ Y : FS, sSeq (sPar 5 6 (aCons (eLc [10] (iSeq (eVar 3)) (gN 10) fYes (eCall 2 F__law_taken (aCons (eVar 0) (aCons (eC (.int 6)) aNil)))) (aCons (eCall 2 F__law_taken (aCons (eVar 0) (aCons (eC (.int 4)) aNil))) aNil))) Y [some (.loc 0), some (.d (.int 8)), none, some (.d (.str M)), some (.loc 1), none, none, none, none, none, none] (m1 ++ [Cell.lst []]) = Y [some (.loc 0), some (.d (.int 8)), none, some (.d (.str M)), some (.loc 1), some (.d (.list (ws.map .int))), some (.d (.int way)), none, none, none, none] m4 := fun Y => by
    simp [sSeq_ap, sPar_ap, aCons_ap, eCall_ap, eVar_ap, eC_ap, aNil_ap, R.bind, et, e4, ofR]
  rw [step1, step2]
  have step3 : ∀ Y : FS, sSeq (sFor (iRg1 (aCons (eCall 2 F__law_taken (aCons (eVar 0) (aCons (eBin pPlus (eVar 1) (eC (.int 1))) aNil))) aNil)) (gN 2) bodyF) Y [some (.loc 0), some (.d (.int 8)), none, some (.d (.str M)), some (.loc 1), some (.d (.list (ws.map .int))), some (.d (.int way)), none, none, none, none] m4 = Y [some (.loc 0), some (.d (.int 8)), w2, some (.d (.str M)), some (.loc 1), some (.d (.list (ws.map .int))), some (.d (.int way)), w7, w8, w9, w10] m6 := fun Y => by
    rw [sSeq_ap, sFor_ap, it _ rfl rfl]
    simp only [ofR]
    rw [e6h]
  rw [step3, sRet_ap, eTup_ap]
  rw [← end1]
  simp [aCons_ap, eVar_ap, aNil_ap, eB_ap, R.bind, qt, unWs, unW, sizeLine_eq, ofR, fk]
end K00

set_option Elab.async false
set_option linter.all false
set_option maxRecDepth 100000
set_option maxHeartbeats 2000000
namespace K00
open PySem Pd
/-! ### the drawn crowd -/
theorem join_ch : ∀ l : List Nat, (Txt.join "" (l.map fun c => (⟨#[c]⟩ : Str))).cps.toList = l := by
  intro l
  rw [show Txt.join "" (l.map fun c => (⟨#[c]⟩ : Str)) = Str.join "" (l.map fun c => (⟨#[c]⟩ : Str)) from PySem.StrLaws.glued_eq_join _ _]
  induction l with
  | nil => rfl
  | cons a l ih =>
    cases l with
    | nil => rfl
    | cons b l =>
      show (Str.join "" (⟨#[a]⟩ :: (b :: l).map fun c => (⟨#[c]⟩ : Str))).cps.toList = _
      have e : Str.join "" (⟨#[a]⟩ :: (b :: l).map fun c => (⟨#[c]⟩ : Str)) = (⟨#[a]⟩ : Str) ++ "" ++ Str.join "" ((b :: l).map fun c => (⟨#[c]⟩ : Str)) := rfl
      rw [e]
      show ((#[a] ++ (Str.ofString "").cps) ++ (Str.join "" ((b :: l).map fun c => (⟨#[c]⟩ : Str))).cps).toList = _
      rw [Array.toList_append, ih]
      rfl
theorem unS_ch : ∀ l : List Nat, unSs (l.map fun c => PyData.str ⟨#[c]⟩) = some (l.map fun c => (⟨#[c]⟩ : Str))
  | [] => rfl
  | c :: l => by
    rw [List.map_cons]
    unfold unSs unS
    rw [unS_ch l]
    rfl
theorem sum_ch : ∀ l : List Nat, ((l.map fun c => (⟨#[c]⟩ : Str)).map (·.length)).sum = l.length
  | [] => rfl
  | c :: l => by
    rw [List.map_cons, List.map_cons, List.sum_cons, sum_ch l, List.length_cons, Nat.add_comm]
    rfl
theorem g_crowd {ns : List Int} {m : Sto} (r : Rw ns [] m) {M : Str} (hM : M ∈ MOODS) (rs : List (Str × Str)) : ∃ (t : Str) (m' : Sto), F__law_crowd [.loc 0, .d (fk M rs), .d (.int 7)] m = .ok (.d (cw (cntL M t))) m' ∧ Rw ns [] m' ∧ (∀ c ∈ t.cps.toList, c < 1114112) ∧ t.length ≤ 7 := by
  have b0 := moods_sg M hM
  obtain ⟨n, m1, e1, r1, f1, hn⟩ := g_taken r r.fl0 8 (by decide)
  have it : iRg1 (aCons (eCall 2 F__law_taken (aCons (eVar 0) (aCons (eBin pPlus (eVar 2) (eC (.int 1))) aNil))) aNil) [some (.loc 0), some (.d (fk M rs)), some (.d (.int 7)), none] m = .ok ((List.range n).map fun i => W.d (.int (0 + (i : Nat)))) m1 := by
    refine iRg1_n n (by omega) _ _ m m1 ?_
    simp [aCons_ap, eCall_ap, eVar_ap, eC_ap, eBin_ap, aNil_ap, R.bind, pPlus_i, e1]
  obtain ⟨ds, m2, e2, l2, p2, r2⟩ := loopC_inv (tg := gN 3) (tt := fYes) (f := eCall 2 F__law_pick (aCons (eVar 0) (aCons (eB qList (aCons (eBin pIx (eVar 1) (eC (.int 0))) aNil)) aNil))) (e := [some (.loc 0), some (.d (fk M rs)), some (.d (.int 7)), none]) (Inv := fun m => Rw ns [] m) (P := fun d => ∃ c, c ∈ M.cps.toList ∧ d = .str ⟨#[c]⟩) (ws := (List.range n).map fun i => W.d (.int (0 + (i : Nat)))) (acc := []) (m := m1) (fun w hw m i => by
    have hl : (signs M).length = M.length := by simp [signs]; rfl
    obtain ⟨d, m', e4, r4, f4, i4⟩ := g_pick i i.fl0 (signs M) (.list (signs M)) (.inl rfl) (by omega) (by omega)
    obtain ⟨c, hc, rfl⟩ : ∃ c, c ∈ M.cps.toList ∧ PyData.str ⟨#[c]⟩ = d := by simpa [signs] using i4
    have hq : qList [.d (.str M)] m = .ok (.d (.list (signs M))) m := qList_s M m (by rw [sizeLine_eq]; have : M.cps.size = M.length := rfl; omega)
    exact ⟨_, _, m', rfl, rfl, by simp [eCall_ap, aCons_ap, eVar_ap, eC_ap, eBin_ap, eB_ap, aNil_ap, R.bind, ix_fk0, hq, e4], r4, c, hc, rfl⟩) (by rw [sizeLine_eq]; simp; omega) r1
  have hi : ∃ l : List Nat, ds = l.map (fun c => PyData.str ⟨#[c]⟩) ∧ ∀ c ∈ l, c ∈ M.cps.toList := by
    clear e2 l2
    induction ds with
    | nil => exact ⟨[], rfl, fun c h => (by cases h)⟩
    | cons d ds ih =>
      obtain ⟨c, hc, rfl⟩ := p2 d List.mem_cons_self
      obtain ⟨l, rfl, hl⟩ := ih fun x hx => p2 x (List.mem_cons_of_mem _ hx)
      exact ⟨c :: l, rfl, fun x hx => by
        rcases List.mem_cons.mp hx with rfl | hx
        · exact hc
        · exact hl x hx⟩
  obtain ⟨l, rfl, hl⟩ := hi
  have ll : l.length = n := by simpa using l2
  refine ⟨Txt.join "" (l.map fun c => (⟨#[c]⟩ : Str)), m2, ?_, r2, fun c hc => ?_, ?_⟩
  · have jt := join_ch l
    have st : ∀ c ∈ (Txt.join "" (l.map fun c => (⟨#[c]⟩ : Str))).cps.toList, c < 1114112 := fun c hc => by
      rw [jt] at hc
      exact b0.1 c (hl c hc)
    have lt : (Txt.join "" (l.map fun c => (⟨#[c]⟩ : Str))).length ≤ 16777216 := by
      show (Txt.join "" (l.map fun c => (⟨#[c]⟩ : Str))).cps.size ≤ _
      rw [← Array.length_toList, jt]
      omega
    have ec := q_counts (m := m2) (M := M) (t := Txt.join "" (l.map fun c => (⟨#[c]⟩ : Str))) r2.fl0 (by omega) lt (fun c hc => sh_str (fun x hx => by
      have : x = c := by simpa using hx
      rw [this]; exact b0.1 c hc)) (fun c hc => sh_str (fun x hx => by
      have : x = c := by simpa using hx
      rw [this]; exact st c hc))
    have e3 : eLc [3] (iRg1 (aCons (eCall 2 F__law_taken (aCons (eVar 0) (aCons (eBin pPlus (eVar 2) (eC (.int 1))) aNil))) aNil)) (gN 3) fYes (eCall 2 F__law_pick (aCons (eVar 0) (aCons (eB qList (aCons (eBin pIx (eVar 1) (eC (.int 0))) aNil)) aNil))) [some (.loc 0), some (.d (fk M rs)), some (.d (.int 7)), none] m = .ok (.d (.list (l.map fun c => PyData.str ⟨#[c]⟩))) m2 := by
      rw [eLc_ap, it]
      simp only [R.bind]
      show (loopC _ _ _ [some (.loc 0), some (.d (fk M rs)), some (.d (.int 7)), none] _ [] m1).bind _ = _
      rw [e2]
      rfl
    have cj : ((l.map fun c => (⟨#[c]⟩ : Str)).map (·.length)).sum + (l.map fun c => (⟨#[c]⟩ : Str)).length * (Str.ofString "").length ≤ 16777216 := by
      rw [sum_ch, show (Str.ofString "").length = 0 from rfl, Nat.mul_zero]
      omega
    have e4 := dEnd_to (m := m) (m' := m2) (x := cw (cntL M (Txt.join "" (l.map fun c => (⟨#[c]⟩ : Str))))) r2.fl0 (r.len r2)
    have qj : qJoin (.d (.str "")) [.d (.list (l.map fun c => PyData.str ⟨#[c]⟩))] m2 = .ok (.d (.str (Txt.join "" (l.map fun c => (⟨#[c]⟩ : Str))))) m2 := by
      unfold qJoin
      simp only [unS_ch]
      exact if_pos cj
    rw [← e4]
    unfold F__law_crowd fs__law_crowd
    rw [runD_ap, sRet_ap]
    have st : startE 4 [W.loc 0, .d (fk M rs), .d (.int 7)] = [some (.loc 0), some (.d (fk M rs)), some (.d (.int 7)), none] := rfl
    rw [st, eCall_ap, aCons_ap]
    simp only [eBin_ap, eVar_ap, eC_ap, List.getElem?_cons_zero, List.getElem?_cons_succ, R.bind, ix_fk0, aCons_ap, eMs_ap, e3, qj, aNil_ap, List.length_cons, List.length_nil, Nat.reduceAdd, if_true, ec, ofR]
  · rw [join_ch] at hc
    exact b0.1 c (hl c hc)
  · show (Txt.join "" (l.map fun c => (⟨#[c]⟩ : Str))).cps.size ≤ _
    rw [← Array.length_toList, join_ch]
    omega
end K00

set_option Elab.async false
set_option linter.all false
set_option maxRecDepth 100000
set_option maxHeartbeats 2000000
namespace K00
open PySem Pd
/-! ### the drawn folk are good -/
theorem isIn_ch (c : Nat) (M : Str) : isIn ⟨#[c]⟩ M = decide (c ∈ M.cps.toList) := PySem.StrLaws.found_one M c
theorem areTwo_of {M t : Str} (h : TwoOf M t) : areTwo M (.str t) = true := by
  obtain ⟨a, b, rfl, ha, hb, hab⟩ := h
  have h1 : ¬ b < a := by omega
  show (isIn ⟨#[a]⟩ M && isIn ⟨#[b]⟩ M && !sLt ⟨#[b]⟩ ⟨#[a]⟩) = true
  rw [isIn_ch, isIn_ch, sLt_ch, decide_eq_true ha, decide_eq_true hb, decide_eq_false h1]
  rfl
theorem isRule_of {M : Str} {p : Str × Str} (h1 : TwoOf M p.1) (h2 : TwoOf M p.2) (h3 : p.1 ≠ p.2) : isRule M (rl p) = true := by
  show (areTwo M (.str p.1) && areTwo M (.str p.2) && !PyData.eqv (.str p.1) (.str p.2)) = true
  rw [areTwo_of h1, areTwo_of h2, ev_str, beq_eq_false_iff_ne.mpr h3]
  rfl
theorem pairs_rl : ∀ rs : List (Str × Str), pairsS (rs.map rl) = some rs
  | [] => rfl
  | p :: rs => by
    rw [List.map_cons]
    unfold pairsS
    rw [pairs_rl rs]
    rfl
theorem dups_nodup {α : Type} [BEq α] [LawfulBEq α] : ∀ (n : Nat) (l : List α), l.length ≤ n → l.Nodup → l.eraseDups = l
  | 0, l, h, _ => by
    have : l = [] := List.length_eq_zero_iff.mp (by omega)
    rw [this]
    rfl
  | n + 1, [], _, _ => rfl
  | n + 1, a :: l, h, hd => by
    rw [List.eraseDups_cons]
    have hn := List.nodup_cons.mp hd
    have e : l.filter (fun b => !b == a) = l := List.filter_eq_self.mpr fun b hb => by
      have : b ≠ a := fun z => hn.1 (z ▸ hb)
      simp [this]
    rw [e, dups_nodup n l (by simpa using h) hn.2]
theorem moods_ok : ∀ M ∈ MOODS, areMoods (.str M) = true := by
  have key : (MOODS.all fun M => areMoods (.str M)) = true := by decide +kernel
  exact fun M hM => List.all_eq_true.mp key M hM
section
variable {M : Str} {rs : List (Str × Str)}
theorem fk_good (hM : M ∈ MOODS) (g : GR M rs) (hl : rs.length ≤ 8) : isFolk (fk M rs) = true := by
  have h1 : ((rs.map rl).all (isRule M)) = true := by
    rw [List.all_map]
    exact List.all_eq_true.mpr fun p hp => isRule_of (g.two p hp).1 (g.two p hp).2.1 (g.two p hp).2.2
  have h2 : unlike (rs.map rl) = true := by
    unfold unlike
    rw [pairs_rl]
    exact decide_eq_true (by rw [dups_nodup _ rs (Nat.le_refl _) g.nd])
  show (areMoods (.str M) && (decide ((rs.map rl).length ≤ 12) && (rs.map rl).all (isRule M) && unlike (rs.map rl))) = true
  rw [moods_ok M hM, h1, h2, List.length_map, decide_eq_true (by omega : rs.length ≤ 12)]
  rfl
theorem txt_ok {t : Str} (h1 : t.length ≤ 16777216) (h2 : SeqAt.shaped (.str t) = true) : TxT (.str t) = true := by
  unfold TxT
  rw [h2, sizeLine_eq, decide_eq_true h1]
  rfl
theorem txs_rl (h : ∀ p ∈ rs, TxT (.str p.1) = true ∧ TxT (.str p.2) = true) : TxTs (rs.map rl) = true := by
  induction rs with
  | nil => rfl
  | cons p rs ih =>
    rw [List.map_cons]
    have hp := h p List.mem_cons_self
    have e : TxT (rl p) = true := by
      show TxTs [.str p.1, .str p.2] = true
      unfold TxTs
      rw [hp.1]
      unfold TxTs
      rw [hp.2]
      rfl
    unfold TxTs
    rw [e, ih fun q hq => h q (List.mem_cons_of_mem _ hq)]
    rfl
theorem fk_gd (hM : M ∈ MOODS) (g : GR M rs) (hl : rs.length ≤ 8) : Gd M rs := by
  have b0 := moods_sg M hM
  have sm : SeqAt.shaped (.str M) = true := sh_str b0.1
  have st := g.shs hM
  refine ⟨⟨by omega, fun p hp => (rl_sh (st p hp).1 (st p hp).2).1, rls_sh st⟩, ?_, fk_good hM g hl⟩
  have e2 := txs_rl (rs := rs) fun p hp => ⟨txt_ok (by have := (two_sg hM (g.two p hp).1).2; omega) (st p hp).1, txt_ok (by have := (two_sg hM (g.two p hp).2.1).2; omega) (st p hp).2⟩
  show TxTs [.str M, .tuple (rs.map rl)] = true
  unfold TxTs
  rw [txt_ok (by omega) sm]
  unfold TxTs
  rw [show TxT (.tuple (rs.map rl)) = true from e2]
  rfl
theorem sg_of {t : Str} (h : ∀ c ∈ t.cps.toList, c < 1114112) : Sg t := fun c hc => sh_str fun x hx => by
  have : x = c := by simpa using hx
  rw [this]; exact h c hc
theorem fk_rs (hM : M ∈ MOODS) (g : GR M rs) (hl : rs.length ≤ 8) : Rs M rs := by
  have b0 := moods_sg M hM
  have st := g.shs hM
  refine ⟨by omega, sg_of b0.1, fun p hp => ?_, by omega, fun p hp => (rl_sh (st p hp).1 (st p hp).2).1⟩
  have h1 := two_sg hM (g.two p hp).1
  have h2 := two_sg hM (g.two p hp).2.1
  exact ⟨by omega, sg_of h1.1, by omega, sg_of h2.1⟩
theorem fk_us (hM : M ∈ MOODS) (g : GR M rs) (cs : List Int) : Shp (.list ((usable M rs cs).map rl)) := rls_sh fun p hp => g.shs hM p (List.mem_filter.mp hp).1
/-! ### crowds stay small -/
structure Bd (M : Str) (k : Int) (cs : List Int) : Prop where
  len : cs.length = M.length
  bd : ∀ i ∈ cs, 0 ≤ i ∧ i ≤ k
theorem nums_bd {t : Str} : ∀ i ∈ nums M t, 0 ≤ i ∧ i ≤ t.length := by
  rw [← cntL_nums]
  intro i hi
  obtain ⟨c, hc, rfl⟩ := List.mem_map.mp hi
  have h1 : (t.cps.toList.filter fun s => decide (s = c)).length ≤ t.cps.toList.length := List.length_filter_le _ _
  have h2 : t.cps.toList.length = t.length := by simp; rfl
  omega
theorem Bd.mono {k k' : Int} {cs : List Int} (b : Bd M k cs) (h : k ≤ k') : Bd M k' cs := ⟨b.len, fun i hi => ⟨(b.bd i hi).1, Int.le_trans (b.bd i hi).2 h⟩⟩
theorem Bd.cd {k : Int} {cs : List Int} (b : Bd M k cs) (h : k ≤ 1000) : Cd M cs := by
  show (decide ((cs.map PyData.int).length = M.length) && (cs.map PyData.int).all isMany) = true
  rw [List.length_map, decide_eq_true b.len, List.all_map]
  refine List.all_eq_true.mpr fun i hi => ?_
  have := b.bd i hi
  show (decide (0 ≤ i) && decide (i ≤ TOP)) = true
  rw [decide_eq_true this.1, decide_eq_true (by show i ≤ 10000000000000000000000000000000000000000; omega)]
  rfl
theorem Bd.small {k : Int} {cs : List Int} (b : Bd M k cs) (h : k ≤ 1000) : K00.small cs = true := by
  unfold K00.small
  rw [Bool.not_eq_true', List.any_eq_false]
  intro i hi
  have := b.bd i hi
  simp only [decide_eq_true_eq]
  show ¬ (10000000000000000000000000000000000000000 : Int) < i
  omega
theorem Bd.step {k : Int} {cs : List Int} (b : Bd M k cs) {p : Str × Str} (hu : canB M rs cs p = true) (h2 : p.2.length ≤ 2) : Bd M (k + 2) (bh M cs p) := by
  have hn : ∀ t, (nums M t).length = M.length := fun t => nums_len
  refine ⟨by simp [bh, b.len, hn], fun i hi => ?_⟩
  obtain ⟨q, hq, rfl⟩ := List.mem_map.mp hi
  obtain ⟨j, hj, rfl⟩ := List.mem_iff_getElem.mp hq
  have hj' : j < M.length := by
    simp only [List.length_zip, b.len, hn] at hj
    omega
  have c1 : j < cs.length := by rw [b.len]; exact hj'
  have c2 : j < (nums M p.1).length := by rw [hn]; exact hj'
  have c3 : j < (nums M p.2).length := by rw [hn]; exact hj'
  simp only [List.getElem_zip]
  have b1 := b.bd cs[j] (List.getElem_mem c1)
  have b2 := nums_bd (M := M) (t := p.1) (nums M p.1)[j] (List.getElem_mem c2)
  have b3 := nums_bd (M := M) (t := p.2) (nums M p.2)[j] (List.getElem_mem c3)
  have en : enough cs (nums M p.1) = true := by
    unfold canB at hu
    rw [Bool.and_eq_true] at hu
    exact hu.2
  unfold enough at en
  have c4 : j < (List.zip cs (nums M p.1)).length := by rw [List.length_zip, b.len, hn]; omega
  have h3 := List.all_eq_true.mp en _ (List.getElem_mem c4)
  simp only [List.getElem_zip, decide_eq_true_eq] at h3
  omega
theorem Bd.row {k : Int} : ∀ (ps : List (Str × Str)) (cs : List Int), Bd M k cs → (∀ p ∈ ps, p.2.length ≤ 2) → ∀ c, rowB M rs cs ps = some c → Bd M (k + 2 * ps.length) c
  | [], cs, b, _, c, h => by
    cases h
    exact b.mono (by simp)
  | p :: ps, cs, b, hp, c, h => by
    unfold rowB at h
    cases hb : canB M rs cs p with
    | false => rw [hb] at h; cases h
    | true =>
      rw [hb] at h
      have := Bd.row (k := k + 2) ps (bh M cs p) (b.step hb (hp p List.mem_cons_self)) (fun q hq => hp q (List.mem_cons_of_mem _ hq)) c h
      refine this.mono ?_
      rw [List.length_cons]
      omega
theorem cnt_bd {t : Str} (h : t.length ≤ 7) : Bd M 7 (cntL M t) := by
  rw [cntL_nums]
  exact ⟨nums_len, fun i hi => by have := nums_bd i hi; omega⟩
end
end K00

set_option Elab.async false
set_option linter.all false
set_option maxRecDepth 100000
set_option maxHeartbeats 2000000
namespace K00
open PySem Pd
section
variable {M : Str} {rs : List (Str × Str)} {cs : List Int} {ns : List Int}
theorem Al_ints {n : Nat} (l : List Int) (h : l.length ≤ 1000) : Al (n + 2) (cw l) = true := by
  unfold cw Al
  rw [List.length_map, decide_eq_true h, Bool.true_and]
  induction l with
  | nil => rfl
  | cons a l ih =>
    rw [List.map_cons]
    unfold Als
    rw [ih (by simp at h; omega)]
    rfl
theorem Al_rl {n : Nat} {p : Str × Str} (h1 : SeqAt.shaped (.str p.1) = true) (h2 : SeqAt.shaped (.str p.2) = true) : Al (n + 2) (rl p) = true := by
  show (decide (([.str p.1, .str p.2] : List PyData).length ≤ 1000) && Als (n + 1) [.str p.1, .str p.2]) = true
  unfold Als
  rw [show Al (n + 1) (.str p.1) = true from h1]
  unfold Als
  rw [show Al (n + 1) (.str p.2) = true from h2]
  rfl
theorem Al_rls {n : Nat} : ∀ {l : List (Str × Str)}, (∀ p ∈ l, SeqAt.shaped (.str p.1) = true ∧ SeqAt.shaped (.str p.2) = true) → Als (n + 2) (l.map rl) = true
  | [], _ => rfl
  | p :: l, h => by
    rw [List.map_cons]
    unfold Als
    rw [Al_rl (h p List.mem_cons_self).1 (h p List.mem_cons_self).2, Al_rls fun q hq => h q (List.mem_cons_of_mem _ hq)]
    rfl
theorem rowB_snoc : ∀ (ps : List (Str × Str)) (cs : List Int) {c : List Int} {p : Str × Str}, rowB M rs cs ps = some c → canB M rs c p = true → rowB M rs cs (ps ++ [p]) = some (bh M c p)
  | [], cs, c, p, h, hc => by
    cases h
    show (if canB M rs cs p then rowB M rs (bh M cs p) [] else none) = _
    rw [hc]
    rfl
  | q :: ps, cs, c, p, h, hc => by
    rw [List.cons_append]
    unfold rowB at h ⊢
    cases hb : canB M rs cs q with
    | false => rw [hb] at h; cases h
    | true =>
      rw [hb] at h
      simp only [if_true] at h ⊢
      exact rowB_snoc ps (bh M cs q) h hc
theorem at_last {α : Type} (l : List α) (x : α) : L2.atI (l ++ [x]) (-1) = some x := by
  unfold L2.atI L2.ixN
  have h1 : ¬ (0 : Int) ≤ -1 := by omega
  have h2 : -(((l ++ [x]).length : Nat) : Int) ≤ -1 := by simp; omega
  rw [if_neg h1, if_pos h2]
  have h3 : (-1 + (((l ++ [x]).length : Nat) : Int)).toNat = l.length := by simp; omega
  rw [h3]
  simp
/-- all that the law needs of what was drawn -/
structure Dr (M : Str) (rs : List (Str × Str)) (cs : List Int) : Prop where
  mM : M ∈ MOODS
  gr : GR M rs
  lr : rs.length ≤ 8
  bd : Bd M 7 cs
theorem Dr.gd (D : Dr M rs cs) : Gd M rs := fk_gd D.mM D.gr D.lr
theorem Dr.rs_ (D : Dr M rs cs) : Rs M rs := fk_rs D.mM D.gr D.lr
theorem Dr.len (D : Dr M rs cs) : M.length ≤ 6 := (moods_sg M D.mM).2.2
theorem Dr.two2 (D : Dr M rs cs) {p : Str × Str} (hp : p ∈ rs) : p.2.length ≤ 2 := by have := (two_sg D.mM (D.gr.two p hp).2.1).2; omega
/-- one look at the meetings -/
theorem l_first (D : Dr M rs cs) {m : Sto} (h : Fl m) (e : Pd.Env) (h2 : e[2]? = some (some (.d (fk M rs)))) (h3 : e[3]? = some (some (.d (cw cs)))) (h4 : e[4]? = some (some (.d (.list ((usable M rs cs).map rl))))) :
    (Pd.tOr (tV (eBin (pIs false) (eCall 1 F_is_folk (aCons (eVar 2) aNil)) (eC (.bool true)))) (Pd.tNot (tV (eCall 2 F__law_alike (aCons (eLst (aCons (eCall 2 F_meetings (aCons (eVar 2) (aCons (eVar 3) aNil))) (aCons (eCall 2 F_is_at_rest (aCons (eVar 2) (aCons (eVar 3) aNil))) aNil))) (aCons (eLst (aCons (eB qTup (aCons (eVar 4) aNil)) (aCons (eBin pEq (eVar 4) (eLst aNil)) aNil))) aNil)))))) e m = .ok false m := by
  have G := D.gd
  have hc : Cd M cs := D.bd.cd (by decide)
  have hz : rs.length ≤ 16777216 := by have := D.lr; omega
  have e1 := r_folk h (fk M rs) G.tx
  rw [G.good] at e1
  have e2 := r_meetings h G hc hz
  have e3 := r_rest h G hc hz
  rw [← usable_filter] at e2 e3
  have su := fk_us D.mM D.gr cs
  have sh : ∀ p ∈ usable M rs cs, SeqAt.shaped (.str p.1) = true ∧ SeqAt.shaped (.str p.2) = true := fun p hp => D.gr.shs D.mM p (List.mem_filter.mp hp).1
  have lu : (usable M rs cs).length ≤ 8 := Nat.le_trans (List.length_filter_le _ _) D.lr
  generalize usable M rs cs = us at e2 e3 su h4 sh lu
  have hb : (us.map rl).isEmpty = decide (us.length = 0) := by cases us <;> simp
  have al : F__law_alike [.d (.list [.tuple (us.map rl), .bool (decide (us.length = 0))]), .d (.list [.tuple (us.map rl), .bool (decide (us.length = 0))])] m = .ok (.d (.bool true)) m := by
    unfold F__law_alike
    refine alike_refl h 8 _ ?_
    show (decide (2 ≤ 1000) && Als 7 [.tuple (us.map rl), .bool (decide (us.length = 0))]) = true
    unfold Als
    have a1 : Al 7 (.tuple (us.map rl)) = true := by
      show (decide ((us.map rl).length ≤ 1000) && Als 6 (us.map rl)) = true
      rw [List.length_map, decide_eq_true (by omega : us.length ≤ 1000), Al_rls (n := 4) sh]
      rfl
    rw [a1]
    rfl
  have su' : SeqAt.shaped (.list (us.map rl)) = true := su
  have v2 : eVar 2 e m = .ok (.d (fk M rs)) m := by rw [eVar_ap, h2]
  have v3 : eVar 3 e m = .ok (.d (cw cs)) m := by rw [eVar_ap, h3]
  have v4 : eVar 4 e m = .ok (.d (.list (us.map rl))) m := by rw [eVar_ap, h4]
  have x1 : tV (eBin (pIs false) (eCall 1 F_is_folk (aCons (eVar 2) aNil)) (eC (.bool true))) e m = .ok false m := by
    simp [tV_ap, eBin_ap, eCall_ap, aCons_ap, aNil_ap, v2, R.bind, e1, eC_ap, pIs_b, toB_b]
  have x2 : eLst (aCons (eCall 2 F_meetings (aCons (eVar 2) (aCons (eVar 3) aNil))) (aCons (eCall 2 F_is_at_rest (aCons (eVar 2) (aCons (eVar 3) aNil))) aNil)) e m = .ok (.d (.list [.tuple (us.map rl), .bool (decide (us.length = 0))])) m := by
    simp [eLst_ap, eCall_ap, aCons_ap, aNil_ap, v2, v3, R.bind, e2, e3, unWs, unW, sizeLine_eq]
  have x3 : eLst (aCons (eB qTup (aCons (eVar 4) aNil)) (aCons (eBin pEq (eVar 4) (eLst aNil)) aNil)) e m = .ok (.d (.list [.tuple (us.map rl), .bool (decide (us.length = 0))])) m := by
    rw [← hb]
    simp [eLst_ap, eB_ap, eBin_ap, aCons_ap, aNil_ap, v4, R.bind, qTup_l, unWs, unW, sizeLine_eq, pEq_d, su', sh_nil, ev_nil]
  rw [tOr_ap, x1]
  simp only [R.bind, Bool.false_eq_true, if_false, tNot_ap, tV_ap, eCall_ap, aCons_ap, x2, x3, aNil_ap, List.length_cons, List.length_nil, if_true, Nat.reduceAdd]
  simp only [al, R.bind, toB_b, Bool.not_true]
end
end K00

set_option Elab.async false
set_option linter.all false
set_option maxRecDepth 100000
set_option maxHeartbeats 2000000
namespace K00
open PySem Pd
section
variable {M : Str} {rs : List (Str × Str)} {cs : List Int} {ns : List Int}
abbrev env (ns : List Int) (M : Str) (rs : List (Str × Str)) (cs : List Int) (w4 w5 w6 w7 w8 w9 w10 w11 w12 w13 w14 w15 : Option W) : Pd.Env :=
  [some (.d (.list (ns.map .int))), some (.loc 0), some (.d (fk M rs)), some (.d (cw cs)), w4, w5, w6, w7, w8, w9, w10, w11, w12, w13, w14, w15]
theorem al_cw {m : Sto} (h : Fl m) (l : List Int) (hl : l.length ≤ 1000) : F__law_alike [.d (cw l), .d (cw l)] m = .ok (.d (.bool true)) m := by
  unfold F__law_alike
  exact alike_refl h 8 _ (Al_ints (n := 6) l hl)
theorem bh_len (D : Dr M rs cs) {c : List Int} (hc : c.length = M.length) (p : Str × Str) : (bh M c p).length ≤ 1000 := by
  have h1 : (bh M c p).length = M.length := by simp [bh, hc, nums_len]
  have := D.len
  omega
abbrev bodyG : FS := sIf (Pd.tNot (tV (eCall 2 F__law_alike (aCons (eCall 3 F_met (aCons (eVar 2) (aCons (eVar 3) (aCons (eVar 5) aNil)))) (aCons (eCall 3 F__law_behind (aCons (eVar 2) (aCons (eVar 3) (aCons (eVar 5) aNil)))) aNil))))) (sRet (eC (.bool false))) sNil
theorem l_good (D : Dr M rs cs) {m : Sto} (h : Fl m) {p : Str × Str} (hp : p ∈ usable M rs cs) (e : Pd.Env) (h2 : e[2]? = some (some (.d (fk M rs)))) (h3 : e[3]? = some (some (.d (cw cs)))) (h5 : e[5]? = some (some (.d (rl p)))) : bodyG e m = .nx e m := by
  have hp' : p ∈ rs := (List.mem_filter.mp hp).1
  have hu : canB M rs cs p = true := by rw [← usable_can]; exact List.contains_iff_mem.mpr hp
  have hs := (D.bd.step hu (D.two2 hp')).small (by decide)
  have e1 := r_met h D.gd (D.bd.cd (by decide)) p hp' hu hs
  have e2 := q_behind (cs := cs) h D.rs_ p hp'
  have e3 := al_cw h (bh M cs p) (bh_len D D.bd.len p)
  have v2 : eVar 2 e m = .ok (.d (fk M rs)) m := by rw [eVar_ap, h2]
  have v3 : eVar 3 e m = .ok (.d (cw cs)) m := by rw [eVar_ap, h3]
  have v5 : eVar 5 e m = .ok (.d (rl p)) m := by rw [eVar_ap, h5]
  simp [bodyG, sIf_ap, tNot_ap, tV_ap, eCall_ap, aCons_ap, aNil_ap, v2, v3, v5, R.bind, e1, e2, e3, toB_b, ofR, sNil_ap]
/-- all good meetings are met -/
theorem l_goods (D : Dr M rs cs) {m : Sto} (h : Fl m) : ∃ w5, loopF (gN 5) bodyG ((usable M rs cs).map fun p => W.d (rl p)) (env ns M rs cs (some (.d (.list ((usable M rs cs).map rl)))) none none none none none none none none none none none) m =
    .nx (env ns M rs cs (some (.d (.list ((usable M rs cs).map rl)))) w5 none none none none none none none none none none) m := by
  obtain ⟨e', m', h1, ⟨w5, rfl⟩, rfl⟩ := loopF_inv (tg := gN 5) (body := bodyG) (N := (usable M rs cs).length) (Inv := fun _ e m' => (∃ w5, e = env ns M rs cs (some (.d (.list ((usable M rs cs).map rl)))) w5 none none none none none none none none none none) ∧ m' = m)
    (ws := (usable M rs cs).map fun p => W.d (rl p)) (k := 0) (e := env ns M rs cs (some (.d (.list ((usable M rs cs).map rl)))) none none none none none none none none none none none) (m := m) (by simp) (fun w hw k e m' hk i => by
      obtain ⟨⟨w5, rfl⟩, rfl⟩ := i
      obtain ⟨p, hp, rfl⟩ := List.mem_map.mp hw
      exact ⟨_, rfl, _, _, l_good D h hp _ rfl rfl rfl, ⟨_, rfl⟩, rfl⟩) ⟨⟨none, rfl⟩, rfl⟩
  exact ⟨w5, h1⟩
abbrev bodyT : FS := (sSeq (sSet 12 (eCall 2 F__law_usable (aCons (eVar 2) (aCons (eVar 10) aNil)))) (sIf (tV (eBin pNe (eVar 12) (eLst aNil))) (sSeq (sExpr (eMl qApp (eVar 11) (aCons (eCall 2 F__law_pick (aCons (eVar 1) (aCons (eVar 12) aNil))) aNil))) (sSet 10 (eCall 3 F__law_behind (aCons (eVar 2) (aCons (eVar 10) (aCons (eBin pIx (eVar 11) (eNeg (eC (.int 1)))) aNil)))))) sNil))
def InvT (ns : List Int) (M : Str) (rs : List (Str × Str)) (cs : List Int) (w4 w5 : Option W) (k : Nat) (e : Pd.Env) (m : Sto) : Prop :=
  ∃ now told w6 w12, e = env ns M rs cs w4 w5 w6 none none none (some (.d (cw now))) (some (.loc 1)) w12 none none none ∧ Rw ns [lR told] m ∧ rowB M rs cs told = some now ∧ Bd M (7 + 2 * k) now ∧ (∀ p ∈ told, p ∈ rs) ∧ told.length ≤ k
theorem l_turn (D : Dr M rs cs) {w4 w5 : Option W} {k : Nat} (hk : k < 10) {e : Pd.Env} {m : Sto} (i : InvT ns M rs cs w4 w5 k e m) (w : W) : ∃ e2 m2, bodyT (e.set 6 (some w)) m = .nx e2 m2 ∧ InvT ns M rs cs w4 w5 (k + 1) e2 m2 := by
  obtain ⟨now, told, w6, w12, rfl, r, hr, hb, ht, hl⟩ := i
  have h := r.flR
  have e1 := q_usable (cs := now) h D.rs_
  have su : SeqAt.shaped (.list ((usable M rs now).map rl)) = true := fk_us D.mM D.gr now
  show ∃ e2 m2, bodyT (env ns M rs cs w4 w5 (some w) none none none (some (.d (cw now))) (some (.loc 1)) w12 none none none) m = .nx e2 m2 ∧ _
  have step : ∀ Y : FS, sSeq (sSet 12 (eCall 2 F__law_usable (aCons (eVar 2) (aCons (eVar 10) aNil)))) Y (env ns M rs cs w4 w5 (some w) none none none (some (.d (cw now))) (some (.loc 1)) w12 none none none) m =
      Y (env ns M rs cs w4 w5 (some w) none none none (some (.d (cw now))) (some (.loc 1)) (some (.d (.list ((usable M rs now).map rl)))) none none none) m := fun Y => by
    simp [sSeq_ap, sSet_ap, eCall_ap, aCons_ap, aNil_ap, eVar_ap, R.bind, e1, ofR, env]
  unfold bodyT
  rw [step]
  generalize he : env ns M rs cs w4 w5 (some w) none none none (some (.d (cw now))) (some (.loc 1)) (some (.d (.list ((usable M rs now).map rl)))) none none none = en
  have v1 : ∀ m, eVar 1 en m = .ok (.loc 0) m := fun m => by rw [← he]; rfl
  have v2 : ∀ m, eVar 2 en m = .ok (.d (fk M rs)) m := fun m => by rw [← he]; rfl
  have v10 : ∀ m, eVar 10 en m = .ok (.d (cw now)) m := fun m => by rw [← he]; rfl
  have v11 : ∀ m, eVar 11 en m = .ok (.loc 1) m := fun m => by rw [← he]; rfl
  have v12 : ∀ m, eVar 12 en m = .ok (.d (.list ((usable M rs now).map rl))) m := fun m => by rw [← he]; rfl
  have q1 : tV (eBin pNe (eVar 12) (eLst aNil)) en m = .ok (!((usable M rs now).map rl).isEmpty) m := by
    simp [tV_ap, eBin_ap, v12, R.bind, eLst_ap, aNil_ap, unWs, sizeLine_eq, pNe_d, su, sh_nil, ev_nil, toB_b]
  cases hus : usable M rs now with
  | nil =>
    rw [hus] at q1
    refine ⟨en, m, ?_, now, told, some w, some (.d (.list ((usable M rs now).map rl))), he.symm, r, hr, hb.mono (by omega), ht, by omega⟩
    rw [sIf_ap, q1]
    rfl
  | cons p0 us0 =>
    rw [hus] at q1
    have lu : (usable M rs now).length ≤ 8 := Nat.le_trans (List.length_filter_le _ _) D.lr
    have l0 : 0 < ((usable M rs now).map rl).length := by rw [hus]; simp
    obtain ⟨d, m1, e2, r1, f1, hd⟩ := g_pick r h ((usable M rs now).map rl) (.list ((usable M rs now).map rl)) (.inl rfl) l0 (by rw [List.length_map]; omega)
    obtain ⟨p, hp, rfl⟩ := List.mem_map.mp hd
    have hp' : p ∈ rs := (List.mem_filter.mp hp).1
    have hu : canB M rs now p = true := by rw [← usable_can]; exact List.contains_iff_mem.mpr hp
    have hg : m[1]? = some (Cell.lst (told.map fun p => W.d (rl p))) := r.get
    have hg1 : m1[1]? = some (Cell.lst (told.map fun p => W.d (rl p))) := r1.get
    have hl' : told.length < 16777216 := by omega
    have q2 : eMl qApp (eVar 11) (aCons (eCall 2 F__law_pick (aCons (eVar 1) (aCons (eVar 12) aNil))) aNil) en m = .ok (.d .none) (m1.set 1 (lR (told ++ [p]))) := by
      simp [eMl_ap, v11, R.bind, hg, aCons_ap, eCall_ap, v1, v12, aNil_ap, e2, qApp, hg1, sizeLine_eq, hl', stSet, lR]
    have r2 : Rw ns [lR (told ++ [p])] (m1.set 1 (lR (told ++ [p]))) := r1.set
    have hg2 : (m1.set 1 (lR (told ++ [p])))[1]? = some (Cell.lst ((told ++ [p]).map fun p => W.d (rl p))) := r2.get
    have e3 := q_behind (cs := now) r2.flR D.rs_ p hp'
    have q3 : eBin pIx (eVar 11) (eNeg (eC (.int 1))) en (m1.set 1 (lR (told ++ [p]))) = .ok (.d (rl p)) (m1.set 1 (lR (told ++ [p]))) := by
      have a1 : L2.atI ((told ++ [p]).map fun p => W.d (rl p)) (-1) = some (W.d (rl p)) := by
        rw [List.map_append]
        exact at_last _ _
      rw [eBin_ap, v11]
      simp only [R.bind, eNeg_ap, eC_ap]
      rw [pIx_loc _ _ _ hg2, a1]
    refine ⟨en.set 10 (some (.d (cw (bh M now p)))), m1.set 1 (lR (told ++ [p])), ?_, bh M now p, told ++ [p], some w, some (.d (.list ((usable M rs now).map rl))), ?_, r2, rowB_snoc told cs hr hu, (hb.step hu (D.two2 hp')).mono (by omega), fun q hq => ?_, by simp; omega⟩
    · rw [sIf_ap, q1]
      simp only [ofR, List.map_cons, List.isEmpty_cons, Bool.not_false, if_true, sSeq_ap, sExpr_ap, q2, sSet_ap, eCall_ap, aCons_ap, v2, v10, q3, aNil_ap, R.bind, List.length_cons, List.length_nil, Nat.reduceAdd, e3]
    · rw [← he]
      rfl
    · rcases List.mem_append.mp hq with z | z
      · exact ht q z
      · have : q = p := by simpa using z
        rw [this]; exact hp'
end
end K00

set_option Elab.async false
set_option linter.all false
set_option maxRecDepth 100000
set_option maxHeartbeats 4000000
namespace K00
open PySem Pd
section
variable {M : Str} {rs : List (Str × Str)} {cs : List Int} {ns : List Int}
/-! ### what is no folk -/
def odd1 (M : Str) (rs : List (Str × Str)) : List PyData := [.none, .tuple [], .list [.str M, .tuple (rs.map rl)], .tuple [.str M], .tuple [.str "", .tuple []], .tuple [.str "ba", .tuple []], .tuple [.str "aa", .tuple []], .tuple [.str "abcdefg", .tuple []], .tuple [.str M, .list (rs.map rl)], .tuple [.str "ab", .tuple [.tuple [.str "ba", .str "aa"]]], .int 3]
def odd2 : List PyData := [.tuple [.str "ab", .tuple [.tuple [.str "ab", .str "ab"]]], .tuple [.str "ab", .tuple [.tuple [.str "a", .str "b"]]], .tuple [.str "ab", .tuple [.tuple [.str "ac", .str "bb"]]], .tuple [.str "ab", .tuple [.list [.str "ab", .str "aa"]]], .tuple [.str "ab", .tuple [.tuple [.str "ab", .str "aa"], .tuple [.str "ab", .str "aa"]]]]
def odd3 (M : Str) : List PyData := [.tuple [.str "ab", .tuple [.tuple [.str "ab"]]], .tuple [.str M, .int 3], .tuple [.str "A", .tuple []], .tuple [.str "ab", .tuple [.str "ab", .str "aa"]]]
theorem bad_folk (x : PyData) (M : Str) (h : areRules M x = false) : isFolk (.tuple [.str M, x]) = false := by
  show (areMoods (.str M) && areRules M x) = false
  rw [h, Bool.and_false]
theorem tx_M (D : Dr M rs cs) : TxT (.str M) = true := txt_ok (by have := D.len; omega) (sh_str (moods_sg M D.mM).1)
theorem tx_rs (D : Dr M rs cs) : TxTs (rs.map rl) = true := by
  have st := D.gr.shs D.mM
  exact txs_rl fun p hp => ⟨txt_ok (by have := (two_sg D.mM (D.gr.two p hp).1).2; omega) (st p hp).1, txt_ok (by have := (two_sg D.mM (D.gr.two p hp).2.1).2; omega) (st p hp).2⟩
theorem odd_bad (D : Dr M rs cs) : ∀ v ∈ odd1 M rs ++ odd2 ++ odd3 M, isFolk v = false ∧ TxT v = true := by
  have k1 : (([.none, .tuple [], .tuple [.str "", .tuple []], .tuple [.str "ba", .tuple []], .tuple [.str "aa", .tuple []], .tuple [.str "abcdefg", .tuple []], .tuple [.str "ab", .tuple [.tuple [.str "ba", .str "aa"]]], .int 3, .tuple [.str "ab", .tuple [.tuple [.str "ab"]]], .tuple [.str "A", .tuple []], .tuple [.str "ab", .tuple [.str "ab", .str "aa"]]] ++ odd2 : List PyData).all fun v => !isFolk v && TxT v) = true := by decide +kernel
  have k2 := fun v hv => List.all_eq_true.mp k1 v hv
  simp only [Bool.and_eq_true, Bool.not_eq_true'] at k2
  have tM := tx_M D
  have tR := tx_rs D
  have tl : TxT (.list (rs.map rl)) = true := tR
  have tt : TxT (.tuple (rs.map rl)) = true := tR
  have t2 : ∀ a b : PyData, TxT a = true → TxT b = true → TxTs [a, b] = true := fun a b h1 h2 => by
    unfold TxTs
    rw [h1]
    unfold TxTs
    rw [h2]
    rfl
  have t1 : TxTs [.str M] = true := by
    unfold TxTs
    rw [tM]
    rfl
  intro v hv
  rcases List.mem_append.mp hv with hv | hv
  · rcases List.mem_append.mp hv with hv | hv
    · simp only [odd1, List.mem_cons, List.not_mem_nil, or_false] at hv
      rcases hv with rfl | rfl | rfl | rfl | rfl | rfl | rfl | rfl | rfl | rfl | rfl
      · exact k2 _ (by simp)
      · exact k2 _ (by simp)
      · exact ⟨rfl, t2 _ _ tM tt⟩
      · exact ⟨rfl, t1⟩
      · exact k2 _ (by simp)
      · exact k2 _ (by simp)
      · exact k2 _ (by simp)
      · exact k2 _ (by simp)
      · exact ⟨bad_folk _ _ rfl, t2 _ _ tM tl⟩
      · exact k2 _ (by simp)
      · exact k2 _ (by simp)
    · exact k2 _ (List.mem_append_right _ hv)
  · simp only [odd3, List.mem_cons, List.not_mem_nil, or_false] at hv
    rcases hv with rfl | rfl | rfl | rfl
    · exact k2 _ (by simp)
    · exact ⟨bad_folk _ _ rfl, t2 _ _ tM rfl⟩
    · exact k2 _ (by simp)
    · exact k2 _ (by simp)
theorem l_last (D : Dr M rs cs) {m : Sto} (h : Fl m) (e : Pd.Env) (h9 : e[9]? = some (some (.d (.list (odd1 M rs ++ odd2))))) (h13 : e[13]? = some (some (.d (.str M)))) (h15 : e.length = 16) : eBin pEq (eLc [15] (iSeq (eBin pPlus (eVar 9) (eLst (aCons (eTup (aCons (eC (.str "ab")) (aCons (eTup (aCons (eTup (aCons (eC (.str "ab")) aNil)) aNil)) aNil))) (aCons (eTup (aCons (eVar 13) (aCons (eC (.int 3)) aNil))) (aCons (eTup (aCons (eC (.str "A")) (aCons (eTup aNil) aNil))) (aCons (eTup (aCons (eC (.str "ab")) (aCons (eTup (aCons (eC (.str "ab")) (aCons (eC (.str "aa")) aNil))) aNil))) aNil))))))) (gN 15) (tV (eBin (pIs false) (eCall 1 F_is_folk (aCons (eVar 15) aNil)) (eC (.bool false)))) (eVar 15)) (eLst aNil) e m = .ok (.d (.bool true)) m := by
  have q1 : iSeq (eBin pPlus (eVar 9) (eLst (aCons (eTup (aCons (eC (.str "ab")) (aCons (eTup (aCons (eTup (aCons (eC (.str "ab")) aNil)) aNil)) aNil))) (aCons (eTup (aCons (eVar 13) (aCons (eC (.int 3)) aNil))) (aCons (eTup (aCons (eC (.str "A")) (aCons (eTup aNil) aNil))) (aCons (eTup (aCons (eC (.str "ab")) (aCons (eTup (aCons (eC (.str "ab")) (aCons (eC (.str "aa")) aNil))) aNil))) aNil)))))) e m = .ok ((odd1 M rs ++ odd2 ++ odd3 M).map W.d) m := by
    have c1 : (odd1 M rs ++ odd2).length + 4 ≤ 16777216 := by show 16 + 4 ≤ 16777216; decide
    simp [iSeq_ap, eBin_ap, eVar_ap, h9, h13, eLst_ap, aCons_ap, eTup_ap, eC_ap, aNil_ap, R.bind, unWs, unW, sizeLine_eq, pPlus_l, pCatL, odd3] at c1 ⊢
    simp [c1]
  have hb := odd_bad D
  have ll : (odd1 M rs ++ odd2 ++ odd3 M).length ≤ sizeLine := by rw [sizeLine_eq]; show 20 ≤ 16777216; decide
  generalize odd1 M rs ++ odd2 ++ odd3 M = l at q1 hb ll
  rw [eBin_ap, eLc_map (g0 := W.d) (l := l) (m1 := m) (c := fun _ => false) (g := fun _ => .none) q1 (fun v hv => ⟨_, rfl, ?_, fun z => by cases z⟩) ll]
  · have ff : l.filter (fun _ => false) = [] := List.filter_eq_nil_iff.mpr fun _ _ => by simp
    rw [ff]
    simp [R.bind, eLst_ap, aNil_ap, unWs, sizeLine_eq, pEq_d, sh_nil, ev_nil]
  · have e1 := r_folk h v (hb v hv).2
    rw [(hb v hv).1] at e1
    have v15 : eVar 15 ((wipeE e [15]).set 15 (some (.d v))) m = .ok (.d v) m := by
      have hl : 15 < e.length := by omega
      simp [eVar_ap, wipeE, hl]
    simp [tV_ap, eBin_ap, eCall_ap, aCons_ap, aNil_ap, v15, R.bind, e1, eC_ap, pIs_b, toB_b]
/-! ### the law -/
theorem rule_len (D : Dr M rs cs) {ps : List (Str × Str)} (hp : ∀ p ∈ ps, p ∈ rs) : ∀ p ∈ ps, p.2.length ≤ 2 := fun p h => D.two2 (hp p h)
theorem rule_sh (D : Dr M rs cs) {ps : List (Str × Str)} (hp : ∀ p ∈ ps, p ∈ rs) : ∀ p ∈ ps, Shp (rl p) := fun p h => D.gd.ok.sh p (hp p h)
/-- a row of the law's own choice -/
theorem l_some (D : Dr M rs cs) {c : Cell} {m : Sto} (r : Rw ns [c] m) (hfl : ∀ m, Rw ns [c] m → Fl m) (e : Pd.Env) (h1 : e[1]? = some (some (.loc 0))) (h2 : e[2]? = some (some (.d (fk M rs)))) (h15 : e.length = 16) :
    ∃ (ps : List (Str × Str)) (m' : Sto), (eIf (tV (eBin pNe (eBin pIx (eVar 2) (eC (.int 1))) (eTup aNil))) (eB qTup (aCons (eLc [6] (iRg1 (aCons (eCall 2 F__law_taken (aCons (eVar 1) (aCons (eC (.int 4)) aNil))) aNil)) (gN 6) fYes (eCall 2 F__law_pick (aCons (eVar 1) (aCons (eB qList (aCons (eBin pIx (eVar 2) (eC (.int 1))) aNil)) aNil)))) aNil)) (eTup aNil)) e m = .ok (.d (.tuple (ps.map rl))) m' ∧ Rw ns [c] m' ∧ (∀ p ∈ ps, p ∈ rs) ∧ ps.length ≤ 3 := by
  have v1 : ∀ m, eVar 1 e m = .ok (.loc 0) m := fun m => by rw [eVar_ap, h1]
  have v2 : ∀ m, eVar 2 e m = .ok (.d (fk M rs)) m := fun m => by rw [eVar_ap, h2]
  have st : SeqAt.shaped (.tuple (rs.map rl)) = true := D.gd.ok.shs
  have sn : SeqAt.shaped (.tuple []) = true := rfl
  have en : PyData.eqv (.tuple (rs.map rl)) (.tuple []) = rs.isEmpty := by cases rs <;> rfl
  have q0 : tV (eBin pNe (eBin pIx (eVar 2) (eC (.int 1))) (eTup aNil)) e m = .ok (!rs.isEmpty) m := by
    simp [tV_ap, eBin_ap, v2, R.bind, eC_ap, ix_fk1, eTup_ap, aNil_ap, unWs, sizeLine_eq, pNe_d, st, sn, en, toB_b]
  cases hrs : rs with
  | nil =>
    refine ⟨[], m, ?_, r, fun p h => (by cases h), Nat.zero_le _⟩
    rw [hrs] at q0
    rw [eIf_ap, q0]
    simp [R.bind, eTup_ap, aNil_ap, unWs, sizeLine_eq]
  | cons p0 rs0 =>
    rw [← hrs]
    have l8 := D.lr
    have l0 : 0 < rs.length := by rw [hrs]; simp
    obtain ⟨n, m1, e1, r1, f1, hn⟩ := g_taken r (hfl m r) 4 (by decide)
    have it : iRg1 (aCons (eCall 2 F__law_taken (aCons (eVar 1) (aCons (eC (.int 4)) aNil))) aNil) e m = .ok ((List.range n).map fun i => W.d (.int (0 + (i : Nat)))) m1 := by
      refine iRg1_n n (by omega) _ _ m m1 ?_
      simp [aCons_ap, eCall_ap, v1, eC_ap, aNil_ap, R.bind, e1]
    obtain ⟨ds, m2, e2, l2, p2, r2⟩ := loopC_inv (tg := gN 6) (tt := fYes) (f := eCall 2 F__law_pick (aCons (eVar 1) (aCons (eB qList (aCons (eBin pIx (eVar 2) (eC (.int 1))) aNil)) aNil))) (e := wipeE e [6]) (Inv := fun m => Rw ns [c] m) (P := fun d => ∃ p, p ∈ rs ∧ d = rl p) (ws := (List.range n).map fun i => W.d (.int (0 + (i : Nat)))) (acc := []) (m := m1) (fun w hw m i => by
      obtain ⟨d, m', e4, r4, f4, i4⟩ := g_pick i (hfl m i) (rs.map rl) (.list (rs.map rl)) (.inl rfl) (by rw [List.length_map]; exact l0) (by rw [List.length_map]; omega)
      obtain ⟨p, hp, rfl⟩ := List.mem_map.mp i4
      have h1' : ((wipeE e [6]).set 6 (some w))[1]? = some (some (.loc 0)) := by simp [wipeE, h1]
      have h2' : ((wipeE e [6]).set 6 (some w))[2]? = some (some (.d (fk M rs))) := by simp [wipeE, h2]
      exact ⟨_, _, m', rfl, rfl, by simp [eCall_ap, aCons_ap, eVar_ap, h1', h2', eC_ap, eBin_ap, eB_ap, aNil_ap, R.bind, ix_fk1, qList_t, e4], r4, p, hp, rfl⟩) (by rw [sizeLine_eq]; simp; omega) r1
    have hi : ∃ ps : List (Str × Str), ds = ps.map rl ∧ ∀ p ∈ ps, p ∈ rs := by
      clear e2 l2
      induction ds with
      | nil => exact ⟨[], rfl, fun c h => (by cases h)⟩
      | cons d ds ih =>
        obtain ⟨p, hp, rfl⟩ := p2 d List.mem_cons_self
        obtain ⟨l, rfl, hl⟩ := ih fun x hx => p2 x (List.mem_cons_of_mem _ hx)
        exact ⟨p :: l, rfl, fun x hx => by
          rcases List.mem_cons.mp hx with rfl | hx
          · exact hp
          · exact hl x hx⟩
    obtain ⟨ps, rfl, hps⟩ := hi
    refine ⟨ps, m2, ?_, r2, hps, by simp at l2; omega⟩
    have q1 : eLc [6] (iRg1 (aCons (eCall 2 F__law_taken (aCons (eVar 1) (aCons (eC (.int 4)) aNil))) aNil)) (gN 6) fYes (eCall 2 F__law_pick (aCons (eVar 1) (aCons (eB qList (aCons (eBin pIx (eVar 2) (eC (.int 1))) aNil)) aNil))) e m = .ok (.d (.list (ps.map rl))) m2 := by
      rw [eLc_ap, it]
      simp only [R.bind]
      rw [e2]
      rfl
    rw [eIf_ap, q0, hrs]
    simp only [R.bind, List.isEmpty_cons, Bool.not_false, if_true, eB_ap, aCons_ap, q1, aNil_ap, qTup_l]
/-- the row of the law's own choice is led, or not -/
theorem l_try (D : Dr M rs cs) {m : Sto} (h : Fl m) {ps : List (Str × Str)} (hp : ∀ p ∈ ps, p ∈ rs) (hl : ps.length ≤ 3) (e : Pd.Env) (h2 : e[2]? = some (some (.d (fk M rs)))) (h3 : e[3]? = some (some (.d (cw cs)))) (h7 : e[7]? = some (some (.d (.tuple (ps.map rl)))))
    (h8 : e[8]? = some (some (.d (match rowB M rs cs ps with | some c => cw c | none => .none)))) :
    sTry "BadRow" [] (sIf (Pd.tOr (Pd.tNot (tV (eCall 2 F__law_alike (aCons (eCall 3 F_met_all (aCons (eVar 2) (aCons (eVar 3) (aCons (eVar 7) aNil)))) (aCons (eVar 8) aNil))))) (tV (eBin (pIs true) (eVar 8) (eC .none)))) (sRet (eC (.bool false))) sNil) (sIf (tV (eBin (pIs false) (eVar 8) (eC .none))) (sRet (eC (.bool false))) sNil) e m = .nx e m := by
  have hb := fun c hr => Bd.row (M := M) (rs := rs) ps cs D.bd (rule_len D hp) c hr
  have e1 := r_metall h D.gd (D.bd.cd (by decide)) ps (rule_sh D hp) fun c hr => (hb c hr).small (by omega)
  have v2 : eVar 2 e m = .ok (.d (fk M rs)) m := by rw [eVar_ap, h2]
  have v3 : eVar 3 e m = .ok (.d (cw cs)) m := by rw [eVar_ap, h3]
  have v7 : eVar 7 e m = .ok (.d (.tuple (ps.map rl))) m := by rw [eVar_ap, h7]
  cases hr : rowB M rs cs ps with
  | some c =>
    rw [hr] at e1 h8
    simp only at e1 h8
    have v8 : eVar 8 e m = .ok (.d (cw c)) m := by rw [eVar_ap, h8]
    have e2 := al_cw h c (by have := (hb c hr).len; have := D.len; omega)
    have e6 : pIs true (.d (cw c)) (.d .none) m = .ok (.d (.bool false)) m := rfl
    simp [sTry_ap, sIf_ap, tOr_ap, tNot_ap, tV_ap, eCall_ap, aCons_ap, aNil_ap, eBin_ap, eC_ap, v2, v3, v7, v8, R.bind, e1, e2, e6, toB_b, ofR, sNil_ap]
  | none =>
    rw [hr] at e1 h8
    simp only at e1 h8
    have v8 : eVar 8 e m = .ok (.d .none) m := by rw [eVar_ap, h8]
    simp [sTry_ap, sIf_ap, tOr_ap, tNot_ap, tV_ap, eCall_ap, aCons_ap, aNil_ap, eBin_ap, eC_ap, v2, v3, v7, v8, R.bind, e1, pIs_n, toB_b, ofR, sNil_ap, noXS]
end
end K00

set_option Elab.async false
set_option linter.all false
set_option maxRecDepth 100000
set_option maxHeartbeats 4000000
namespace K00
open PySem Pd
theorem law_true (ns : List Int) (hl : ns.length ≤ 63) (hb : ∀ z ∈ ns, Builtin.Int.intBits z ≤ 1048576) : ∃ m', F_law [.d (.list (ns.map PyData.int))] [] = .ok (.d (.bool true)) m' := by
  have r0 : Rw ns [] [rc ns 0 7500 0] := ⟨0, 7500, 0, rfl, by decide, by decide⟩
  obtain ⟨M, rs, m1, e1, r1, hM, g, l8⟩ := g_folk r0
  obtain ⟨t, m2, e2, r2, tc, tl⟩ := g_crowd r1 hM rs
  have D : Dr M rs (cntL M t) := ⟨hM, g, l8, cnt_bd tl⟩
  generalize cntL M t = cs at e2 D
  have h2 := r2.fl0
  have e3 := q_usable (cs := cs) h2 D.rs_
  obtain ⟨w5, e4⟩ := l_goods (ns := ns) D h2
  obtain ⟨r3, l2⟩ := r2.new (d := lR [])
  obtain ⟨n, m4, e5, r4, f4, hn⟩ := g_taken r3 r3.flR 6 (by decide)
  obtain ⟨e6, m6, e6h, now, told, w6, w12, rfl, r6, hr6, b6, ht6, l6⟩ := loopF_inv (tg := gN 6) (body := bodyT) (N := n) (Inv := InvT ns M rs cs (some (.d (.list ((usable M rs cs).map rl)))) w5) (ws := (List.range n).map fun i => W.d (.int (0 + (i : Nat)))) (k := 0)
    (e := env ns M rs cs (some (.d (.list ((usable M rs cs).map rl)))) w5 none none none none (some (.d (cw cs))) (some (.loc 1)) none none none none) (m := m4) (by simp)
    (fun w hw' k e m hk i => ⟨_, rfl, l_turn D (by omega) i w⟩) ⟨cs, [], none, none, rfl, r4, rfl, D.bd.mono (by decide), fun p hp => (by cases hp), Nat.le_refl _⟩
  have h6 := r6.flR
  have e7 := r_metall h6 D.gd (D.bd.cd (by decide)) told (rule_sh D ht6) fun c hr => (Bd.row told cs D.bd (rule_len D ht6) c hr).small (by omega)
  rw [hr6] at e7
  simp only at e7
  have e8 := al_cw h6 now (by have := b6.len; have := D.len; omega)
  have hg6 : m6[1]? = some (Cell.lst (told.map fun p => W.d (rl p))) := r6.get
  have qt := qTup_loc (told.map rl) 1 m6 hg6 (un_rl told)
  obtain ⟨ps, m7, e9, r7, hps, l7⟩ := l_some D r6 (fun m r => r.flR) (env ns M rs cs (some (.d (.list ((usable M rs cs).map rl)))) w5 w6 none none none (some (.d (cw now))) (some (.loc 1)) w12 none none none) rfl rfl rfl
  have h7 := r7.flR
  have e10 := q_led (cs := cs) h7 D.rs_ (fk_us D.mM D.gr) ps (rule_sh D hps)
  have e11 := l_try D h7 hps l7 (env ns M rs cs (some (.d (.list ((usable M rs cs).map rl)))) w5 w6 (some (.d (.tuple (ps.map rl)))) (some (.d (match rowB M rs cs ps with | some c => cw c | none => .none))) none (some (.d (cw now))) (some (.loc 1)) w12 none none none) rfl rfl rfl rfl
  have e12 := l_last D h7 (env ns M rs cs (some (.d (.list ((usable M rs cs).map rl)))) w5 w6 (some (.d (.tuple (ps.map rl)))) (some (.d (match rowB M rs cs ps with | some c => cw c | none => .none))) (some (.d (.list (odd1 M rs ++ odd2)))) (some (.d (cw now))) (some (.loc 1)) w12 (some (.d (.str M))) (some (.d (.tuple (rs.map rl)))) none) rfl rfl rfl
  generalize hdue : (match rowB M rs cs ps with | some c => cw c | none => PyData.none) = due at e10 e11 e12
  have e13 := l_first D h2 (env ns M rs cs (some (.d (.list ((usable M rs cs).map rl)))) none none none none none none none none none none none) rfl rfl rfl
  have e10' : F__law_led [.d (fk M rs), .d (cw cs), .d (.tuple (ps.map rl))] m7 = .ok (.d due) m7 := by
    rw [e10, ← hdue]
    all_goals (cases rowB M rs cs ps <;> rfl)
  refine ⟨[], ?_⟩
  have s1 : ∀ Y : FS, sSeq (sSet 1 (eLstM (aCons (eVar 0) (aCons (eC (.int 0)) (aCons (eC (.int 7500)) (aCons (eC (.int 0)) aNil)))))) Y (startE 16 [.d (.list (ns.map .int))]) [] = Y [some (.d (.list (ns.map .int))), some (.loc 0), none, none, none, none, none, none, none, none, none, none, none, none, none, none] [rc ns 0 7500 0] := fun Y => by
    simp [sSeq_ap, sSet_ap, eLstM_ap, aCons_ap, eVar_ap, eC_ap, aNil_ap, R.bind, startE, sizeLine_eq, ofR, rc]
  have s2 : ∀ Y : FS, sSeq (sSet 2 (eCall 2 F__law_folk (aCons (eVar 1) (aCons (eC (.int 8)) aNil)))) Y [some (.d (.list (ns.map .int))), some (.loc 0), none, none, none, none, none, none, none, none, none, none, none, none, none, none] [rc ns 0 7500 0] = Y [some (.d (.list (ns.map .int))), some (.loc 0), some (.d (fk M rs)), none, none, none, none, none, none, none, none, none, none, none, none, none] m1 := fun Y => by
    simp [sSeq_ap, sSet_ap, eCall_ap, aCons_ap, eVar_ap, eC_ap, aNil_ap, R.bind, e1, ofR]
  have s3 : ∀ Y : FS, sSeq (sSet 3 (eCall 3 F__law_crowd (aCons (eVar 1) (aCons (eVar 2) (aCons (eC (.int 7)) aNil))))) Y [some (.d (.list (ns.map .int))), some (.loc 0), some (.d (fk M rs)), none, none, none, none, none, none, none, none, none, none, none, none, none] m1 = Y (env ns M rs cs none none none none none none none none none none none none) m2 := fun Y => by
    simp [sSeq_ap, sSet_ap, eCall_ap, aCons_ap, eVar_ap, eC_ap, aNil_ap, R.bind, e2, ofR]
  have s4 : ∀ Y : FS, sSeq (sSet 4 (eCall 2 F__law_usable (aCons (eVar 2) (aCons (eVar 3) aNil)))) Y (env ns M rs cs none none none none none none none none none none none none) m2 = Y (env ns M rs cs (some (.d (.list ((usable M rs cs).map rl)))) none none none none none none none none none none none) m2 := fun Y => by
    simp [sSeq_ap, sSet_ap, eCall_ap, aCons_ap, eVar_ap, aNil_ap, R.bind, e3, ofR]
  have s5 : ∀ (Z Y : FS), sSeq (sIf (Pd.tOr (tV (eBin (pIs false) (eCall 1 F_is_folk (aCons (eVar 2) aNil)) (eC (.bool true)))) (Pd.tNot (tV (eCall 2 F__law_alike (aCons (eLst (aCons (eCall 2 F_meetings (aCons (eVar 2) (aCons (eVar 3) aNil))) (aCons (eCall 2 F_is_at_rest (aCons (eVar 2) (aCons (eVar 3) aNil))) aNil))) (aCons (eLst (aCons (eB qTup (aCons (eVar 4) aNil)) (aCons (eBin pEq (eVar 4) (eLst aNil)) aNil))) aNil)))))) Z sNil) Y (env ns M rs cs (some (.d (.list ((usable M rs cs).map rl)))) none none none none none none none none none none none) m2 = Y (env ns M rs cs (some (.d (.list ((usable M rs cs).map rl)))) none none none none none none none none none none none) m2 := fun Z Y => by
    rw [sSeq_ap, sIf_ap, e13]
    rfl
  have i6 : iSeq (eVar 4) (env ns M rs cs (some (.d (.list ((usable M rs cs).map rl)))) none none none none none none none none none none none) m2 = .ok ((usable M rs cs).map fun p => W.d (rl p)) m2 := by
    simp [iSeq_ap, eVar_ap, R.bind]
  have s6 : ∀ Y : FS, sSeq (sFor (iSeq (eVar 4)) (gN 5) bodyG) Y (env ns M rs cs (some (.d (.list ((usable M rs cs).map rl)))) none none none none none none none none none none none) m2 = Y (env ns M rs cs (some (.d (.list ((usable M rs cs).map rl)))) w5 none none none none none none none none none none) m2 := fun Y => by
    rw [sSeq_ap, sFor_ap, i6]
    simp only [ofR]
    rw [e4]
  have s7 : ∀ Y : FS, sSeq (sPar 10 11 (aCons (eVar 3) (aCons (eLstM aNil) aNil))) Y (env ns M rs cs (some (.d (.list ((usable M rs cs).map rl)))) w5 none none none none none none none none none none) m2 = Y (env ns M rs cs (some (.d (.list ((usable M rs cs).map rl)))) w5 none none none none (some (.d (cw cs))) (some (.loc 1)) none none none none) (m2 ++ [lR []]) := fun Y => by
    simp [sSeq_ap, sPar_ap, aCons_ap, eVar_ap, aNil_ap, eLstM_ap, R.bind, l2, ofR, lR]
  have i8 : iRg1 (aCons (eCall 2 F__law_taken (aCons (eVar 1) (aCons (eC (.int 6)) aNil))) aNil) (env ns M rs cs (some (.d (.list ((usable M rs cs).map rl)))) w5 none none none none (some (.d (cw cs))) (some (.loc 1)) none none none none) (m2 ++ [lR []]) = .ok ((List.range n).map fun i => W.d (.int (0 + (i : Nat)))) m4 := by
    refine iRg1_n n (by omega) _ _ _ m4 ?_
    simp [aCons_ap, eCall_ap, eVar_ap, eC_ap, aNil_ap, R.bind, e5]
  have s8 : ∀ Y : FS, sSeq (sFor (iRg1 (aCons (eCall 2 F__law_taken (aCons (eVar 1) (aCons (eC (.int 6)) aNil))) aNil)) (gN 6) bodyT) Y (env ns M rs cs (some (.d (.list ((usable M rs cs).map rl)))) w5 none none none none (some (.d (cw cs))) (some (.loc 1)) none none none none) (m2 ++ [lR []]) = Y (env ns M rs cs (some (.d (.list ((usable M rs cs).map rl)))) w5 w6 none none none (some (.d (cw now))) (some (.loc 1)) w12 none none none) m6 := fun Y => by
    rw [sSeq_ap, sFor_ap, i8]
    simp only [ofR]
    rw [e6h]
  have s9 : ∀ (Z Y : FS), sSeq (sIf (Pd.tNot (tV (eCall 2 F__law_alike (aCons (eCall 3 F_met_all (aCons (eVar 2) (aCons (eVar 3) (aCons (eB qTup (aCons (eVar 11) aNil)) aNil)))) (aCons (eVar 10) aNil))))) Z sNil) Y (env ns M rs cs (some (.d (.list ((usable M rs cs).map rl)))) w5 w6 none none none (some (.d (cw now))) (some (.loc 1)) w12 none none none) m6 = Y (env ns M rs cs (some (.d (.list ((usable M rs cs).map rl)))) w5 w6 none none none (some (.d (cw now))) (some (.loc 1)) w12 none none none) m6 := fun Z Y => by
    simp [sSeq_ap, sIf_ap, tNot_ap, tV_ap, eCall_ap, aCons_ap, eVar_ap, aNil_ap, eB_ap, R.bind, qt, e7, e8, toB_b, ofR, sNil_ap]
  have s10 : ∀ Y : FS, sSeq (sSet 7 (eIf (tV (eBin pNe (eBin pIx (eVar 2) (eC (.int 1))) (eTup aNil))) (eB qTup (aCons (eLc [6] (iRg1 (aCons (eCall 2 F__law_taken (aCons (eVar 1) (aCons (eC (.int 4)) aNil))) aNil)) (gN 6) fYes (eCall 2 F__law_pick (aCons (eVar 1) (aCons (eB qList (aCons (eBin pIx (eVar 2) (eC (.int 1))) aNil)) aNil)))) aNil)) (eTup aNil))) Y (env ns M rs cs (some (.d (.list ((usable M rs cs).map rl)))) w5 w6 none none none (some (.d (cw now))) (some (.loc 1)) w12 none none none) m6 = Y (env ns M rs cs (some (.d (.list ((usable M rs cs).map rl)))) w5 w6 (some (.d (.tuple (ps.map rl)))) none none (some (.d (cw now))) (some (.loc 1)) w12 none none none) m7 := fun Y => by
    rw [sSeq_ap, sSet_ap, e9]
    rfl
  have s11 : ∀ Y : FS, sSeq (sSet 8 (eCall 3 F__law_led (aCons (eVar 2) (aCons (eVar 3) (aCons (eVar 7) aNil))))) Y (env ns M rs cs (some (.d (.list ((usable M rs cs).map rl)))) w5 w6 (some (.d (.tuple (ps.map rl)))) none none (some (.d (cw now))) (some (.loc 1)) w12 none none none) m7 = Y (env ns M rs cs (some (.d (.list ((usable M rs cs).map rl)))) w5 w6 (some (.d (.tuple (ps.map rl)))) (some (.d due)) none (some (.d (cw now))) (some (.loc 1)) w12 none none none) m7 := fun Y => by
    simp [sSeq_ap, sSet_ap, eCall_ap, aCons_ap, eVar_ap, aNil_ap, R.bind, e10', ofR]
  have s12 : ∀ Y : FS, sSeq (sTry "BadRow" [] (sIf (Pd.tOr (Pd.tNot (tV (eCall 2 F__law_alike (aCons (eCall 3 F_met_all (aCons (eVar 2) (aCons (eVar 3) (aCons (eVar 7) aNil)))) (aCons (eVar 8) aNil))))) (tV (eBin (pIs true) (eVar 8) (eC .none)))) (sRet (eC (.bool false))) sNil) (sIf (tV (eBin (pIs false) (eVar 8) (eC .none))) (sRet (eC (.bool false))) sNil)) Y (env ns M rs cs (some (.d (.list ((usable M rs cs).map rl)))) w5 w6 (some (.d (.tuple (ps.map rl)))) (some (.d due)) none (some (.d (cw now))) (some (.loc 1)) w12 none none none) m7 = Y (env ns M rs cs (some (.d (.list ((usable M rs cs).map rl)))) w5 w6 (some (.d (.tuple (ps.map rl)))) (some (.d due)) none (some (.d (cw now))) (some (.loc 1)) w12 none none none) m7 := fun Y => by
    rw [sSeq_ap, e11]
  have s13 : ∀ Y : FS, sSeq (sAsg (eVar 2) (gT 2 (gsCons (gN 13) (gsCons (gN 14) gsNil)))) Y (env ns M rs cs (some (.d (.list ((usable M rs cs).map rl)))) w5 w6 (some (.d (.tuple (ps.map rl)))) (some (.d due)) none (some (.d (cw now))) (some (.loc 1)) w12 none none none) m7 = Y (env ns M rs cs (some (.d (.list ((usable M rs cs).map rl)))) w5 w6 (some (.d (.tuple (ps.map rl)))) (some (.d due)) none (some (.d (cw now))) (some (.loc 1)) w12 (some (.d (.str M))) (some (.d (.tuple (rs.map rl)))) none) m7 := fun Y => by
    simp [sSeq_ap, sAsg_ap, eVar_ap, ofR, gT, gsCons, gsNil, gN, fk] <;> rfl
  have s14 : ∀ Y : FS, sSeq (sSet 9 (eLst (aCons (eC .none) (aCons (eTup aNil) (aCons (eLst (aCons (eVar 13) (aCons (eVar 14) aNil))) (aCons (eTup (aCons (eVar 13) aNil)) (aCons (eTup (aCons (eC (.str "")) (aCons (eTup aNil) aNil))) (aCons (eTup (aCons (eC (.str "ba")) (aCons (eTup aNil) aNil))) (aCons (eTup (aCons (eC (.str "aa")) (aCons (eTup aNil) aNil))) (aCons (eTup (aCons (eC (.str "abcdefg")) (aCons (eTup aNil) aNil))) (aCons (eTup (aCons (eVar 13) (aCons (eB qList (aCons (eVar 14) aNil)) aNil))) (aCons (eTup (aCons (eC (.str "ab")) (aCons (eTup (aCons (eTup (aCons (eC (.str "ba")) (aCons (eC (.str "aa")) aNil))) aNil)) aNil))) (aCons (eC (.int 3)) aNil))))))))))))) Y (env ns M rs cs (some (.d (.list ((usable M rs cs).map rl)))) w5 w6 (some (.d (.tuple (ps.map rl)))) (some (.d due)) none (some (.d (cw now))) (some (.loc 1)) w12 (some (.d (.str M))) (some (.d (.tuple (rs.map rl)))) none) m7 = Y (env ns M rs cs (some (.d (.list ((usable M rs cs).map rl)))) w5 w6 (some (.d (.tuple (ps.map rl)))) (some (.d due)) (some (.d (.list (odd1 M rs)))) (some (.d (cw now))) (some (.loc 1)) w12 (some (.d (.str M))) (some (.d (.tuple (rs.map rl)))) none) m7 := fun Y => by
    simp [sSeq_ap, sSet_ap, eLst_ap, eTup_ap, eB_ap, eC_ap, aCons_ap, eVar_ap, aNil_ap, R.bind, unWs, unW, sizeLine_eq, qList_t, ofR, odd1]
  have s15 : ∀ Y : FS, sSeq (sSet 9 (eBin pPlus (eVar 9) (eLst (aCons (eTup (aCons (eC (.str "ab")) (aCons (eTup (aCons (eTup (aCons (eC (.str "ab")) (aCons (eC (.str "ab")) aNil))) aNil)) aNil))) (aCons (eTup (aCons (eC (.str "ab")) (aCons (eTup (aCons (eTup (aCons (eC (.str "a")) (aCons (eC (.str "b")) aNil))) aNil)) aNil))) (aCons (eTup (aCons (eC (.str "ab")) (aCons (eTup (aCons (eTup (aCons (eC (.str "ac")) (aCons (eC (.str "bb")) aNil))) aNil)) aNil))) (aCons (eTup (aCons (eC (.str "ab")) (aCons (eTup (aCons (eLst (aCons (eC (.str "ab")) (aCons (eC (.str "aa")) aNil))) aNil)) aNil))) (aCons (eTup (aCons (eC (.str "ab")) (aCons (eTup (aCons (eTup (aCons (eC (.str "ab")) (aCons (eC (.str "aa")) aNil))) (aCons (eTup (aCons (eC (.str "ab")) (aCons (eC (.str "aa")) aNil))) aNil))) aNil))) aNil)))))))) Y (env ns M rs cs (some (.d (.list ((usable M rs cs).map rl)))) w5 w6 (some (.d (.tuple (ps.map rl)))) (some (.d due)) (some (.d (.list (odd1 M rs)))) (some (.d (cw now))) (some (.loc 1)) w12 (some (.d (.str M))) (some (.d (.tuple (rs.map rl)))) none) m7 = Y (env ns M rs cs (some (.d (.list ((usable M rs cs).map rl)))) w5 w6 (some (.d (.tuple (ps.map rl)))) (some (.d due)) (some (.d (.list (odd1 M rs ++ odd2)))) (some (.d (cw now))) (some (.loc 1)) w12 (some (.d (.str M))) (some (.d (.tuple (rs.map rl)))) none) m7 := fun Y => by
    have c1 : (odd1 M rs).length + 5 ≤ 16777216 := by show 11 + 5 ≤ 16777216; decide
    simp [sSeq_ap, sSet_ap, eBin_ap, eLst_ap, eTup_ap, eC_ap, aCons_ap, eVar_ap, aNil_ap, R.bind, unWs, unW, sizeLine_eq, pPlus_l, pCatL, c1, ofR, odd2]
  have st : startE 16 [W.d (.list (ns.map .int))] = startE 16 [W.d (.list (ns.map .int))] := rfl
  have fin : ∀ w, dEnd 0 (.rt (.d w) m7) = .ok (.d w) [] := fun w => by
    obtain ⟨k, s, b, rfl, _⟩ := r7
    rfl
  unfold F_law
  rw [runD_ap]
  unfold fs_law
  rw [s1, s2, s3, s4, s5, s6, s7, s8, s9, s10, s11, s12, s13, s14, s15, sRet_ap, e12]
  exact fin _
end K00

set_option Elab.async false
set_option linter.all false
set_option maxRecDepth 100000
set_option maxHeartbeats 0
namespace K00
open PySem PySem.Spec PyProof.Rows L2 Pd
def d_is_pair : He.DefD := ⟨("is_pair", none), "is_pair", "is_pair", defArgs s_is_pair, defBody s_is_pair, defScope s_is_pair, [], []⟩
def d_are_moods : He.DefD := ⟨("are_moods", none), "are_moods", "are_moods", defArgs s_are_moods, defBody s_are_moods, defScope s_are_moods, [], []⟩
def d_are_two : He.DefD := ⟨("are_two", none), "are_two", "are_two", defArgs s_are_two, defBody s_are_two, defScope s_are_two, [], []⟩
def d_is_rule : He.DefD := ⟨("is_rule", none), "is_rule", "is_rule", defArgs s_is_rule, defBody s_is_rule, defScope s_is_rule, [], []⟩
def d_are_rules : He.DefD := ⟨("are_rules", none), "are_rules", "are_rules", defArgs s_are_rules, defBody s_are_rules, defScope s_are_rules, [], []⟩
def d_is_folk : He.DefD := ⟨("is_folk", none), "is_folk", "is_folk", defArgs s_is_folk, defBody s_is_folk, defScope s_is_folk, [], []⟩
def d_demand_folk : He.DefD := ⟨("demand_folk", none), "demand_folk", "demand_folk", defArgs s_demand_folk, defBody s_demand_folk, defScope s_demand_folk, [], []⟩
def d_is_integer : He.DefD := ⟨("is_integer", none), "is_integer", "is_integer", defArgs s_is_integer, defBody s_is_integer, defScope s_is_integer, [], []⟩
def d_is_crowd : He.DefD := ⟨("is_crowd", none), "is_crowd", "is_crowd", defArgs s_is_crowd, defBody s_is_crowd, defScope s_is_crowd, [], []⟩
def d_demand_crowd : He.DefD := ⟨("demand_crowd", none), "demand_crowd", "demand_crowd", defArgs s_demand_crowd, defBody s_demand_crowd, defScope s_demand_crowd, [], []⟩
def d_numbers_of : He.DefD := ⟨("numbers_of", none), "numbers_of", "numbers_of", defArgs s_numbers_of, defBody s_numbers_of, defScope s_numbers_of, [], []⟩
def d_can_be_used : He.DefD := ⟨("can_be_used", none), "can_be_used", "can_be_used", defArgs s_can_be_used, defBody s_can_be_used, defScope s_can_be_used, [], []⟩
def d_meetings : He.DefD := ⟨("meetings", none), "meetings", "meetings", defArgs s_meetings, defBody s_meetings, defScope s_meetings, [], []⟩
def d_demand_room : He.DefD := ⟨("demand_room", none), "demand_room", "demand_room", defArgs s_demand_room, defBody s_demand_room, defScope s_demand_room, [], []⟩
def d_behind_rule : He.DefD := ⟨("behind_rule", none), "behind_rule", "behind_rule", defArgs s_behind_rule, defBody s_behind_rule, defScope s_behind_rule, [], []⟩
def d_met : He.DefD := ⟨("met", none), "met", "met", defArgs s_met, defBody s_met, defScope s_met, [], []⟩
def d_is_at_rest : He.DefD := ⟨("is_at_rest", none), "is_at_rest", "is_at_rest", defArgs s_is_at_rest, defBody s_is_at_rest, defScope s_is_at_rest, [], []⟩
def d_behind_row : He.DefD := ⟨("behind_row", none), "behind_row", "behind_row", defArgs s_behind_row, defBody s_behind_row, defScope s_behind_row, [], []⟩
def d_met_all : He.DefD := ⟨("met_all", none), "met_all", "met_all", defArgs s_met_all, defBody s_met_all, defScope s_met_all, [], []⟩
def d__law_taken : He.DefD := ⟨("_law_taken", none), "_law_taken", "_law_taken", defArgs s__law_taken, defBody s__law_taken, defScope s__law_taken, [], []⟩
def d__law_pick : He.DefD := ⟨("_law_pick", none), "_law_pick", "_law_pick", defArgs s__law_pick, defBody s__law_pick, defScope s__law_pick, [], []⟩
def d__law_alike : He.DefD := ⟨("_law_alike", none), "_law_alike", "_law_alike", defArgs s__law_alike, defBody s__law_alike, defScope s__law_alike, [], []⟩
def d__law_two : He.DefD := ⟨("_law_two", none), "_law_two", "_law_two", defArgs s__law_two, defBody s__law_two, defScope s__law_two, [], []⟩
def d__law_moods : He.DefD := ⟨("_law_moods", none), "_law_moods", "_law_moods", defArgs s__law_moods, defBody s__law_moods, defScope s__law_moods, [], []⟩
def d__law_weight : He.DefD := ⟨("_law_weight", none), "_law_weight", "_law_weight", defArgs s__law_weight, defBody s__law_weight, defScope s__law_weight, [], []⟩
def d__law_folk : He.DefD := ⟨("_law_folk", none), "_law_folk", "_law_folk", defArgs s__law_folk, defBody s__law_folk, defScope s__law_folk, [], []⟩
def d__law_counts : He.DefD := ⟨("_law_counts", none), "_law_counts", "_law_counts", defArgs s__law_counts, defBody s__law_counts, defScope s__law_counts, [], []⟩
def d__law_usable : He.DefD := ⟨("_law_usable", none), "_law_usable", "_law_usable", defArgs s__law_usable, defBody s__law_usable, defScope s__law_usable, [], []⟩
def d__law_behind : He.DefD := ⟨("_law_behind", none), "_law_behind", "_law_behind", defArgs s__law_behind, defBody s__law_behind, defScope s__law_behind, [], []⟩
def d__law_led : He.DefD := ⟨("_law_led", none), "_law_led", "_law_led", defArgs s__law_led, defBody s__law_led, defScope s__law_led, [], []⟩
def d__law_crowd : He.DefD := ⟨("_law_crowd", none), "_law_crowd", "_law_crowd", defArgs s__law_crowd, defBody s__law_crowd, defScope s__law_crowd, [], []⟩
def d_law : He.DefD := ⟨("law", none), "law", "law", defArgs s_law, defBody s_law, defScope s_law, [], []⟩
def fnL : List He.DefD := [d_is_pair, d_are_moods, d_are_two, d_is_rule, d_are_rules, d_is_folk, d_demand_folk, d_is_integer, d_is_crowd, d_demand_crowd, d_numbers_of, d_can_be_used, d_meetings, d_demand_room, d_behind_rule, d_met, d_is_at_rest, d_behind_row, d_met_all, d__law_taken, d__law_pick, d__law_alike, d__law_two, d__law_moods, d__law_weight, d__law_folk, d__law_counts, d__law_usable, d__law_behind, d__law_led, d__law_crowd, d_law]
def faL : List He.Fa := ([.glo "is_pair", .glo "are_moods", .glo "are_two", .glo "is_rule", .glo "are_rules", .glo "is_folk", .glo "demand_folk", .glo "is_integer", .glo "is_crowd", .glo "demand_crowd", .glo "numbers_of", .glo "can_be_used", .glo "meetings", .glo "demand_room", .glo "behind_rule", .glo "met", .glo "is_at_rest", .glo "behind_row", .glo "met_all", .glo "_law_taken", .glo "_law_pick", .glo "_law_alike", .glo "_law_two", .glo "_law_moods", .glo "_law_weight", .glo "_law_folk", .glo "_law_counts", .glo "_law_usable", .glo "_law_behind", .glo "_law_led"] : List He.Fa)
  ++ ([.glo "_law_crowd", .glo "law", .free "all", .free "any", .free "bool", .free "dict", .free "int", .free "isinstance", .free "len", .free "list", .free "range", .free "set", .free "sorted", .free "str", .free "sum", .free "tuple", .free "zip", .int "MOST_IN_A_MOOD" (10000000000000000000000000000000000000000), .int "MOST_MOODS" (6), .int "MOST_RULES" (12), .glo "BadCrowd", .glo "BadFolk", .glo "BadRow", .glo "BadRule", .glo "TooGreat", .keep "BadCrowd", .keep "BadFolk", .keep "BadRow", .keep "BadRule", .keep "TooGreat"] : List He.Fa)
  ++ ([.exm "BadCrowd" "BadCrowd" true, .exm "BadFolk" "BadFolk" true, .exm "BadRow" "BadRow" true, .exm "BadRule" "BadRule" true, .exm "TooGreat" "TooGreat" true] : List He.Fa)
def tfL : List He.Defn := [("are_moods", none), ("are_rules", none), ("is_crowd", none), ("can_be_used", none), ("demand_room", none)]
/-- an own error: its chain -/
def bsX (K : PySem.W.Frag) : List Value := He.veBase
def exX (x : Str) (K : PySem.W.Frag) : Bool := PySem.W.excIn K (He.ga K x) (bsX K) "ValueError.__new__" && (decide (PySem.W.subIn K (.ref (He.ga K x)) (.type "BaseException") = some true) && decide (PySem.W.typeIn K (.ref (He.ga K x)) = some (.type "type")))
def exL : List Str := ["BadCrowd", "BadFolk", "BadRow", "BadRule", "TooGreat"]
def exB (K : PySem.W.Frag) : Bool := exL.all fun x => exX x K
abbrev Rr : PySem.W.OpenRow := PySem.W.OpenLaw.row PySem.Challenge.rw_meetfolk_k00_whole_meetings
abbrev hkX : PySem.W.Hook := He.hookX 4 faL fnL [] tfL exB
def obF (s : PySem.W.SharedT) : He.AlX := He.obsX 4 faL fnL [] tfL exB (HandSHeadRun.getT s)
theorem obF_eq (s : PySem.W.SharedT) : obF s = hkX.obs s.abs := He.obsX_eq (HandSHeadRun.getT_eq s)
def looseL : List PySem.Str := (["FolkError", "BadFolk", "BadCrowd", "BadRule", "BadRow", "TooGreat", "MOST_MOODS", "MOST_RULES", "MOST_IN_A_MOOD", "is_integer", "is_pair", "are_moods", "are_two", "is_rule", "are_rules", "is_folk", "is_crowd", "demand_folk", "demand_crowd", "demand_room"] : List PySem.Str)
  ++ (["numbers_of", "can_be_used", "behind_rule", "behind_row", "meetings", "met", "is_at_rest", "met_all", "_law_taken", "_law_pick", "_law_alike", "_law_two", "_law_moods", "_law_folk", "_law_weight", "_law_counts", "_law_usable", "_law_behind", "_law_led", "_law_crowd"] : List PySem.Str)
theorem runF (w : World) : HandSHeadRun.RunEq Rr (PySem.W.view Rr.prog [43]) hkX obF 20000 looseL w := by
  intro os
  kernel_rfl
end K00

set_option Elab.async false
set_option linter.all false
set_option maxRecDepth 100000
set_option maxHeartbeats 0
namespace K00
open PySem PySem.Spec PyProof.Rows L2 Pd
section
variable {w : World} {K : PySem.W.Frag} {h : Heap} {mg : Str → Option Value} {base : Heap}
def DdK (K : PySem.W.Frag) (fd0 : FuncData) (x : Str) : FuncData := match K.lookup (He.fAd K (x, none)) with
  | some ⟨_, _, .func fd, _⟩ => fd
  | _ => fd0
theorem ddK {fd0 fd : FuncData} {x qual : Str} {params : Arguments} {body : List Stmt} {scope : Scope} {dvs : List V} {kws : List (Str × V)} (F : FunD K x qual params body scope dvs kws (He.fAd K (x, none)) fd) : DdK K fd0 x = fd := by
  obtain ⟨oc, od, dV, kV, doc, pm, an, cdv, ct, osl, rfl, lk, _⟩ := F.ex
  unfold DdK
  rw [lk]
theorem codeK {fd : FuncData} {x qual : Str} {params : Arguments} {body : List Stmt} {scope : Scope} {dvs : List V} {kws : List (Str × V)} (F : FunD K x qual params body scope dvs kws (He.fAd K (x, none)) fd) : fd.code = .ref (He.cT K (x, none)).1 := by
  obtain ⟨oc, od, dV, kV, doc, pm, an, cdv, ct, osl, rfl, lk, hcd, _⟩ := F.ex
  obtain ⟨c, rfl⟩ := He.codeIn_ref hcd
  have := He.codeOf_eq (p := (x, none)) lk (c := c) rfl
  show Value.ref c = .ref (He.codeOf K (x, none))
  rw [this]
theorem excK {x : Str} (c : He.SaysX faL fnL [] tfL exB w h K) (hx : x ∈ exL) : exX x K = true := by
  have := c.more
  unfold exB at this
  exact List.all_eq_true.mp this x hx
theorem excP {x : Str} (c : exX x K = true) : (∃ bmB B newId initId, ExcBaseFacts B newId initId bmB ∧ PySem.W.excIn K (He.ga K x) bmB newId = true) ∧ PySem.W.subIn K (.ref (He.ga K x)) (.type "BaseException") = some true ∧ PySem.W.typeIn K (.ref (He.ga K x)) = some (.type "type") := by
  unfold exX at c
  rw [Bool.and_eq_true, Bool.and_eq_true] at c
  obtain ⟨c1, c2, c3⟩ := c
  have F := PySem.F.excBase_ValueError
  exact ⟨⟨_, _, _, _, F, c1⟩, of_decide_eq_true c2, of_decide_eq_true c3⟩
theorem txt (X : K.In h) (G : h.Ns mainGlobals mg) (c : He.SaysX faL fnL [] tfL exB w h K) (TB : ∀ p ∈ tfL, GxR.TabB base mg (He.cT K p).1 (He.cT K p).2) : ∃ fd0, Txt K mg base (tfL.map fun p => (He.cT K p).2) (He.ga K) (fun x => He.fAd K (x, none)) (fun x => (He.cT K (x, none)).1) (fun x => (He.cT K (x, none)).2) (DdK K fd0) := by
  obtain ⟨e_is_pair, D_is_pair⟩ := c.t.d.def_ 0 (d := d_is_pair) rfl
  obtain ⟨e_are_moods, D_are_moods⟩ := c.t.d.def_ 1 (d := d_are_moods) rfl
  obtain ⟨e_are_two, D_are_two⟩ := c.t.d.def_ 2 (d := d_are_two) rfl
  obtain ⟨e_is_rule, D_is_rule⟩ := c.t.d.def_ 3 (d := d_is_rule) rfl
  obtain ⟨e_are_rules, D_are_rules⟩ := c.t.d.def_ 4 (d := d_are_rules) rfl
  obtain ⟨e_is_folk, D_is_folk⟩ := c.t.d.def_ 5 (d := d_is_folk) rfl
  obtain ⟨e_demand_folk, D_demand_folk⟩ := c.t.d.def_ 6 (d := d_demand_folk) rfl
  obtain ⟨e_is_integer, D_is_integer⟩ := c.t.d.def_ 7 (d := d_is_integer) rfl
  obtain ⟨e_is_crowd, D_is_crowd⟩ := c.t.d.def_ 8 (d := d_is_crowd) rfl
  obtain ⟨e_demand_crowd, D_demand_crowd⟩ := c.t.d.def_ 9 (d := d_demand_crowd) rfl
  obtain ⟨e_numbers_of, D_numbers_of⟩ := c.t.d.def_ 10 (d := d_numbers_of) rfl
  obtain ⟨e_can_be_used, D_can_be_used⟩ := c.t.d.def_ 11 (d := d_can_be_used) rfl
  obtain ⟨e_meetings, D_meetings⟩ := c.t.d.def_ 12 (d := d_meetings) rfl
  obtain ⟨e_demand_room, D_demand_room⟩ := c.t.d.def_ 13 (d := d_demand_room) rfl
  obtain ⟨e_behind_rule, D_behind_rule⟩ := c.t.d.def_ 14 (d := d_behind_rule) rfl
  obtain ⟨e_met, D_met⟩ := c.t.d.def_ 15 (d := d_met) rfl
  obtain ⟨e_is_at_rest, D_is_at_rest⟩ := c.t.d.def_ 16 (d := d_is_at_rest) rfl
  obtain ⟨e_behind_row, D_behind_row⟩ := c.t.d.def_ 17 (d := d_behind_row) rfl
  obtain ⟨e_met_all, D_met_all⟩ := c.t.d.def_ 18 (d := d_met_all) rfl
  obtain ⟨e__law_taken, D__law_taken⟩ := c.t.d.def_ 19 (d := d__law_taken) rfl
  obtain ⟨e__law_pick, D__law_pick⟩ := c.t.d.def_ 20 (d := d__law_pick) rfl
  obtain ⟨e__law_alike, D__law_alike⟩ := c.t.d.def_ 21 (d := d__law_alike) rfl
  obtain ⟨e__law_two, D__law_two⟩ := c.t.d.def_ 22 (d := d__law_two) rfl
  obtain ⟨e__law_moods, D__law_moods⟩ := c.t.d.def_ 23 (d := d__law_moods) rfl
  obtain ⟨e__law_weight, D__law_weight⟩ := c.t.d.def_ 24 (d := d__law_weight) rfl
  obtain ⟨e__law_folk, D__law_folk⟩ := c.t.d.def_ 25 (d := d__law_folk) rfl
  obtain ⟨e__law_counts, D__law_counts⟩ := c.t.d.def_ 26 (d := d__law_counts) rfl
  obtain ⟨e__law_usable, D__law_usable⟩ := c.t.d.def_ 27 (d := d__law_usable) rfl
  obtain ⟨e__law_behind, D__law_behind⟩ := c.t.d.def_ 28 (d := d__law_behind) rfl
  obtain ⟨e__law_led, D__law_led⟩ := c.t.d.def_ 29 (d := d__law_led) rfl
  obtain ⟨e__law_crowd, D__law_crowd⟩ := c.t.d.def_ 30 (d := d__law_crowd) rfl
  obtain ⟨e_law, D_law⟩ := c.t.d.def_ 31 (d := d_law) rfl
  refine ⟨e_law, ?_⟩
  have q_is_pair : DdK K e_law "is_pair" = e_is_pair := ddK D_is_pair
  have q_are_moods : DdK K e_law "are_moods" = e_are_moods := ddK D_are_moods
  have q_are_two : DdK K e_law "are_two" = e_are_two := ddK D_are_two
  have q_is_rule : DdK K e_law "is_rule" = e_is_rule := ddK D_is_rule
  have q_are_rules : DdK K e_law "are_rules" = e_are_rules := ddK D_are_rules
  have q_is_folk : DdK K e_law "is_folk" = e_is_folk := ddK D_is_folk
  have q_demand_folk : DdK K e_law "demand_folk" = e_demand_folk := ddK D_demand_folk
  have q_is_integer : DdK K e_law "is_integer" = e_is_integer := ddK D_is_integer
  have q_is_crowd : DdK K e_law "is_crowd" = e_is_crowd := ddK D_is_crowd
  have q_demand_crowd : DdK K e_law "demand_crowd" = e_demand_crowd := ddK D_demand_crowd
  have q_numbers_of : DdK K e_law "numbers_of" = e_numbers_of := ddK D_numbers_of
  have q_can_be_used : DdK K e_law "can_be_used" = e_can_be_used := ddK D_can_be_used
  have q_meetings : DdK K e_law "meetings" = e_meetings := ddK D_meetings
  have q_demand_room : DdK K e_law "demand_room" = e_demand_room := ddK D_demand_room
  have q_behind_rule : DdK K e_law "behind_rule" = e_behind_rule := ddK D_behind_rule
  have q_met : DdK K e_law "met" = e_met := ddK D_met
  have q_is_at_rest : DdK K e_law "is_at_rest" = e_is_at_rest := ddK D_is_at_rest
  have q_behind_row : DdK K e_law "behind_row" = e_behind_row := ddK D_behind_row
  have q_met_all : DdK K e_law "met_all" = e_met_all := ddK D_met_all
  have q__law_taken : DdK K e_law "_law_taken" = e__law_taken := ddK D__law_taken
  have q__law_pick : DdK K e_law "_law_pick" = e__law_pick := ddK D__law_pick
  have q__law_alike : DdK K e_law "_law_alike" = e__law_alike := ddK D__law_alike
  have q__law_two : DdK K e_law "_law_two" = e__law_two := ddK D__law_two
  have q__law_moods : DdK K e_law "_law_moods" = e__law_moods := ddK D__law_moods
  have q__law_weight : DdK K e_law "_law_weight" = e__law_weight := ddK D__law_weight
  have q__law_folk : DdK K e_law "_law_folk" = e__law_folk := ddK D__law_folk
  have q__law_counts : DdK K e_law "_law_counts" = e__law_counts := ddK D__law_counts
  have q__law_usable : DdK K e_law "_law_usable" = e__law_usable := ddK D__law_usable
  have q__law_behind : DdK K e_law "_law_behind" = e__law_behind := ddK D__law_behind
  have q__law_led : DdK K e_law "_law_led" = e__law_led := ddK D__law_led
  have q__law_crowd : DdK K e_law "_law_crowd" = e__law_crowd := ddK D__law_crowd
  have q_law : DdK K e_law "law" = e_law := ddK D_law
  constructor
  · exact He.free_ok X G (c.t.d.fact 32 (f := .free "all") rfl)
  · exact He.free_ok X G (c.t.d.fact 33 (f := .free "any") rfl)
  · exact He.free_ok X G (c.t.d.fact 34 (f := .free "bool") rfl)
  · exact He.free_ok X G (c.t.d.fact 35 (f := .free "dict") rfl)
  · exact He.free_ok X G (c.t.d.fact 36 (f := .free "int") rfl)
  · exact He.free_ok X G (c.t.d.fact 37 (f := .free "isinstance") rfl)
  · exact He.free_ok X G (c.t.d.fact 38 (f := .free "len") rfl)
  · exact He.free_ok X G (c.t.d.fact 39 (f := .free "list") rfl)
  · exact He.free_ok X G (c.t.d.fact 40 (f := .free "range") rfl)
  · exact He.free_ok X G (c.t.d.fact 41 (f := .free "set") rfl)
  · exact He.free_ok X G (c.t.d.fact 42 (f := .free "sorted") rfl)
  · exact He.free_ok X G (c.t.d.fact 43 (f := .free "str") rfl)
  · exact He.free_ok X G (c.t.d.fact 44 (f := .free "sum") rfl)
  · exact He.free_ok X G (c.t.d.fact 45 (f := .free "tuple") rfl)
  · exact He.free_ok X G (c.t.d.fact 46 (f := .free "zip") rfl)
  · exact He.int_ok X G (c.t.d.fact 47 (f := .int "MOST_IN_A_MOOD" (10000000000000000000000000000000000000000)) rfl)
  · exact He.int_ok X G (c.t.d.fact 48 (f := .int "MOST_MOODS" (6)) rfl)
  · exact He.int_ok X G (c.t.d.fact 49 (f := .int "MOST_RULES" (12)) rfl)
  · have z := excP (excK (x := "BadCrowd") c (by decide))
    exact ⟨z.1, He.glo_ok X G (c.t.d.fact 50 (f := .glo "BadCrowd") rfl), He.keep_ok (c.t.d.fact 55 (f := .keep "BadCrowd") rfl), z.2.1, z.2.2, He.exm_ok (c.t.d.fact 60 (f := .exm "BadCrowd" "BadCrowd" true) rfl)⟩
  · have z := excP (excK (x := "BadFolk") c (by decide))
    exact ⟨z.1, He.glo_ok X G (c.t.d.fact 51 (f := .glo "BadFolk") rfl), He.keep_ok (c.t.d.fact 56 (f := .keep "BadFolk") rfl), z.2.1, z.2.2, He.exm_ok (c.t.d.fact 61 (f := .exm "BadFolk" "BadFolk" true) rfl)⟩
  · have z := excP (excK (x := "BadRow") c (by decide))
    exact ⟨z.1, He.glo_ok X G (c.t.d.fact 52 (f := .glo "BadRow") rfl), He.keep_ok (c.t.d.fact 57 (f := .keep "BadRow") rfl), z.2.1, z.2.2, He.exm_ok (c.t.d.fact 62 (f := .exm "BadRow" "BadRow" true) rfl)⟩
  · have z := excP (excK (x := "BadRule") c (by decide))
    exact ⟨z.1, He.glo_ok X G (c.t.d.fact 53 (f := .glo "BadRule") rfl), He.keep_ok (c.t.d.fact 58 (f := .keep "BadRule") rfl), z.2.1, z.2.2, He.exm_ok (c.t.d.fact 63 (f := .exm "BadRule" "BadRule" true) rfl)⟩
  · have z := excP (excK (x := "TooGreat") c (by decide))
    exact ⟨z.1, He.glo_ok X G (c.t.d.fact 54 (f := .glo "TooGreat") rfl), He.keep_ok (c.t.d.fact 59 (f := .keep "TooGreat") rfl), z.2.1, z.2.2, He.exm_ok (c.t.d.fact 64 (f := .exm "TooGreat" "TooGreat" true) rfl)⟩
  · show FunD K _ _ _ _ _ [] [] _ (DdK K e_law "is_pair")
    rw [q_is_pair]
    exact D_is_pair
  · exact He.glo_ok X G (c.t.d.fact 0 (f := .glo "is_pair") rfl)
  · show FunD K _ _ _ _ _ [] [] _ (DdK K e_law "are_moods")
    rw [q_are_moods]
    exact D_are_moods
  · exact He.glo_ok X G (c.t.d.fact 1 (f := .glo "are_moods") rfl)
  · refine ⟨?_, TB ("are_moods", none) (by decide), List.mem_map.mpr ⟨("are_moods", none), by decide, rfl⟩⟩
    show (DdK K e_law "are_moods").code = _
    rw [q_are_moods]
    exact codeK D_are_moods
  · show FunD K _ _ _ _ _ [] [] _ (DdK K e_law "are_two")
    rw [q_are_two]
    exact D_are_two
  · exact He.glo_ok X G (c.t.d.fact 2 (f := .glo "are_two") rfl)
  · show FunD K _ _ _ _ _ [] [] _ (DdK K e_law "is_rule")
    rw [q_is_rule]
    exact D_is_rule
  · exact He.glo_ok X G (c.t.d.fact 3 (f := .glo "is_rule") rfl)
  · show FunD K _ _ _ _ _ [] [] _ (DdK K e_law "are_rules")
    rw [q_are_rules]
    exact D_are_rules
  · exact He.glo_ok X G (c.t.d.fact 4 (f := .glo "are_rules") rfl)
  · refine ⟨?_, TB ("are_rules", none) (by decide), List.mem_map.mpr ⟨("are_rules", none), by decide, rfl⟩⟩
    show (DdK K e_law "are_rules").code = _
    rw [q_are_rules]
    exact codeK D_are_rules
  · show FunD K _ _ _ _ _ [] [] _ (DdK K e_law "is_folk")
    rw [q_is_folk]
    exact D_is_folk
  · exact He.glo_ok X G (c.t.d.fact 5 (f := .glo "is_folk") rfl)
  · show FunD K _ _ _ _ _ [] [] _ (DdK K e_law "demand_folk")
    rw [q_demand_folk]
    exact D_demand_folk
  · exact He.glo_ok X G (c.t.d.fact 6 (f := .glo "demand_folk") rfl)
  · show FunD K _ _ _ _ _ [] [] _ (DdK K e_law "is_integer")
    rw [q_is_integer]
    exact D_is_integer
  · exact He.glo_ok X G (c.t.d.fact 7 (f := .glo "is_integer") rfl)
  · show FunD K _ _ _ _ _ [] [] _ (DdK K e_law "is_crowd")
    rw [q_is_crowd]
    exact D_is_crowd
  · exact He.glo_ok X G (c.t.d.fact 8 (f := .glo "is_crowd") rfl)
  · refine ⟨?_, TB ("is_crowd", none) (by decide), List.mem_map.mpr ⟨("is_crowd", none), by decide, rfl⟩⟩
    show (DdK K e_law "is_crowd").code = _
    rw [q_is_crowd]
    exact codeK D_is_crowd
  · show FunD K _ _ _ _ _ [] [] _ (DdK K e_law "demand_crowd")
    rw [q_demand_crowd]
    exact D_demand_crowd
  · exact He.glo_ok X G (c.t.d.fact 9 (f := .glo "demand_crowd") rfl)
  · show FunD K _ _ _ _ _ [] [] _ (DdK K e_law "numbers_of")
    rw [q_numbers_of]
    exact D_numbers_of
  · exact He.glo_ok X G (c.t.d.fact 10 (f := .glo "numbers_of") rfl)
  · show FunD K _ _ _ _ _ [] [] _ (DdK K e_law "can_be_used")
    rw [q_can_be_used]
    exact D_can_be_used
  · exact He.glo_ok X G (c.t.d.fact 11 (f := .glo "can_be_used") rfl)
  · refine ⟨?_, TB ("can_be_used", none) (by decide), List.mem_map.mpr ⟨("can_be_used", none), by decide, rfl⟩⟩
    show (DdK K e_law "can_be_used").code = _
    rw [q_can_be_used]
    exact codeK D_can_be_used
  · show FunD K _ _ _ _ _ [] [] _ (DdK K e_law "meetings")
    rw [q_meetings]
    exact D_meetings
  · exact He.glo_ok X G (c.t.d.fact 12 (f := .glo "meetings") rfl)
  · show FunD K _ _ _ _ _ [] [] _ (DdK K e_law "demand_room")
    rw [q_demand_room]
    exact D_demand_room
  · exact He.glo_ok X G (c.t.d.fact 13 (f := .glo "demand_room") rfl)
  · refine ⟨?_, TB ("demand_room", none) (by decide), List.mem_map.mpr ⟨("demand_room", none), by decide, rfl⟩⟩
    show (DdK K e_law "demand_room").code = _
    rw [q_demand_room]
    exact codeK D_demand_room
  · show FunD K _ _ _ _ _ [] [] _ (DdK K e_law "behind_rule")
    rw [q_behind_rule]
    exact D_behind_rule
  · exact He.glo_ok X G (c.t.d.fact 14 (f := .glo "behind_rule") rfl)
  · show FunD K _ _ _ _ _ [] [] _ (DdK K e_law "met")
    rw [q_met]
    exact D_met
  · exact He.glo_ok X G (c.t.d.fact 15 (f := .glo "met") rfl)
  · show FunD K _ _ _ _ _ [] [] _ (DdK K e_law "is_at_rest")
    rw [q_is_at_rest]
    exact D_is_at_rest
  · exact He.glo_ok X G (c.t.d.fact 16 (f := .glo "is_at_rest") rfl)
  · show FunD K _ _ _ _ _ [] [] _ (DdK K e_law "behind_row")
    rw [q_behind_row]
    exact D_behind_row
  · exact He.glo_ok X G (c.t.d.fact 17 (f := .glo "behind_row") rfl)
  · show FunD K _ _ _ _ _ [] [] _ (DdK K e_law "met_all")
    rw [q_met_all]
    exact D_met_all
  · exact He.glo_ok X G (c.t.d.fact 18 (f := .glo "met_all") rfl)
  · show FunD K _ _ _ _ _ [] [] _ (DdK K e_law "_law_taken")
    rw [q__law_taken]
    exact D__law_taken
  · exact He.glo_ok X G (c.t.d.fact 19 (f := .glo "_law_taken") rfl)
  · show FunD K _ _ _ _ _ [] [] _ (DdK K e_law "_law_pick")
    rw [q__law_pick]
    exact D__law_pick
  · exact He.glo_ok X G (c.t.d.fact 20 (f := .glo "_law_pick") rfl)
  · show FunD K _ _ _ _ _ [] [] _ (DdK K e_law "_law_alike")
    rw [q__law_alike]
    exact D__law_alike
  · exact He.glo_ok X G (c.t.d.fact 21 (f := .glo "_law_alike") rfl)
  · show FunD K _ _ _ _ _ [] [] _ (DdK K e_law "_law_two")
    rw [q__law_two]
    exact D__law_two
  · exact He.glo_ok X G (c.t.d.fact 22 (f := .glo "_law_two") rfl)
  · show FunD K _ _ _ _ _ [] [] _ (DdK K e_law "_law_moods")
    rw [q__law_moods]
    exact D__law_moods
  · exact He.glo_ok X G (c.t.d.fact 23 (f := .glo "_law_moods") rfl)
  · show FunD K _ _ _ _ _ [] [] _ (DdK K e_law "_law_weight")
    rw [q__law_weight]
    exact D__law_weight
  · exact He.glo_ok X G (c.t.d.fact 24 (f := .glo "_law_weight") rfl)
  · show FunD K _ _ _ _ _ [] [] _ (DdK K e_law "_law_folk")
    rw [q__law_folk]
    exact D__law_folk
  · exact He.glo_ok X G (c.t.d.fact 25 (f := .glo "_law_folk") rfl)
  · show FunD K _ _ _ _ _ [] [] _ (DdK K e_law "_law_counts")
    rw [q__law_counts]
    exact D__law_counts
  · exact He.glo_ok X G (c.t.d.fact 26 (f := .glo "_law_counts") rfl)
  · show FunD K _ _ _ _ _ [] [] _ (DdK K e_law "_law_usable")
    rw [q__law_usable]
    exact D__law_usable
  · exact He.glo_ok X G (c.t.d.fact 27 (f := .glo "_law_usable") rfl)
  · show FunD K _ _ _ _ _ [] [] _ (DdK K e_law "_law_behind")
    rw [q__law_behind]
    exact D__law_behind
  · exact He.glo_ok X G (c.t.d.fact 28 (f := .glo "_law_behind") rfl)
  · show FunD K _ _ _ _ _ [] [] _ (DdK K e_law "_law_led")
    rw [q__law_led]
    exact D__law_led
  · exact He.glo_ok X G (c.t.d.fact 29 (f := .glo "_law_led") rfl)
  · show FunD K _ _ _ _ _ [] [] _ (DdK K e_law "_law_crowd")
    rw [q__law_crowd]
    exact D__law_crowd
  · exact He.glo_ok X G (c.t.d.fact 30 (f := .glo "_law_crowd") rfl)
  · show FunD K _ _ _ _ _ [] [] _ (DdK K e_law "law")
    rw [q_law]
    exact D_law
  · exact He.glo_ok X G (c.t.d.fact 31 (f := .glo "law") rfl)
end
end K00
open PySem PySem.W PySem.Calls PyProof.Rows
theorem PySem.Challenge.cw_meetfolk_k00_whole_meetings_holds : PySem.Challenge.rw_meetfolk_k00_whole_meetings.Holds := by
  w_on; o_law
  refine HandSHeadRun.head_any (r := OpenLaw.row PySem.Challenge.rw_meetfolk_k00_whole_meetings) (q := view (OpenLaw.row PySem.Challenge.rw_meetfolk_k00_whole_meetings).prog [43]) (H := K00.hkX) (ob := K00.obF) (M := 20000) (loose := K00.looseL) (d := HandSHeadRun.topDef (OpenLaw.row PySem.Challenge.rw_meetfolk_k00_whole_meetings).prog 43) (kwd := []) K00.obF_eq
    (by kernel_rfl) (fun s => by kernel_rfl) K00.runF (by kernel_rfl) (by kernel_rfl) (by kernel_rfl) (by rfl) (by first | assumption | decide +kernel) (by decide +kernel) ⟨rfl, rfl, rfl, rfl, rfl, by decide +kernel⟩ ?hw ?hc
  case hw => w_witness2
  case hc =>
    refine LamX.walk_ofTsE (l := PySem.Challenge.rw_meetfolk_k00_whole_meetings) (n := 63) (k := 11) (x := "script") (CX := fun w => L2.CX (OpenLaw.row PySem.Challenge.rw_meetfolk_k00_whole_meetings).prog w) rfl (by decide) (by kernel_rfl) ⟨rfl, by decide, by decide⟩ ?F (fun w H s e s' z => ?_)
    · intro w mg fa h Y G hmg0
      obtain ⟨K, KX, c⟩ := Y
      have hmg : mg ("law" : PySem.Str) = some (.ref fa) := by
        have e : (HandSHeadRun.topDef (OpenLaw.row PySem.Challenge.rw_meetfolk_k00_whole_meetings).prog 43).name = ("law" : PySem.Str) := by kernel_rfl
        rw [← e]
        exact hmg0
      have e := hmg.symm.trans (He.glo_ok KX G (c.t.d.fact 31 (f := .glo "law") rfl))
      cases e
      obtain ⟨fd, D⟩ := c.t.d.def_ 31 (d := K00.d_law) rfl
      refine ⟨K, KX, fd, K00.tfL.map (He.cT K), Pd.spD (K00.TT K (K00.tfL.map fun p => (He.cT K p).2) (He.ga K)) 1 K00.F_law, fun p hp => ?_, fun p hp => ?_, fun p hp => ?_, fun s u => ?_, fun H a ns hl hb ht hS => ?_, fun base KB GB TB => ?_⟩
      · obtain ⟨q, hq, rfl⟩ := List.mem_map.mp hp
        exact c.empty q hq
      · obtain ⟨q, hq, rfl⟩ := List.mem_map.mp hp
        exact c.out q hq
      · obtain ⟨q, hq, rfl⟩ := List.mem_map.mp hp
        exact PySem.W.codeHd_of_K KX (c.hd q hq)
      · have b := L2.FunD.bindsA (ps := ["script"]) D fun _ _ _ _ _ _ us hl => match us, hl with | [_], _ => rfl
        exact b s [u] rfl
      · obtain ⟨m', e⟩ := K00.law_true ns hl hb
        exact Pd.law_spD (by intro P hP; obtain ⟨q, hq, rfl⟩ := List.mem_map.mp hP; exact ht _ (List.mem_map.mpr ⟨q, hq, rfl⟩)) hS e
      · obtain ⟨fd0, T⟩ := K00.txt (base := base) KX G c fun p hp => let t := TB (He.cT K p) (List.mem_map.mpr ⟨p, hp, rfl⟩); ⟨t.code, t.bm, t.gP⟩
        have F := K00.ok_law (P := (OpenLaw.row PySem.Challenge.rw_meetfolk_k00_whole_meetings).prog) (w := w) T
        have e2 : K00.DdK K fd0 "law" = fd := K00.ddK D
        rw [e2] at F
        exact F
    · obtain ⟨_, _, _, _, _, _, _, _, _, _, _, _, z⟩ := z
      exact z.elim

