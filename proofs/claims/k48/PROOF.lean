import PyProof.Rows.All
import Wide.All
import OpenK.AllK
import Wide.FinOn
import HandS.ForMost
import HandS.ForExc
import HandS.ExcOwn
import HandS.CallSlots
import HandS.IsInst
import HandS.TupAny
import HandS.TupMul
import HandS.Wide
import HandS.Deep
import HandS.Style
import HandS.Conv
import KE.DataFind
import KE.KIndexOf
import HandS.Defaults
import HandS.TryOnly
import HandS.TryMany
import HandS.MakeKw
import KE.GoesMore
import HandS.DictTup
import KE.SortData
import HandS.Zip
import HandS.ExcIs
import HandS.SetFor
import PySem.Challenge.RW_spentblocks_k48_whole_lone_life_by_first
set_option Elab.async false
set_option linter.all false
set_option maxRecDepth 100000
set_option maxHeartbeats 4000000
/-! Our own layer over HandS: data without addresses, a heap that is a list, functions in the place of readings. -/
namespace Sh
open PySem L2

/-- data: tuples by their items, lists and instances by their number -/
inductive D where
  | non | bl (b : Bool) | int (i : Int) | str (s : Str) | tup (xs : List D) | ref (n : Nat) | scl (xs : List D)
/-- what stands at a number: a list; a list that is only read (the script); an instance; a dict -/
inductive O where
  | lst (xs : List D) | scr (xs : List D) | ins (c : Str) (fs : List (Str × D)) | dk (kvs : List (Key × D))
abbrev Hm := List O
inductive RD where
  | ok (d : D) (h : Hm) | exc (c : Str) (fs : List (Str × D)) (h : Hm) | bad
inductive RA where
  | ok (ds : List D) (h : Hm) | exc (c : Str) (fs : List (Str × D)) (h : Hm) | bad
abbrev DS := List (Option D)
inductive RT where
  | nx (s : DS) (h : Hm) | rt (d : D) (h : Hm) | bk (s : DS) (h : Hm) | ct (s : DS) (h : Hm) | exc (c : Str) (fs : List (Str × D)) (s : DS) (h : Hm) | bad
abbrev FE := DS → Hm → RD
abbrev FA := DS → Hm → RA
abbrev FS := DS → Hm → RT
abbrev FF := List D → Hm → RD
def RD.bind (r : RD) (k : D → Hm → RD) : RD := match r with
  | .ok d h => k d h
  | .exc c fs h => .exc c fs h
  | .bad => .bad
@[simp] theorem RD.bind_ok (d : D) (h : Hm) (k : D → Hm → RD) : (RD.ok d h).bind k = k d h := rfl
@[simp] theorem RD.bind_exc (c fs) (h : Hm) (k : D → Hm → RD) : (RD.exc c fs h).bind k = .exc c fs h := rfl
@[simp] theorem RD.bind_bad (k : D → Hm → RD) : RD.bad.bind k = .bad := rfl

mutual
def D.beq : D → D → Bool
  | .non, .non => true
  | .bl a, .bl b => a == b
  | .int a, .int b => a == b
  | .str a, .str b => a == b
  | .tup a, .tup b => D.beqL a b
  | .ref a, .ref b => a == b
  | .scl a, .scl b => D.beqL a b
  | _, _ => false
def D.beqL : List D → List D → Bool
  | [], [] => true
  | a :: l, b :: r => D.beq a b && D.beqL l r
  | _, _ => false
end
mutual
theorem D.beq_eq : ∀ a b : D, D.beq a b = true → a = b
  | .non, b, h => by cases b <;> simp [D.beq] at h ⊢
  | .bl a, b, h => by cases b <;> simp [D.beq] at h ⊢; exact h
  | .int a, b, h => by cases b <;> simp [D.beq] at h ⊢; exact h
  | .str a, b, h => by cases b <;> simp [D.beq] at h ⊢; exact h
  | .tup a, b, h => by
    cases b <;> simp [D.beq] at h ⊢
    exact D.beqL_eq _ _ h
  | .ref a, b, h => by cases b <;> simp [D.beq] at h ⊢; exact h
  | .scl a, b, h => by
    cases b <;> simp [D.beq] at h ⊢
    exact D.beqL_eq _ _ h
theorem D.beqL_eq : ∀ a b : List D, D.beqL a b = true → a = b
  | [], b, h => by cases b <;> simp [D.beqL] at h ⊢
  | a :: l, b, h => by
    cases b with
    | nil => simp [D.beqL] at h
    | cons c r =>
      simp [D.beqL] at h
      rw [D.beq_eq _ _ h.1, D.beqL_eq _ _ h.2]
end
mutual
theorem D.beq_self : ∀ a : D, D.beq a a = true
  | .non => rfl
  | .bl a => by simp [D.beq]
  | .int a => by simp [D.beq]
  | .str a => by simp [D.beq]
  | .tup a => by simp [D.beq]; exact D.beqL_self a
  | .ref a => by simp [D.beq]
  | .scl a => by simp [D.beq]; exact D.beqL_self a
theorem D.beqL_self : ∀ a : List D, D.beqL a a = true
  | [] => rfl
  | a :: l => by simp [D.beqL]; exact ⟨D.beq_self a, D.beqL_self l⟩
end
theorem D.beq_iff (a b : D) : D.beq a b = true ↔ a = b := ⟨D.beq_eq a b, fun h => h ▸ D.beq_self a⟩
theorem D.beqL_iff (a b : List D) : D.beqL a b = true ↔ a = b := ⟨D.beqL_eq a b, fun h => h ▸ D.beqL_self a⟩
instance : DecidableEq D := fun a b => decidable_of_iff _ (D.beq_iff a b)

/-! ### what a value says -/
/-- a tuple that is known to have no dict of its own -/
def TupS (K : PySem.W.Frag) (H : Hp) (a : Addr) (xs : List V) : Prop :=
  (∃ o, H a = some (.frz o (.tup xs)) ∧ o.dict = none) ∨
    ∃ (o : Obj) (its : Array Value) (n : Nat), K.lookup a = some o ∧ o.cls = .type "tuple" ∧ o.dict = none ∧ o.data = .seq its n ∧ its.size ≤ sizeLine ∧ Vals xs its.toList
theorem TupS.sqT {K : PySem.W.Frag} {H : Hp} {a : Addr} {xs : List V} (h : TupS K H a xs) : SqT K H a xs := by
  rcases h with ⟨o, h, _⟩ | ⟨o, its, n, h1, h2, _, h3⟩
  · exact .inl (.inr ⟨o, h⟩)
  · exact .inr ⟨o, its, n, h1, h2, h3⟩
/-- a list that nobody changes -/
def SclS (K : PySem.W.Frag) (H : Hp) (a : Addr) (xs : List V) : Prop :=
  (∃ o, H a = some (.frz o (.lst xs))) ∨
    ∃ (o : Obj) (its : Array Value) (n : Nat), K.lookup a = some o ∧ o.cls = .type "list" ∧ o.dict = none ∧ o.data = .seq its n ∧ its.size ≤ sizeLine ∧ Vals xs its.toList
theorem SclS.sqL {K : PySem.W.Frag} {H : Hp} {a : Addr} {xs : List V} (h : SclS K H a xs) : SqL K H a xs := by
  rcases h with ⟨o, h⟩ | h
  · exact .inl (.inr ⟨o, h⟩)
  · exact .inr h
section
variable (K : PySem.W.Frag) (m : List Addr) (H : Hp)
mutual
inductive Rep : V → D → Prop
  | non : Rep .non .non
  | bl (b : Bool) : Rep (.bl b) (.bl b)
  | int (i : Int) : Rep (.int i) (.int i)
  | str (x : Str) : Rep (.str x) (.str x)
  | tup {a : Addr} {vs : List V} {ds : List D} : TupS K H a vs → RepL vs ds → Rep (.ref a) (.tup ds)
  | ref {n : Nat} {a : Addr} : m[n]? = some a → Rep (.ref a) (.ref n)
  | scl {a : Addr} {vs : List V} {ds : List D} : SclS K H a vs → RepL vs ds → Rep (.ref a) (.scl ds)
inductive RepL : List V → List D → Prop
  | nil : RepL [] []
  | cons {v : V} {d : D} {vs : List V} {ds : List D} : Rep v d → RepL vs ds → RepL (v :: vs) (d :: ds)
end
end
structure Grow (m : List Addr) (H : Hp) (m' : List Addr) (H' : Hp) : Prop where
  loc : ∀ (n : Nat) (a : Addr), m[n]? = some a → m'[n]? = some a
  frz : ∀ (a : Addr) (o : Obj) (u : HO), H a = some (.frz o u) → H' a = some (.frz o u)
theorem Grow.refl (m : List Addr) (H : Hp) : Grow m H m H := ⟨fun _ _ h => h, fun _ _ _ h => h⟩
theorem Grow.trans {m m1 m2 : List Addr} {H H1 H2 : Hp} (a : Grow m H m1 H1) (b : Grow m1 H1 m2 H2) : Grow m H m2 H2 := ⟨fun n c h => b.loc n c (a.loc n c h), fun c o u h => b.frz c o u (a.frz c o u h)⟩
section
variable {K : PySem.W.Frag} {mg : Str → Option Value} {m m' : List Addr} {H H' : Hp}
theorem Grow.tupS (g : Grow m H m' H') {a : Addr} {vs : List V} (h : TupS K H a vs) : TupS K H' a vs := by
  rcases h with ⟨o, h, e⟩ | h
  · exact .inl ⟨o, g.frz _ _ _ h, e⟩
  · exact .inr h
theorem Grow.sclS (g : Grow m H m' H') {a : Addr} {vs : List V} (h : SclS K H a vs) : SclS K H' a vs := by
  rcases h with ⟨o, h⟩ | h
  · exact .inl ⟨o, g.frz _ _ _ h⟩
  · exact .inr h
mutual
theorem Rep.grow (g : Grow m H m' H') : ∀ {v : V} {d : D}, Rep K m H v d → Rep K m' H' v d
  | _, _, .non => .non
  | _, _, .bl b => .bl b
  | _, _, .int i => .int i
  | _, _, .str x => .str x
  | _, _, .tup h r => .tup (g.tupS h) (RepL.grow g r)
  | _, _, .ref h => .ref (g.loc _ _ h)
  | _, _, .scl h r => .scl (g.sclS h) (RepL.grow g r)
theorem RepL.grow (g : Grow m H m' H') : ∀ {vs : List V} {ds : List D}, RepL K m H vs ds → RepL K m' H' vs ds
  | _, _, .nil => .nil
  | _, _, .cons h r => .cons (Rep.grow g h) (RepL.grow g r)
end
theorem RepL.length : ∀ {vs : List V} {ds : List D}, RepL K m H vs ds → vs.length = ds.length
  | _, _, .nil => rfl
  | _, _, .cons _ r => by simp [RepL.length r]
theorem RepL.get : ∀ {vs : List V} {ds : List D} {i : Nat} {d : D}, RepL K m H vs ds → ds[i]? = some d → ∃ v, vs[i]? = some v ∧ Rep K m H v d
  | _, _, _, _, .nil, e => by simp at e
  | _, _, 0, _, .cons r _, e => by simp at e; subst e; exact ⟨_, rfl, r⟩
  | _, _, i + 1, d, .cons _ t, e => by
    obtain ⟨v, h1, h2⟩ := RepL.get (i := i) (d := d) t (by simpa using e)
    exact ⟨v, by simpa using h1, h2⟩
theorem RepL.get' : ∀ {vs : List V} {ds : List D} {i : Nat} {v : V}, RepL K m H vs ds → vs[i]? = some v → ∃ d, ds[i]? = some d ∧ Rep K m H v d
  | _, _, _, _, .nil, e => by simp at e
  | _, _, 0, _, .cons r _, e => by simp at e; subst e; exact ⟨_, rfl, r⟩
  | _, _, i + 1, d, .cons _ t, e => by
    obtain ⟨v, h1, h2⟩ := RepL.get' (i := i) (v := d) t (by simpa using e)
    exact ⟨v, by simpa using h1, h2⟩
theorem RepL.app : ∀ {vs ws : List V} {ds es : List D}, RepL K m H vs ds → RepL K m H ws es → RepL K m H (vs ++ ws) (ds ++ es)
  | _, _, _, _, .nil, s => s
  | _, _, _, _, .cons r t, s => .cons r (RepL.app t s)
theorem RepL.take : ∀ {vs : List V} {ds : List D} (n : Nat), RepL K m H vs ds → RepL K m H (vs.take n) (ds.take n)
  | _, _, 0, _ => .nil
  | _, _, _ + 1, .nil => .nil
  | _, _, n + 1, .cons r t => .cons r (RepL.take n t)
theorem RepL.drop : ∀ {vs : List V} {ds : List D} (n : Nat), RepL K m H vs ds → RepL K m H (vs.drop n) (ds.drop n)
  | _, _, 0, r => r
  | _, _, _ + 1, .nil => .nil
  | _, _, n + 1, .cons _ t => RepL.drop n t
theorem RepL.set {v : V} {d : D} (r : Rep K m H v d) : ∀ {vs : List V} {ds : List D} (n : Nat), RepL K m H vs ds → RepL K m H (vs.set n v) (ds.set n d)
  | _, _, _, .nil => .nil
  | _, _, 0, .cons _ t => .cons r t
  | _, _, n + 1, .cons q t => .cons q (RepL.set r n t)
theorem RepL.reverse : ∀ {vs : List V} {ds : List D}, RepL K m H vs ds → RepL K m H vs.reverse ds.reverse
  | _, _, .nil => .nil
  | _, _, .cons r t => by rw [List.reverse_cons, List.reverse_cons]; exact (RepL.reverse t).app (.cons r .nil)
theorem RepL.eraseIdx : ∀ {vs : List V} {ds : List D} (n : Nat), RepL K m H vs ds → RepL K m H (vs.eraseIdx n) (ds.eraseIdx n)
  | _, _, _, .nil => .nil
  | _, _, 0, .cons _ t => t
  | _, _, n + 1, .cons r t => .cons r (RepL.eraseIdx n t)
theorem RepL.rep {v : V} {d : D} (r : Rep K m H v d) : ∀ n : Nat, RepL K m H (List.replicate n v) (List.replicate n d)
  | 0 => .nil
  | n + 1 => .cons r (RepL.rep r n)

theorem Rep.int_inv {v : V} {i : Int} (r : Rep K m H v (.int i)) : v = .int i := by cases r; rfl
theorem Rep.bl_inv {v : V} {b : Bool} (r : Rep K m H v (.bl b)) : v = .bl b := by cases r; rfl
theorem Rep.str_inv {v : V} {x : Str} (r : Rep K m H v (.str x)) : v = .str x := by cases r; rfl
theorem Rep.non_inv {v : V} (r : Rep K m H v .non) : v = .non := by cases r; rfl
theorem Rep.tup_inv {v : V} {ds : List D} (r : Rep K m H v (.tup ds)) : ∃ a vs, v = .ref a ∧ TupS K H a vs ∧ RepL K m H vs ds := by cases r with | tup h r => exact ⟨_, _, rfl, h, r⟩
theorem Rep.scl_inv {v : V} {ds : List D} (r : Rep K m H v (.scl ds)) : ∃ a vs, v = .ref a ∧ SclS K H a vs ∧ RepL K m H vs ds := by cases r with | scl h r => exact ⟨_, _, rfl, h, r⟩
theorem Rep.ref_inv {v : V} {n : Nat} (r : Rep K m H v (.ref n)) : ∃ a, v = .ref a ∧ m[n]? = some a := by cases r with | ref h => exact ⟨_, rfl, h⟩
end

/-! ### the heap -/
def RepF (K : PySem.W.Frag) (m : List Addr) (H : Hp) : List (Str × V) → List (Str × D) → Prop := Paired fun p q => p.1 = q.1 ∧ Rep K m H p.2 q.2
def RepK (K : PySem.W.Frag) (m : List Addr) (H : Hp) : List (Key × V) → List (Key × D) → Prop := Paired fun p q => p.1 = q.1 ∧ Rep K m H p.2 q.2
def ObjR (K : PySem.W.Frag) (mg : Str → Option Value) (m : List Addr) (H : Hp) (a : Addr) : O → Prop
  | .lst ds => ∃ vs, H a = some (.lst vs) ∧ RepL K m H vs ds
  | .scr ds => ∃ vs, Rd H a (.lst vs) ∧ RepL K m H vs ds
  | .ins c fs => ∃ C dx fv, mg c = some (.ref C) ∧ H a = some (.ins C dx fv) ∧ RepF K m H fv fs
  | .dk kvs => ∃ kv, H a = some (.dK kv) ∧ RepK K m H kv kvs
structure R (K : PySem.W.Frag) (mg : Str → Option Value) (m : List Addr) (H : Hp) (h : Hm) : Prop where
  len : m.length = h.length
  nd : m.Nodup
  ob : ∀ (n : Nat) (a : Addr) (o : O), m[n]? = some a → h[n]? = some o → ObjR K mg m H a o
def RS (K : PySem.W.Frag) (m : List Addr) (H : Hp) (σ : L2.St) (s : DS) : Prop := σ.length = s.length ∧ ∀ (i : Nat) (d : D), s[i]? = some (some d) → ∃ v, σ[i]? = some (some v) ∧ Rep K m H v d
section
variable {K : PySem.W.Frag} {mg : Str → Option Value} {m m' : List Addr} {H H' : Hp} {h h' : Hm} {a p : Addr} {n : Nat} {o : O} {u : HO} {s : DS} {σ : L2.St}
theorem RepF.grow (g : Grow m H m' H') {x : List (Str × V)} {y : List (Str × D)} (r : RepF K m H x y) : RepF K m' H' x y := Paired.mapP r fun _ _ z => ⟨z.1, z.2.grow g⟩
theorem RepK.grow (g : Grow m H m' H') {x : List (Key × V)} {y : List (Key × D)} (r : RepK K m H x y) : RepK K m' H' x y := Paired.mapP r fun _ _ z => ⟨z.1, z.2.grow g⟩
theorem ObjR.grow (g : Grow m H m' H') (e : H' a = H a) : ObjR K mg m H a o → ObjR K mg m' H' a o := by
  cases o with
  | lst ds => rintro ⟨vs, h1, h2⟩; exact ⟨vs, by rw [e]; exact h1, h2.grow g⟩
  | scr ds => rintro ⟨vs, h1, h2⟩; exact ⟨vs, by unfold Rd; rw [e]; exact h1, h2.grow g⟩
  | ins c fs => rintro ⟨C, dx, fv, h0, h1, h2⟩; exact ⟨C, dx, fv, h0, by rw [e]; exact h1, h2.grow g⟩
  | dk kvs => rintro ⟨kv, h1, h2⟩; exact ⟨kv, by rw [e]; exact h1, h2.grow g⟩
theorem ObjR.there (x : ObjR K mg m H a o) : H a ≠ none := by
  cases o with
  | lst ds => obtain ⟨vs, h1, h2⟩ := x; rw [h1]; exact fun z => by cases z
  | scr ds =>
    obtain ⟨vs, h1 | ⟨_, h1⟩, h2⟩ := x
    · rw [h1]; exact fun z => by cases z
    · rw [h1]; exact fun z => by cases z
  | ins c fs => obtain ⟨C, dx, fv, h0, h1, h2⟩ := x; rw [h1]; exact fun z => by cases z
  | dk kvs => obtain ⟨kv, h1, h2⟩ := x; rw [h1]; exact fun z => by cases z
/-- of what may be changed -/
def O.isMut : O → Bool
  | .scr _ => false
  | _ => true
theorem ObjR.nofrz (x : ObjR K mg m H a o) (hm : o.isMut = true) {ob : Obj} {u : HO} : H a ≠ some (.frz ob u) := by
  cases o with
  | lst ds => obtain ⟨vs, h1, h2⟩ := x; rw [h1]; exact fun z => by cases z
  | scr ds => cases hm
  | ins c fs => obtain ⟨C, dx, fv, h0, h1, h2⟩ := x; rw [h1]; exact fun z => by cases z
  | dk kvs => obtain ⟨kv, h1, h2⟩ := x; rw [h1]; exact fun z => by cases z
theorem R.at (r : R K mg m H h) (e : h[n]? = some o) : ∃ a, m[n]? = some a ∧ ObjR K mg m H a o := by
  have hl := (List.getElem?_eq_some_iff.mp e).1
  have hm : n < m.length := by rw [r.len]; exact hl
  exact ⟨m[n], List.getElem?_eq_getElem hm, r.ob n _ o (List.getElem?_eq_getElem hm) e⟩
theorem R.at' (r : R K mg m H h) (e : m[n]? = some a) : ∃ o, h[n]? = some o ∧ ObjR K mg m H a o := by
  have hl := (List.getElem?_eq_some_iff.mp e).1
  have hm : n < h.length := by rw [← r.len]; exact hl
  exact ⟨h[n], List.getElem?_eq_getElem hm, r.ob n _ _ e (List.getElem?_eq_getElem hm)⟩
theorem R.there (r : R K mg m H h) (e : m[n]? = some a) : H a ≠ none := by
  obtain ⟨o, _, x⟩ := r.at' e
  exact x.there
theorem Grow.new (hp : H p = none) : Grow m H m (upd H p u) := ⟨fun _ _ h => h, fun a o u h => by
  rw [upd_ne (ne_of_none h hp)]
  exact h⟩
theorem Grow.more (t : List Addr) : Grow m H (m ++ t) H := ⟨fun n a e => by rw [List.getElem?_append_left (List.getElem?_eq_some_iff.mp e).1]; exact e, fun _ _ _ h => h⟩
theorem Grow.newr (hp : H p = none) : Grow m H (m ++ [p]) (upd H p u) := (Grow.new hp).trans (Grow.more _)
/-- a new thing that is no tuple -/
theorem R.new (r : R K mg m H h) (hp : H p = none) (x : ObjR K mg (m ++ [p]) (upd H p u) p o) : R K mg (m ++ [p]) (upd H p u) (h ++ [o]) := by
  have np : p ∉ m := fun z => by
    obtain ⟨n, hn, e⟩ := List.mem_iff_getElem.mp z
    exact r.there (n := n) (a := p) (by rw [List.getElem?_eq_getElem hn, e]) hp
  refine ⟨by simp [r.len], ?_, fun n a o' e1 e2 => ?_⟩
  · rw [List.nodup_append]
    refine ⟨r.nd, by simp, fun a ha b hb => ?_⟩
    have : b = p := by simpa using hb
    subst this
    rintro rfl
    exact np ha
  · by_cases hn : n < m.length
    · rw [List.getElem?_append_left hn] at e1
      rw [List.getElem?_append_left (by rw [← r.len]; exact hn)] at e2
      have ne : a ≠ p := by
        rintro rfl
        exact r.there e1 hp
      exact (r.ob n a o' e1 e2).grow (Grow.newr hp) (upd_ne ne)
    · have hn' : ¬ n < h.length := by rw [← r.len]; exact hn
      rw [List.getElem?_append_right (by omega)] at e1 e2
      have e : n - m.length = 0 := by
        have := (List.getElem?_eq_some_iff.mp e1).1
        simp at this
        omega
      rw [e] at e1
      rw [← r.len, e] at e2
      simp at e1 e2
      subst e1 e2
      exact x
theorem R.newAt (r : R K mg m H h) : (m ++ [p])[h.length]? = some p := by
  rw [← r.len, List.getElem?_append_right (Nat.le_refl _)]
  simp
/-- a new tuple -/
theorem R.tup (r : R K mg m H h) (hp : H p = none) : R K mg m (upd H p u) h :=
  ⟨r.len, r.nd, fun n a o e1 e2 => by
    have ne : a ≠ p := by
      rintro rfl
      exact r.there e1 hp
    exact (r.ob n a o e1 e2).grow (Grow.new hp) (upd_ne ne)⟩
theorem Grow.set {o' : O} (x : ObjR K mg m H a o') (hm : o'.isMut = true) : Grow m H m (upd H a u) := ⟨fun _ _ h => h, fun b ob u h => by
  have ne : b ≠ a := by
    rintro rfl
    exact x.nofrz hm h
  rw [upd_ne ne]
  exact h⟩
/-- a thing is changed -/
theorem R.set {o' : O} (r : R K mg m H h) (e : m[n]? = some a) (e' : h[n]? = some o') (hm : o'.isMut = true) (x : ObjR K mg m (upd H a u) a o) : R K mg m (upd H a u) (h.set n o) := by
  have xo := r.ob n a o' e e'
  have hl := (List.getElem?_eq_some_iff.mp e').1
  refine ⟨by simp [r.len], r.nd, fun k b ob e1 e2 => ?_⟩
  by_cases hk : k = n
  · subst hk
    rw [e] at e1
    cases e1
    rw [List.getElem?_set_self hl] at e2
    cases e2
    exact x
  · rw [List.getElem?_set_ne (fun z => hk z.symm)] at e2
    have ne : b ≠ a := by
      rintro rfl
      obtain ⟨h1, e1'⟩ := List.getElem?_eq_some_iff.mp e1
      obtain ⟨h2, e2'⟩ := List.getElem?_eq_some_iff.mp e
      exact hk ((List.getElem_inj r.nd).mp (e1'.trans e2'.symm))
    exact (r.ob k b ob e1 e2).grow (Grow.set xo hm) (upd_ne ne)
theorem RS.grow (g : Grow m H m' H') (x : RS K m H σ s) : RS K m' H' σ s := ⟨x.1, fun i d e => by
  obtain ⟨v, h1, h2⟩ := x.2 i d e
  exact ⟨v, h1, h2.grow g⟩⟩
theorem RS.set {v : V} {d : D} (x : RS K m H σ s) (i : Nat) (r : Rep K m H v d) : RS K m H (σ.set i (some v)) (s.set i (some d)) := ⟨by simp [x.1], fun j e hj => by
  by_cases hi : j = i
  · subst hi
    have hl : j < s.length := by
      have := (List.getElem?_eq_some_iff.mp hj).1
      simpa using this
    rw [List.getElem?_set_self hl] at hj
    cases hj
    exact ⟨v, by rw [List.getElem?_set_self (by rw [x.1]; exact hl)], r⟩
  · rw [List.getElem?_set_ne (fun z => hi z.symm)] at hj
    obtain ⟨w, h1, h2⟩ := x.2 j e hj
    exact ⟨w, by rw [List.getElem?_set_ne (fun z => hi z.symm)]; exact h1, h2⟩⟩
theorem RS.clr (x : RS K m H σ s) (i : Nat) : RS K m H (σ.set i none) (s.set i none) := ⟨by simp [x.1], fun j e hj => by
  by_cases hi : j = i
  · subst hi
    have hl : j < s.length := by
      have := (List.getElem?_eq_some_iff.mp hj).1
      simpa using this
    rw [List.getElem?_set_self hl] at hj
    cases hj
  · rw [List.getElem?_set_ne (fun z => hi z.symm)] at hj
    obtain ⟨w, h1, h2⟩ := x.2 j e hj
    exact ⟨w, by rw [List.getElem?_set_ne (fun z => hi z.symm)]; exact h1, h2⟩⟩
theorem RS.start {vs : List V} {ds : List D} (N : List Str) (r : RepL K m H vs ds) : RS K m H (start N vs) (ds.map some ++ List.replicate (N.length - ds.length) none) := by
  unfold L2.start
  refine ⟨by simp [r.length], fun i d e => ?_⟩
  by_cases hi : i < ds.length
  · rw [List.getElem?_append_left (by simpa using hi), List.getElem?_map] at e
    cases q : ds[i]? with
    | none => rw [q] at e; cases e
    | some d' =>
      rw [q] at e
      cases e
      obtain ⟨v, h1, h2⟩ := r.get q
      exact ⟨v, by rw [List.getElem?_append_left (by simpa [r.length] using hi), List.getElem?_map, h1]; rfl, h2⟩
  · rw [List.getElem?_append_right (by simpa using hi), List.getElem?_replicate] at e
    split at e <;> cases e
end

/-! ### what is wanted behind a result -/
def ExcAt (K : PySem.W.Frag) (mg : Str → Option Value) (m : List Addr) (H : Hp) (cls : Value) (dx : Option Addr) (c : Str) (fs : List (Str × D)) : Prop :=
  ∃ C, mg c = some (.ref C) ∧ cls = .ref C ∧ (fs ≠ [] → ∃ a fv, dx = some a ∧ H a = some (.xd fv) ∧ RepF K m H fv fs)
section
variable (K : PySem.W.Frag) (mg : Str → Option Value)
def PostE (W : XK) (m : List Addr) (H : Hp) (r : RD) (Q : VK) : Prop := match r with
  | .ok d h' => ∀ m' H' v, Grow m H m' H' → R K mg m' H' h' → Rep K m' H' v d → Q v H'
  | .exc c fs h' => ∀ m' H' cls dx, Grow m H m' H' → R K mg m' H' h' → ExcAt K mg m' H' cls dx c fs → W cls dx H'
  | .bad => False
def PostA (W : XK) (m : List Addr) (H : Hp) (r : RA) (Q : List V → Hp → Prop) : Prop := match r with
  | .ok ds h' => ∀ m' H' vs, Grow m H m' H' → R K mg m' H' h' → RepL K m' H' vs ds → Q vs H'
  | .exc c fs h' => ∀ m' H' cls dx, Grow m H m' H' → R K mg m' H' h' → ExcAt K mg m' H' cls dx c fs → W cls dx H'
  | .bad => False
def PostT (W : XK) (m : List Addr) (H : Hp) (r : RD) (Q : Bool → Hp → Prop) : Prop := match r with
  | .ok (.bl b) h' => ∀ m' H', Grow m H m' H' → R K mg m' H' h' → Q b H'
  | .ok _ _ => False
  | .exc c fs h' => ∀ m' H' cls dx, Grow m H m' H' → R K mg m' H' h' → ExcAt K mg m' H' cls dx c fs → W cls dx H'
  | .bad => False
def PostS (W : WX) (m : List Addr) (H : Hp) (r : RT) (E : Ends) : Prop := match r with
  | .nx s' h' => ∀ m' H' σ', Grow m H m' H' → R K mg m' H' h' → RS K m' H' σ' s' → E.nx σ' H'
  | .bk s' h' => ∀ m' H' σ', Grow m H m' H' → R K mg m' H' h' → RS K m' H' σ' s' → E.bk σ' H'
  | .ct s' h' => ∀ m' H' σ', Grow m H m' H' → R K mg m' H' h' → RS K m' H' σ' s' → E.ct σ' H'
  | .rt d h' => ∀ m' H' v, Grow m H m' H' → R K mg m' H' h' → Rep K m' H' v d → E.rt v H'
  | .exc c fs s' h' => ∀ m' H' σ' cls dx, Grow m H m' H' → R K mg m' H' h' → RS K m' H' σ' s' → ExcAt K mg m' H' cls dx c fs → W cls dx σ' H'
  | .bad => False
def tS (W : WX) (f : FE) : TE := fun σ H Q => ∃ m s h, R K mg m H h ∧ RS K m H σ s ∧ PostE K mg (fun c d H' => W c d σ H') m H (f s h) Q
def tSA (W : WX) (f : FA) : TA := fun σ H Q => ∃ m s h, R K mg m H h ∧ RS K m H σ s ∧ PostA K mg (fun c d H' => W c d σ H') m H (f s h) Q
def tST (W : WX) (f : FE) : TT := fun σ H Q => ∃ m s h, R K mg m H h ∧ RS K m H σ s ∧ PostT K mg (fun c d H' => W c d σ H') m H (f s h) Q
def tSS (W : WX) (f : FS) : TS := fun E σ H => ∃ m s h, R K mg m H h ∧ RS K m H σ s ∧ PostS K mg W m H (f s h) E
end
def SE (X : Cx) (W : WX) (e : Expr) (f : FE) : Prop := PE X e (tS X.K X.mg W f)
def SA (X : Cx) (W : WX) (es : List Expr) (f : FA) : Prop := PA X es (tSA X.K X.mg W f)
def ST (X : Cx) (W : WX) (e : Expr) (f : FE) : Prop := PT X e (tST X.K X.mg W f)
def SW (X : Cx) (W : WX) (e : Expr) (f : FE) : Prop := PW X e (tST X.K X.mg W f)
def SS (X : Cx) (W : WX) (st : Stmt) (f : FS) : Prop := PS X st (tSS X.K X.mg W f)
def SSs (X : Cx) (W : WX) (st : List Stmt) (f : FS) : Prop := PSs X st (tSS X.K X.mg W f)

theorem PE.imp {X : Cx} {e : Expr} {t t' : TE} (h : PE X e t) (k : ∀ σ H Q, t' σ H Q → t σ H Q) : PE X e t' := ⟨fun pins s σ H Q I q => h.run pins s σ H Q I (k _ _ _ q)⟩
theorem PA.imp {X : Cx} {e : List Expr} {t t' : TA} (h : PA X e t) (k : ∀ σ H Q, t' σ H Q → t σ H Q) : PA X e t' := ⟨fun pos pins s σ H Q I q => h.run pos pins s σ H Q I (k _ _ _ q)⟩
theorem PT.imp {X : Cx} {e : Expr} {t t' : TT} (h : PT X e t) (k : ∀ σ H Q, t' σ H Q → t σ H Q) : PT X e t' := ⟨fun pins s σ H Q I q => h.run pins s σ H Q I (k _ _ _ q)⟩
theorem PW.imp {X : Cx} {e : Expr} {t t' : TT} (h : PW X e t) (k : ∀ σ H Q, t' σ H Q → t σ H Q) : PW X e t' := ⟨fun wh pins s σ H Q I q => h.run wh pins s σ H Q I (k _ _ _ q)⟩
theorem PS.imp {X : Cx} {e : Stmt} {t t' : TS} (h : PS X e t) (k : ∀ D σ H, t' D σ H → t D σ H) : PS X e t' := ⟨fun pins s σ H D I q => h.run pins s σ H D I (k _ _ _ q)⟩
theorem PSs.imp {X : Cx} {e : List Stmt} {t t' : TS} (h : PSs X e t) (k : ∀ D σ H, t' D σ H → t D σ H) : PSs X e t' := ⟨fun pins s σ H D I q => h.run pins s σ H D I (k _ _ _ q)⟩

section
variable {K : PySem.W.Frag} {mg : Str → Option Value} {W : XK} {WW : WX} {m m1 : List Addr} {H H1 : Hp} {r : RD}
theorem PostE.grow {Q : VK} (p : PostE K mg W m H r Q) (g : Grow m H m1 H1) : PostE K mg W m1 H1 r Q := by
  cases r with
  | ok d h => exact fun m' H' v g' => p m' H' v (g.trans g')
  | exc c fs h => exact fun m' H' cls dx g' => p m' H' cls dx (g.trans g')
  | bad => exact p
theorem PostT.grow {Q : Bool → Hp → Prop} (p : PostT K mg W m H r Q) (g : Grow m H m1 H1) : PostT K mg W m1 H1 r Q := by
  cases r with
  | ok d h => cases d <;> first | exact p | exact fun m' H' g' => p m' H' (g.trans g')
  | exc c fs h => exact fun m' H' cls dx g' => p m' H' cls dx (g.trans g')
  | bad => exact p
theorem PostA.grow {r : RA} {Q : List V → Hp → Prop} (p : PostA K mg W m H r Q) (g : Grow m H m1 H1) : PostA K mg W m1 H1 r Q := by
  cases r with
  | ok d h => exact fun m' H' v g' => p m' H' v (g.trans g')
  | exc c fs h => exact fun m' H' cls dx g' => p m' H' cls dx (g.trans g')
  | bad => exact p
theorem PostS.grow {r : RT} {E : Ends} (p : PostS K mg WW m H r E) (g : Grow m H m1 H1) : PostS K mg WW m1 H1 r E := by
  cases r with
  | nx s h => exact fun m' H' σ' g' => p m' H' σ' (g.trans g')
  | bk s h => exact fun m' H' σ' g' => p m' H' σ' (g.trans g')
  | ct s h => exact fun m' H' σ' g' => p m' H' σ' (g.trans g')
  | rt d h => exact fun m' H' v g' => p m' H' v (g.trans g')
  | exc c fs s h => exact fun m' H' σ' cls dx g' => p m' H' σ' cls dx (g.trans g')
  | bad => exact p
theorem PostE.mono {Q Q' : VK} (p : PostE K mg W m H r Q) (k : ∀ v H', Q v H' → Q' v H') : PostE K mg W m H r Q' := by
  cases r with
  | ok d h => exact fun m' H' v g' r' rep => k _ _ (p m' H' v g' r' rep)
  | exc c fs h => exact p
  | bad => exact p
theorem PostA.mono {r : RA} {Q Q' : List V → Hp → Prop} (p : PostA K mg W m H r Q) (k : ∀ v H', Q v H' → Q' v H') : PostA K mg W m H r Q' := by
  cases r with
  | ok d h => exact fun m' H' v g' r' rep => k _ _ (p m' H' v g' r' rep)
  | exc c fs h => exact p
  | bad => exact p
/-- what a value of d in the heap h, grown out of (m, H), is wanted for -/
def Got (K : PySem.W.Frag) (mg : Str → Option Value) (m : List Addr) (H : Hp) (P : List Addr → Hp → D → Hm → Prop) : VK := fun v H' => ∃ m' d h', Grow m H m' H' ∧ R K mg m' H' h' ∧ Rep K m' H' v d ∧ P m' H' d h'
theorem PostE.bind {k : D → Hm → RD} {Q : VK} (p : PostE K mg W m H (r.bind k) Q) : PostE K mg W m H r (Got K mg m H fun m' H' d h' => PostE K mg W m' H' (k d h') Q) := by
  cases r with
  | ok d h => exact fun m' H' v g' r' rep => ⟨m', d, h, g', r', rep, PostE.grow p g'⟩
  | exc c fs h => exact p
  | bad => exact p
end
end Sh

set_option Elab.async false
set_option linter.all false
set_option maxRecDepth 100000
set_option maxHeartbeats 4000000
namespace Sh
open PySem L2 PyProof.Rows
section
variable {K : PySem.W.Frag} {mg : Str → Option Value} {W : XK} {WW : WX} {m m1 : List Addr} {H H1 : Hp} {r : RD}
/-- a value as it is -/
theorem PostE.val {Q : VK} {d : D} {h : Hm} {v : V} (p : PostE K mg W m H (.ok d h) Q) (r : R K mg m H h) (x : Rep K m H v d) : Q v H := p m H v (Grow.refl _ _) r x
/-- a new tuple -/
theorem PostE.tup {Q : VK} {ds : List D} {h : Hm} {vs : List V} (p : PostE K mg W m H (.ok (.tup ds) h) Q) (r : R K mg m H h) (x : RepL K m H vs ds) : ∀ q o, H q = none → o.dict = none → Q (.ref q) (upd H q (.frz o (.tup vs))) := fun q o hq ho =>
  p m _ _ (Grow.new hq) (r.tup hq) (.tup (.inl ⟨o, upd_same, ho⟩) (x.grow (Grow.new hq)))
/-- a new list -/
theorem PostE.lst {Q : VK} {ds : List D} {h : Hm} {vs : List V} (p : PostE K mg W m H (.ok (.ref h.length) (h ++ [.lst ds])) Q) (r : R K mg m H h) (x : RepL K m H vs ds) : ∀ q, H q = none → Q (.ref q) (upd H q (.lst vs)) := fun q hq =>
  p _ _ _ (Grow.newr hq) (r.new hq ⟨vs, upd_same, x.grow (Grow.newr hq)⟩) (.ref r.newAt)
theorem PostT.toE {Q : Bool → Hp → Prop} (p : PostT K mg W m H r Q) : PostE K mg W m H r (fun v H' => ∃ k, v = .bl k ∧ Q k H') := by
  cases r with
  | ok d h =>
    cases d with
    | bl b => exact fun m' H' v g r' rep => ⟨b, rep.bl_inv, p m' H' g r'⟩
    | _ => exact False.elim p
  | exc c fs h => exact p
  | bad => exact p
theorem PostT.bind {k : D → Hm → RD} {Q : Bool → Hp → Prop} (hk : ∀ d h, (∀ b, d ≠ .bl b) → k d h = .bad) (p : PostT K mg W m H (r.bind k) Q) :
    PostT K mg W m H r (fun b H' => ∃ m' h', Grow m H m' H' ∧ R K mg m' H' h' ∧ PostT K mg W m' H' (k (.bl b) h') Q) := by
  cases r with
  | ok d h =>
    obtain ⟨b, rfl⟩ | hn : (∃ b, d = .bl b) ∨ ∀ b, d ≠ .bl b := by cases d <;> simp
    · exact fun m' H' g r' => ⟨m', h, g, r', PostT.grow p g⟩
    · have e := hk d h hn
      have p' : PostT K mg W m H (k d h) Q := p
      rw [e] at p'
      exact False.elim p'
  | exc c fs h => exact p
  | bad => exact p
theorem PostT.bindE {k : D → Hm → RD} {Q : Bool → Hp → Prop} (p : PostT K mg W m H (r.bind k) Q) : PostE K mg W m H r (Got K mg m H fun m' H' d h' => PostT K mg W m' H' (k d h') Q) := by
  cases r with
  | ok d h => exact fun m' H' v g' r' rep => ⟨m', d, h, g', r', rep, PostT.grow p g'⟩
  | exc c fs h => exact p
  | bad => exact p
end

/-! ### names, constants -/
def eVar (i : Nat) : FE := fun s h => match s[i]? with
  | some (some d) => .ok d h
  | _ => .bad
def eC (d : D) : FE := fun _ h => .ok d h
section
variable {X : Cx} {W : WX} {e a b c : Expr} {f fa fb fc : FE} {pos : Pos}
theorem se_var (i : Nat) {x : Str} (hN : X.N[i]? = some x := by rfl) (hv : Vis X.env.scope x := by first | exact Or.inl rfl | exact Or.inr (Or.inl rfl) | exact Or.inr (Or.inr rfl)) (hd : (x == ("__debug__" : Str)) = false := by decide)
    (hcd : (x == ("__classdict__" : Str)) = false := by decide) : SE X W (.Name x pos) (eVar i) := by
  refine PE.imp (pe_var hN hv hd hcd) fun σ H Q h => ?_
  obtain ⟨m, s, h, r, rs, p⟩ := h
  unfold eVar at p
  split at p
  · rename_i d hd
    obtain ⟨v, h1, h2⟩ := rs.2 i d hd
    exact ⟨v, h1, p.val r h2⟩
  · exact False.elim p
theorem se_int {i j} : SE X W (.Constant (.int i) j pos) (eC (.int i)) := PE.imp pe_int fun σ H Q ⟨m, s, h, r, rs, p⟩ => p.val r (.int i)
theorem se_bl {i j} : SE X W (.Constant (.bool i) j pos) (eC (.bl i)) := PE.imp pe_bl fun σ H Q ⟨m, s, h, r, rs, p⟩ => p.val r (.bl i)
theorem se_non {j} : SE X W (.Constant .none j pos) (eC .non) := PE.imp pe_non fun σ H Q ⟨m, s, h, r, rs, p⟩ => p.val r .non
theorem se_str {x j} : SE X W (.Constant (.str x) j pos) (eC (.str x)) := PE.imp pe_str fun σ H Q ⟨m, s, h, r, rs, p⟩ => p.val r (.str x)
/-- an int of the module's top -/
theorem se_gint {x : Str} {i : Int} {t : Tok} (hg : Gl X x) (hm : X.mg x = some (.int i t)) (hd : (x == ("__debug__" : Str)) = false := by decide) : SE X W (.Name x pos) (eC (.int i)) :=
  PE.imp (pe_glob (v := .int i) hg hm ⟨_, rfl⟩ hd) fun σ H Q ⟨m, s, h, r, rs, p⟩ => p.val r (.int i)

/-! ### two-place operations -/
def eBin (fop : D → D → Hm → RD) (fa fb : FE) : FE := fun s h => (fa s h).bind fun x h1 => (fb s h1).bind fun y h2 => fop x y h2
/-- the operation by values bears the one by data -/
def OpS (X : Cx) (r : R2) (fop : D → D → Hm → RD) : Prop := ∀ (W : XK) (m : List Addr) (H : Hp) (h : Hm) (x y : V) (dx dy : D) (Q : VK),
  R X.K X.mg m H h → Rep X.K m H x dx → Rep X.K m H y dy → PostE X.K X.mg W m H (fop dx dy h) Q → r x y H Q
theorem bin_ok {r : R2} {fop : D → D → Hm → RD} (hop : OpS X r fop) {σ : L2.St} {H : Hp} {Q : VK} (h : tS X.K X.mg W (eBin fop fa fb) σ H Q) : tOp r (tS X.K X.mg W fa) (tS X.K X.mg W fb) σ H Q := by
  obtain ⟨m, s, h, R0, rs, p⟩ := h
  refine ⟨m, s, h, R0, rs, PostE.mono (PostE.bind p) ?_⟩
  rintro x H1 ⟨m1, dx, h1, g1, R1, rx, p1⟩
  refine ⟨m1, s, h1, R1, rs.grow g1, PostE.mono (PostE.bind p1) ?_⟩
  rintro y H2 ⟨m2, dy, h2, g2, R2, ry, p2⟩
  exact hop _ m2 H2 h2 x y dx dy Q R2 (rx.grow g2) ry p2
theorem se_op {op : Operator} {r : R2} {fop : D → D → Hm → RD} (ho : OpR X (binaryOp op) r) (hop : OpS X r fop) (ha : SE X W a fa) (hb : SE X W b fb) : SE X W (.BinOp a op b pos) (eBin fop fa fb) :=
  PE.imp (pe_op ho ha hb) fun σ H Q h => bin_ok hop h
theorem se_cmp {op : CmpOp} {r : R2} {fop : D → D → Hm → RD} (ho : OpR X (compareOp op) r) (hop : OpS X r fop) (ha : SE X W a fa) (hb : SE X W b fb) (hm : behindInMarks op b = false) : SE X W (.Compare a [op] [b] pos) (eBin fop fa fb) :=
  PE.imp (pe_cmpR ho ha hb hm) fun σ H Q h => bin_ok hop h
theorem tST_E {f : FE} {σ : L2.St} {H : Hp} {Q : Bool → Hp → Prop} (h : tST X.K X.mg W f σ H Q) : tS X.K X.mg W f σ H (fun v H' => ∃ k, v = .bl k ∧ Q k H') := by
  obtain ⟨m, s, h, R0, rs, p⟩ := h
  exact ⟨m, s, h, R0, rs, p.toE⟩
theorem st_cmp {op : CmpOp} {r : R2} {fop : D → D → Hm → RD} (ho : OpR X (compareOp op) r) (hop : OpS X r fop) (ha : SE X W a fa) (hb : SE X W b fb) (hm : behindInMarks op b = false) : ST X W (.Compare a [op] [b] pos) (eBin fop fa fb) :=
  PT.imp (pt_cmpR ho ha hb hm) fun σ H Q h => bin_ok hop (tST_E h)
/-- a value that is a truth value, as a test -/
theorem st_val (he : SE X W e f) (hw : ∀ whole, isTrue e X.env whole = (do let v ← whole; standAt e.pos; holding [v] (truthy v)) := by intro _; rfl) : ST X W e f :=
  PT.imp (pt_val he hw) fun σ H Q h => tST_E h
theorem SW.st (h : SW X W e f) : ST X W e f := PW.pt h

def IxS := 1
/-! ### and, or, not, if -/
def eAnd (fa fb : FE) : FE := fun s h => (fa s h).bind fun d h1 => match d with
  | .bl true => fb s h1
  | .bl false => .ok (.bl false) h1
  | _ => .bad
def eOr (fa fb : FE) : FE := fun s h => (fa s h).bind fun d h1 => match d with
  | .bl true => .ok (.bl true) h1
  | .bl false => fb s h1
  | _ => .bad
def eNot (fa : FE) : FE := fun s h => (fa s h).bind fun d h1 => match d with
  | .bl b => .ok (.bl (!b)) h1
  | _ => .bad
def eIf (fc fa fb : FE) : FE := fun s h => (fc s h).bind fun d h1 => match d with
  | .bl true => fa s h1
  | .bl false => fb s h1
  | _ => .bad
variable {rest : List Expr}
theorem sw_and1 (ha : ST X W a fa) : SW X W (.BoolOp .And [a] pos) fa := pw_and1 ha
theorem sw_or1 (ha : ST X W a fa) : SW X W (.BoolOp .Or [a] pos) fa := pw_or1 ha
theorem sw_and (ha : ST X W a fa) (hb : SW X W (.BoolOp .And (b :: rest) pos) fb) : SW X W (.BoolOp .And (a :: b :: rest) pos) (eAnd fa fb) := by
  refine PW.imp (pw_and ha hb) fun σ H Q h => ?_
  obtain ⟨m, s, h, R0, rs, p⟩ := h
  refine ⟨m, s, h, R0, rs, ?_⟩
  have p' := PostT.bind (fun d h hd => by cases d <;> first | rfl | exact absurd rfl (hd _)) p
  generalize fa s h = r at p'
  cases r with
  | ok d h1 =>
    cases d with
    | bl c =>
      intro m' H' g r'
      obtain ⟨m2, h2, g2, r2, p2⟩ := p' m' H' g r'
      cases c with
      | true => exact iteT ⟨m2, s, h2, r2, rs.grow g2, p2⟩
      | false => exact iteF (p2 m2 H' (Grow.refl _ _) r2)
    | _ => exact p'
  | exc c fs h1 => exact p'
  | bad => exact p'
theorem sw_or (ha : ST X W a fa) (hb : SW X W (.BoolOp .Or (b :: rest) pos) fb) : SW X W (.BoolOp .Or (a :: b :: rest) pos) (eOr fa fb) := by
  refine PW.imp (pw_or ha hb) fun σ H Q h => ?_
  obtain ⟨m, s, h, R0, rs, p⟩ := h
  refine ⟨m, s, h, R0, rs, ?_⟩
  have p' := PostT.bind (fun d h hd => by cases d <;> first | rfl | exact absurd rfl (hd _)) p
  generalize fa s h = r at p'
  cases r with
  | ok d h1 =>
    cases d with
    | bl c =>
      intro m' H' g r'
      obtain ⟨m2, h2, g2, r2, p2⟩ := p' m' H' g r'
      cases c with
      | false => exact iteF ⟨m2, s, h2, r2, rs.grow g2, p2⟩
      | true => exact iteT (p2 m2 H' (Grow.refl _ _) r2)
    | _ => exact p'
  | exc c fs h1 => exact p'
  | bad => exact p'
theorem st_not (ha : ST X W a fa) : ST X W (.UnaryOp .Not a pos) (eNot fa) := by
  refine PT.imp (pt_not ha) fun σ H Q h => ?_
  obtain ⟨m, s, h, R0, rs, p⟩ := h
  refine ⟨m, s, h, R0, rs, ?_⟩
  have p' := PostT.bind (fun d h hd => by cases d <;> first | rfl | exact absurd rfl (hd _)) p
  generalize fa s h = r at p'
  cases r with
  | ok d h1 =>
    cases d with
    | bl c =>
      intro m' H' g r'
      obtain ⟨m2, h2, g2, r2, p2⟩ := p' m' H' g r'
      exact p2 m2 H' (Grow.refl _ _) r2
    | _ => exact p'
  | exc c fs h1 => exact p'
  | bad => exact p'
theorem se_one {op} (h : SE X W a fa) : SE X W (.BoolOp op [a] pos) fa := pe_one h
theorem se_and (ha : SE X W a fa) (hb : SE X W (.BoolOp .And (b :: rest) pos) fb) : SE X W (.BoolOp .And (a :: b :: rest) pos) (eAnd fa fb) := by
  refine PE.imp (pe_and ha hb) fun σ H Q h => ?_
  obtain ⟨m, s, h, R0, rs, p⟩ := h
  refine ⟨m, s, h, R0, rs, PostE.mono (PostE.bind p) ?_⟩
  rintro x H1 ⟨m1, dx, h1, g1, R1, rx, p1⟩
  cases dx with
  | bl c =>
    refine ⟨c, rx.bl_inv, ?_⟩
    cases c with
    | true => exact iteT ⟨m1, s, h1, R1, rs.grow g1, p1⟩
    | false => exact iteF (p1.val R1 (.bl false))
  | _ => exact False.elim p1
theorem se_or (ha : SE X W a fa) (hb : SE X W (.BoolOp .Or (b :: rest) pos) fb) : SE X W (.BoolOp .Or (a :: b :: rest) pos) (eOr fa fb) := by
  refine PE.imp (pe_or ha hb) fun σ H Q h => ?_
  obtain ⟨m, s, h, R0, rs, p⟩ := h
  refine ⟨m, s, h, R0, rs, PostE.mono (PostE.bind p) ?_⟩
  rintro x H1 ⟨m1, dx, h1, g1, R1, rx, p1⟩
  cases dx with
  | bl c =>
    refine ⟨c, rx.bl_inv, ?_⟩
    cases c with
    | false => exact iteF ⟨m1, s, h1, R1, rs.grow g1, p1⟩
    | true => exact iteT (p1.val R1 (.bl true))
  | _ => exact False.elim p1
theorem se_not (ha : SE X W a fa) : SE X W (.UnaryOp .Not a pos) (eNot fa) := by
  refine PE.imp (pe_not ha) fun σ H Q h => ?_
  obtain ⟨m, s, h, R0, rs, p⟩ := h
  refine ⟨m, s, h, R0, rs, PostE.mono (PostE.bind p) ?_⟩
  rintro x H1 ⟨m1, dx, h1, g1, R1, rx, p1⟩
  cases dx with
  | bl c => exact ⟨c, rx.bl_inv, p1.val R1 (.bl _)⟩
  | _ => exact False.elim p1
theorem se_if (hc : ST X W c fc) (ha : SE X W a fa) (hb : SE X W b fb) : SE X W (.IfExp c a b pos) (eIf fc fa fb) := by
  refine PE.imp (pe_ifExp hc ha hb) fun σ H Q h => ?_
  obtain ⟨m, s, h, R0, rs, p⟩ := h
  refine ⟨m, s, h, R0, rs, ?_⟩
  unfold eIf at p
  generalize fc s h = r at p
  cases r with
  | ok d h1 =>
    cases d with
    | bl c =>
      intro m' H' g r'
      cases c with
      | true => exact iteT ⟨m', s, h1, r', rs.grow g, PostE.grow p g⟩
      | false => exact iteF ⟨m', s, h1, r', rs.grow g, PostE.grow p g⟩
    | _ => exact p
  | exc c fs h1 => exact p
  | bad => exact p
/-- a op1 b op2 c -/
def eChain (f1 f2 : D → D → Hm → RD) (fa fb fc : FE) : FE := fun s h => (fa s h).bind fun x h1 => (fb s h1).bind fun y h2 => (f1 x y h2).bind fun d h3 => match d with
  | .bl true => (fc s h3).bind fun z h4 => f2 y z h4
  | .bl false => .ok (.bl false) h3
  | _ => .bad
theorem chain_ok {r r' : R2} {f1 f2 : D → D → Hm → RD} (h1 : OpS X r f1) (h2 : OpS X r' f2) {σ : L2.St} {H : Hp} {Q : VK} (h : tS X.K X.mg W (eChain f1 f2 fa fb fc) σ H Q) :
    tChain r r' (tS X.K X.mg W fa) (tS X.K X.mg W fb) (tS X.K X.mg W fc) σ H Q := by
  obtain ⟨m, s, h, R0, rs, p⟩ := h
  refine ⟨m, s, h, R0, rs, PostE.mono (PostE.bind p) ?_⟩
  rintro x H1 ⟨m1, dx, h1', g1, R1, rx, p1⟩
  refine ⟨m1, s, h1', R1, rs.grow g1, PostE.mono (PostE.bind p1) ?_⟩
  rintro y H2 ⟨m2, dy, h2', g2, R2, ry, p2⟩
  refine h1 _ m2 H2 h2' x y dx dy _ R2 (rx.grow g2) ry (PostE.mono (PostE.bind p2) ?_)
  rintro z H3 ⟨m3, dz, h3, g3, R3, rz, p3⟩
  cases dz with
  | bl k =>
    refine ⟨k, rz.bl_inv, ?_⟩
    cases k with
    | true =>
      refine iteT ⟨m3, s, h3, R3, rs.grow (g1.trans (g2.trans g3)), PostE.mono (PostE.bind p3) ?_⟩
      rintro z H4 ⟨m4, dz, h4, g4, R4, rz, p4⟩
      exact h2 _ m4 H4 h4 y z dy dz Q R4 (ry.grow (g3.trans g4)) rz p4
    | false => exact iteF (p3.val R3 (.bl false))
  | _ => exact False.elim p3
theorem se_chain {op op' : CmpOp} {r r' : R2} {f1 f2 : D → D → Hm → RD} (ho : OpR X (compareOp op) r) (ho' : OpR X (compareOp op') r') (h1 : OpS X r f1) (h2 : OpS X r' f2) (ha : SE X W a fa) (hb : SE X W b fb) (hc : SE X W c fc)
    (hm : lastMarks [op, op'] [b, c] = false := by with_unfolding_all rfl) : SE X W (.Compare a [op, op'] [b, c] pos) (eChain f1 f2 fa fb fc) :=
  PE.imp (pe_chain ho ho' ha hb hc hm) fun σ H Q h => chain_ok h1 h2 h
theorem st_chain {op op' : CmpOp} {r r' : R2} {f1 f2 : D → D → Hm → RD} (ho : OpR X (compareOp op) r) (ho' : OpR X (compareOp op') r') (h1 : OpS X r f1) (h2 : OpS X r' f2) (ha : SE X W a fa) (hb : SE X W b fb) (hc : SE X W c fc)
    (hm : lastMarks [op, op'] [b, c] = false := by with_unfolding_all rfl) : ST X W (.Compare a [op, op'] [b, c] pos) (eChain f1 f2 fa fb fc) :=
  PT.imp (pt_chain ho ho' ha hb hc hm) fun σ H Q h => chain_ok h1 h2 (tST_E h)

/-! ### argument lists, displays -/
def evalL : List FE → FA
  | [], _, h => .ok [] h
  | f :: fs, s, h => match f s h with
    | .ok d h1 => (match evalL fs s h1 with
      | .ok ds h2 => .ok (d :: ds) h2
      | r => r)
    | .exc c x h1 => .exc c x h1
    | .bad => .bad
variable {es : List Expr} {fs : List FE}
theorem evalL_length : ∀ {fs : List FE} {s : DS} {h h' : Hm} {ds : List D}, evalL fs s h = .ok ds h' → ds.length = fs.length
  | [], s, h, h', ds, e => by
    unfold evalL at e
    cases e
    rfl
  | f :: fs, s, h, h', ds, e => by
    unfold evalL at e
    split at e
    · split at e
      · rename_i q
        cases e
        simp [evalL_length q]
      · rename_i hne
        exact absurd e (hne _ _)
    · cases e
    · cases e
theorem sa_nil : SA X W [] (evalL []) := PA.imp pa_nil fun σ H Q ⟨m, s, h, r, rs, p⟩ => p m H [] (Grow.refl _ _) r .nil
theorem sa_cons (ha : SE X W e f) (hr : SA X W es (evalL fs)) (hs : starEach (e :: es) X.env = (false, eval e X.env) :: starEach es X.env := by rfl) : SA X W (e :: es) (evalL (f :: fs)) := by
  refine PA.imp (pa_cons ha hr hs) fun σ H Q h => ?_
  obtain ⟨m, s, h, R0, rs, p⟩ := h
  refine ⟨m, s, h, R0, rs, ?_⟩
  unfold evalL at p
  generalize f s h = r at p
  cases r with
  | ok d h1 =>
    intro m1 H1 v g1 R1 rv
    refine ⟨m1, s, h1, R1, rs.grow g1, ?_⟩
    replace p := PostA.grow p g1
    dsimp only at p
    generalize evalL fs s h1 = r2 at p
    cases r2 with
    | ok ds h2 => exact fun m2 H2 vs g2 R2 rvs => p m2 H2 (v :: vs) g2 R2 (.cons (rv.grow g2) rvs)
    | exc c fs h1 => exact p
    | bad => exact p
  | exc c fs h1 => exact p
  | bad => exact p
def eArgs (g : List D → Hm → RD) (fs : List FE) : FE := fun s h => match evalL fs s h with
  | .ok ds h1 => g ds h1
  | .exc c x h1 => .exc c x h1
  | .bad => .bad
/-- what follows an argument list -/
theorem args_ok {g : List D → Hm → RD} {r : List V → Hp → VK → Prop} {σ : L2.St} {H : Hp} {Q : VK}
    (k : ∀ m1 H1 vs ds h1 s h, R X.K X.mg m1 H1 h1 → RepL X.K m1 H1 vs ds → evalL fs s h = .ok ds h1 → PostE X.K X.mg (fun c d H' => W c d σ H') m1 H1 (g ds h1) Q → r vs H1 Q)
    (h : tS X.K X.mg W (eArgs g fs) σ H Q) : tSA X.K X.mg W (evalL fs) σ H fun vs H1 => r vs H1 Q := by
  obtain ⟨m, s, h, R0, rs, p⟩ := h
  refine ⟨m, s, h, R0, rs, ?_⟩
  unfold eArgs at p
  generalize q : evalL fs s h = r at p
  cases r with
  | ok ds h1 => exact fun m1 H1 vs g1 R1 rvs => k m1 H1 vs ds h1 s h R1 rvs q (PostE.grow p g1)
  | exc c fs h1 => exact p
  | bad => exact p
theorem args_ok' {g : List D → Hm → RD} {r : List V → Hp → VK → Prop} {σ : L2.St} {H : Hp} {Q : VK} {m : List Addr} {s : DS} {h : Hm} (R0 : R X.K X.mg m H h) (rs : RS X.K m H σ s) (p : PostE X.K X.mg (fun c d H' => W c d σ H') m H (eArgs g fs s h) Q)
    (k : ∀ m1 H1 vs ds h1, Grow m H m1 H1 → R X.K X.mg m1 H1 h1 → RepL X.K m1 H1 vs ds → evalL fs s h = .ok ds h1 → PostE X.K X.mg (fun c d H' => W c d σ H') m1 H1 (g ds h1) Q → r vs H1 Q) : tSA X.K X.mg W (evalL fs) σ H fun vs H1 => r vs H1 Q := by
  refine ⟨m, s, h, R0, rs, ?_⟩
  unfold eArgs at p
  generalize q : evalL fs s h = r at p
  cases r with
  | ok ds h1 => exact fun m1 H1 vs g1 R1 rvs => k m1 H1 vs ds h1 g1 R1 rvs q (PostE.grow p g1)
  | exc c fs h1 => exact p
  | bad => exact p
def eTup (fs : List FE) : FE := eArgs (fun ds h => .ok (.tup ds) h) fs
def eLst (fs : List FE) : FE := eArgs (fun ds h => .ok (.ref h.length) (h ++ [.lst ds])) fs
/-- (a, b, ..): the new tuple's object is known -/
def tTupF (t : TA) : TE := fun σ H Q => t σ H fun xs H1 => xs.length ≤ sizeLine ∧ ∀ p o, H1 p = none → o.dict = none → Q (.ref p) (upd H1 p (.frz o (.tup xs)))
theorem pe_tupF {t : TA} {x1} (h : PA X es t) : PE X (.Tuple es x1 pos) (tTupF t) := by
  refine ⟨fun pins s σ H Q I hq => ?_⟩
  refine wpAny_Tuple_spliced (thn (h.run pos pins s σ H _ I hq) fun us s1 ⟨xs, H1, I1, r, z, q⟩ => ⟨by rw [← r.length]; exact z, ?_⟩)
  have hf : H1 s1.heap.objs.size = none := I1.hok.fresh (Nat.le_refl _)
  refine ⟨.ref s1.heap.objs.size, upd H1 s1.heap.objs.size (.frz { cls := .type "tuple", data := .seq us.toArray } (.tup xs)), I1.laid (t' := s1.toks) (fun b u e => Heap.get?_push_of_some _ e) (Nat.le_refl _) ?_, rfl, q _ { cls := .type "tuple", data := .seq us.toArray } hf rfl⟩
  exact ⟨Heap.get?_push_size _ rfl, z, us, r, ⟨_, Heap.get?_push_size _ rfl, rfl, _, rfl⟩⟩
theorem se_tup {x1} (h : SA X W es (evalL fs)) (hl : decide (fs.length ≤ 1000) = true := by rfl) : SE X W (.Tuple es x1 pos) (eTup fs) := by
  refine PE.imp (pe_tupF h) fun σ H Q h => ?_
  refine args_ok (r := fun xs H1 Q => xs.length ≤ sizeLine ∧ ∀ p o, H1 p = none → o.dict = none → Q (.ref p) (upd H1 p (.frz o (.tup xs)))) (fun m1 H1 vs ds h1 s h0 R1 rvs e p => ⟨?_, PostE.tup p R1 rvs⟩) h
  rw [rvs.length, evalL_length e, sizeLine_eq]
  exact Nat.le_trans (of_decide_eq_true hl) (by decide)
theorem se_lst (h : SA X W es (evalL fs)) (hl : decide (fs.length ≤ 1000) = true := by rfl) : SE X W (.List es pos) (eLst fs) := by
  refine PE.imp (pe_lst h) fun σ H Q h => ?_
  refine args_ok (r := fun xs H1 Q => xs.length ≤ sizeLine ∧ ∀ p, H1 p = none → Q (.ref p) (upd H1 p (.lst xs))) (fun m1 H1 vs ds h1 s h0 R1 rvs e p => ⟨?_, PostE.lst p R1 rvs⟩) h
  rw [rvs.length, evalL_length e, sizeLine_eq]
  exact Nat.le_trans (of_decide_eq_true hl) (by decide)

/-! ### calls -/
/-- a def's promise: what the function F of data gives -/
def spF (K : PySem.W.Frag) (mg : Str → Option Value) (n : Nat) (F : FF) : Sp := fun vs H Q E => vs.length = n ∧ ∃ m ds h, R K mg m H h ∧ RepL K m H vs ds ∧ PostE K mg E m H (F ds h) Q
variable {P : Program} {w : World} {k n : Nat} {fa' : Addr} {fd : FuncData} {ps : List Str} {F : FF} {x : Str} {p : Pos}
/-- the callee keeps what F tells -/
abbrev FnS (X : Cx) (k : Nat) (f : Addr) (fd : FuncData) (ps : List Str) (F : FF) : Prop := FnOk X.prog X.w X.K X.mg X.base (L2.CX X.prog X.w) k f fd ps (spF X.K X.mg ps.length F)
theorem se_call (G : FnS X k fa' fd ps F) (tk : Takes X W) (hr : Room k X.A) (hg : Gl X x) (hm : X.mg x = some (.ref fa')) (hk : PySem.W.keepIn X.K (.ref fa') = true) (hb : Binds X.K fd ps []) (ha : SA X W (e :: es) (evalL fs))
    (hl : decide (fs.length = ps.length) = true := by rfl) (hdb : (x == ("__debug__" : Str)) = false := by decide) (he : starEach (e :: es) X.env = (false, eval e X.env) :: starEach es X.env := by rfl) (hpl : (backTo pos (starEach es X.env)).any (·.1) = false := by rfl) :
    SE X W (.Call (.Name x p) (e :: es) [] pos) (eArgs F fs) := by
  refine PE.imp (pe_callS G hr hg hm hk hb (fun σ => passAt tk σ) ha hdb he hpl) fun σ H Q h => ?_
  exact args_ok (r := fun vs H1 Q => spF X.K X.mg ps.length F vs H1 Q (WE W σ)) (fun m1 H1 vs ds h1 s h0 R1 rvs ee p => ⟨by rw [rvs.length, evalL_length ee]; exact of_decide_eq_true hl, m1, ds, h1, R1, rvs, p⟩) h
/-- a built-in function or type, by values -/
def CallS (X : Cx) (r : List V → Hp → VK → Prop) (g : List D → Hm → RD) : Prop := ∀ (W : XK) (m : List Addr) (H : Hp) (h : Hm) (vs : List V) (ds : List D) (Q : VK), R X.K X.mg m H h → RepL X.K m H vs ds → PostE X.K X.mg W m H (g ds h) Q → r vs H Q
variable {id T : String} {r : List V → Hp → VK → Prop} {g : List D → Hm → RD}
theorem se_callB (hc : CallR X (.builtin id) r) (hs : CallS X r g) (hg : Gl X x) (hm : X.mg x = none) (hv : bootBuiltins x = some (.builtin id)) (ha : SA X W (e :: es) (evalL fs)) (hn : x ≠ "__name__" := by decide) (hdb : (x == ("__debug__" : Str)) = false := by decide)
    (he : starEach (e :: es) X.env = (false, eval e X.env) :: starEach es X.env := by rfl) (hpl : (backTo pos (starEach es X.env)).any (·.1) = false := by rfl) : SE X W (.Call (.Name x p) (e :: es) [] pos) (eArgs g fs) :=
  PE.imp (pe_callB hc hg hm hv ha hn hdb he hpl) fun σ H Q h => args_ok (r := r) (fun m1 H1 vs ds h1 s h0 R1 rvs ee p => hs _ m1 H1 h1 vs ds Q R1 rvs p) h
theorem se_callTy (hc : CallR X (.type T) r) (hs : CallS X r g) (hg : Gl X x) (hm : X.mg x = none) (hv : bootBuiltins x = some (.type T)) (ha : SA X W (e :: es) (evalL fs)) (hn : x ≠ "__name__" := by decide) (hdb : (x == ("__debug__" : Str)) = false := by decide)
    (he : starEach (e :: es) X.env = (false, eval e X.env) :: starEach es X.env := by rfl) (hpl : (backTo pos (starEach es X.env)).any (·.1) = false := by rfl) : SE X W (.Call (.Name x p) (e :: es) [] pos) (eArgs g fs) :=
  PE.imp (pe_callTy hc hg hm hv ha hn hdb he hpl) fun σ H Q h => args_ok (r := r) (fun m1 H1 vs ds h1 s h0 R1 rvs ee p => hs _ m1 H1 h1 vs ds Q R1 rvs p) h
end
end Sh

set_option Elab.async false
set_option linter.all false
set_option maxRecDepth 100000
set_option maxHeartbeats 4000000
namespace Sh
open PySem L2 PyProof.Rows
def big : Nat := 1000000
theorem big_line {n : Nat} (h : n ≤ big) : n ≤ sizeLine := by
  rw [sizeLine_eq]
  unfold big at h
  omega
/-! ### new tuples whose object is known -/
section
variable {X : Cx}
theorem Inv.tupF {pins : List (Addr × Obj)} {σ : L2.St} {H : Hp} {s : Shared} (I : Inv X pins σ H s) {ys : List V} {its : List Value} (r : Vals ys its) (hz : ys.length ≤ sizeLine) (t : Nat) :
    Inv X pins σ (upd H s.heap.objs.size (.frz { cls := .type "tuple", data := .seq its.toArray } (.tup ys))) { s with heap := s.heap.push { cls := .type "tuple", data := .seq its.toArray }, toks := t } :=
  I.laid (t' := t) (o := .frz { cls := .type "tuple", data := .seq its.toArray } (.tup ys)) (fun b ob q => Heap.get?_push_of_some _ q) (Nat.le_refl _) ⟨Heap.get?_push_size _ rfl, hz, its, r, IsTup.new _ _⟩
def rTupF (ys : List V) (H : Hp) (Q : VK) : Prop := ∀ p o, H p = none → o.dict = none → Q (.ref p) (upd H p (.frz o (.tup ys)))
theorem call_tuple_ofF : CallR X (.type "tuple") (fun xs H Q => ∃ p ys, xs = [.ref p] ∧ ((SqL X.K H p ys ∧ rTupF ys H Q) ∨ (SqT X.K H p ys ∧ Q (.ref p) H))) := by
  intro pins s σ H xs us Q I r h
  obtain ⟨p, ys, rfl, h⟩ := h
  obtain ⟨u, rfl, rx⟩ := vals1 r
  cases rx
  rcases h with ⟨hq, q⟩ | ⟨hq, q⟩
  · obtain ⟨its, r', pl, hz⟩ := I.list hq
    have hlen := r'.length
    refine call_tuple_list pl.isList (fun h' kp => ?_) (by simp only [List.size_toArray] <;> omega)
    have I1 : Inv X pins σ H { s with heap := h' } := I.kept (t' := s.toks) kp
    exact ⟨.ref h'.objs.size, _, Inv.tupF I1 r' hz s.toks, rfl, q _ _ (I1.hok.fresh (Nat.le_refl _)) rfl⟩
  · obtain ⟨its, r', pl, hz⟩ := I.tuple hq
    exact call_tuple_same pl ⟨.ref p, H, I, rfl, q⟩
def rCatF (K : PySem.W.Frag) : R2 := fun x y H Q => ∃ a b xs ys, x = .ref a ∧ y = .ref b ∧ SqT K H a xs ∧ SqT K H b ys ∧ xs.length + ys.length ≤ sizeLine ∧
  (xs = [] → Q (.ref b) H) ∧ (xs ≠ [] → ys = [] → Q (.ref a) H) ∧ (xs ≠ [] → ys ≠ [] → rTupF (xs ++ ys) H Q)
theorem op_catF : OpR X (binaryOp .Add) (rCatF X.K) := by
  intro pins s σ H x y v u Q I rx ry h
  obtain ⟨a, b, xs, ys, rfl, rfl, ha, hb, hz, q0, q1, q2⟩ := h
  by_cases hx : xs = []
  · exact op_catA pins s σ H _ _ v u Q I rx ry ⟨a, b, xs, ys, rfl, rfl, ha, hb, hz, q0, q1, fun z => absurd hx z⟩
  · cases rx
    cases ry
    obtain ⟨its, r1, p1, _⟩ := I.tuple ha
    obtain ⟨its2, r2, p2, _⟩ := I.tuple hb
    refine HT.cat_tup p1 p2 (fun z => hx (r1.nil_iff.mp z)) (fun z => ⟨.ref a, H, I, rfl, q1 hx (r2.nil_iff.mp z)⟩) (fun z => ?_) (by rw [← r1.length, ← r2.length]; exact hz)
    exact ⟨.ref s.heap.objs.size, _, Inv.tupF I (r1.append r2) (by rw [List.length_append]; exact hz) s.toks, rfl, q2 hx (fun w => z (r2.nil_iff.mpr w)) _ _ (I.hok.fresh (Nat.le_refl _)) rfl⟩
def rSlF (K : PySem.W.Frag) : V → Option Int → Option Int → Hp → VK → Prop := fun x lo hi H Q => ∃ a xs, x = .ref a ∧ SqT K H a xs ∧
  (HT.sIx xs.length 0 lo = 0 ∧ HT.sIx xs.length xs.length hi = xs.length → Q (.ref a) H) ∧ (¬ (HT.sIx xs.length 0 lo = 0 ∧ HT.sIx xs.length xs.length hi = xs.length) → rTupF (cutV xs lo hi) H Q)
theorem sl_tupF : SlR X (rSlF X.K) := by
  intro pins s σ H x v vl vu lo hi sl Q I rx hs pl pu h
  obtain ⟨a, xs, rfl, hx, q1, q2⟩ := h
  by_cases hw : HT.sIx xs.length 0 lo = 0 ∧ HT.sIx xs.length xs.length hi = xs.length
  · exact sl_tupA pins s σ H _ v vl vu lo hi sl Q I rx hs pl pu ⟨a, xs, rfl, hx, q1, fun z => absurd hw z⟩
  · cases rx
    obtain ⟨its, r, ht, hz⟩ := I.tuple hx
    have hlen : its.toArray.size = xs.length := by rw [List.size_toArray]; exact r.length.symm
    refine ⟨"tuple", _, PyProof.Rows.slot_tuple_getitem.lookup, ht.typeIs, ?_⟩
    refine HT.getItem_tuple_cut ht hs pl pu (by rw [hlen]; exact hw) ?_ (by rw [hlen]; exact hz)
    rw [hlen]
    exact ⟨.ref s.heap.objs.size, _, Inv.tupF I ((r.drop (HT.sIx xs.length 0 lo)).take (HT.sIx xs.length xs.length hi - HT.sIx xs.length 0 lo)) (Nat.le_trans (cutV_length xs lo hi) hz) s.toks, rfl, q2 hw _ _ (I.hok.fresh (Nat.le_refl _)) rfl⟩
/-- a call of a tuple's own method, the tuple's object known -/
def tupV (K : PySem.W.Frag) (x : V) (H : Hp) : Prop := ∃ p xs, x = .ref p ∧ TupS K H p xs
theorem tupV_is {pins : List (Addr × Obj)} {σ : L2.St} {H : Hp} {s : Shared} {x : V} {v : Value} (I : Inv X pins σ H s) (r : RelV x v) (ty : tupV X.K x H) :
    s.TypeIs v "tuple" ∧ ∀ a, v = .ref a → ∃ ob, s.heap.get? a = some ob ∧ ob.dict = none := by
  obtain ⟨p, xs, rfl, h⟩ := ty
  cases r
  obtain ⟨its, rv, pl, hz⟩ := I.tuple h.sqT
  refine ⟨pl.typeIs, fun a e => ?_⟩
  cases e
  rcases h with ⟨o, h1, h2⟩ | ⟨o, its, n, h1, h2, h3, _⟩
  · exact ⟨o, (I.hok _ _ h1).1, h2⟩
  · exact ⟨o, I.kIn _ o h1, h3⟩
def tTM (K : PySem.W.Frag) (r : V → List V → Hp → VK → Prop) (to : TE) (t : TA) : TE := fun σ H Q => to σ H fun x H1 => tupV K x H1 ∧ t σ H1 fun xs H2 => r x xs H2 Q
variable {o e : Expr} {es : List Expr} {to : TE} {t : TA} {name : Str} {apos cpos : Pos} {id : String} {r : V → List V → Hp → VK → Prop}
theorem pe_tm (pa : PlainAttrs "tuple") (slot : Slot "tuple" name id) (hty : typeOf (.builtin id) = pure (.type "method_descriptor")) (hm : MtR X id r) (ho : PE X o to) (ha : PA X (e :: es) t)
    (hbase : attributeBase o name X.env (eval o X.env) = eval o X.env := by rfl)
    (hfew : ((backTo cpos (starEach (e :: es) X.env)).all (fun x => !x.1) && (backToKw cpos (keywordEach [] X.env)).all (fun x => x.1.isSome)
      && decide ((e :: es).length + ([] : List Keyword).length + (if ([] : List Keyword).isEmpty then 0 else 1) < 30)) = true := by rfl)
    (hline : (apos.endLine == cpos.line) = true := by rfl) (hs : starEach (e :: es) X.env = (false, eval e X.env) :: starEach es X.env := by rfl) (hplain : (backTo cpos (starEach es X.env)).any (·.1) = false := by rfl) :
    PE X (.Call (.Attribute o name apos) (e :: es) [] cpos) (tTM X.K r to t) := by
  refine ⟨fun pins s σ H Q I h => ?_⟩
  refine wpAny_Call_method_late hbase hfew hline rfl (thn (ho.run pins s σ H _ I h) fun v s1 ⟨x, H1, I1, r1, ty, q1⟩ => ?_)
  obtain ⟨h1, h2⟩ := tupV_is I1 r1 ty
  refine ⟨"tuple", id, pa, slot, hty, h1, h2, ?_⟩
  have hA := ha.run cpos pins s1 σ H1 _ I1 q1
  rw [hs] at hA ⊢
  refine Calls.callWith_builtin (by show (false || (backTo cpos (starEach es X.env)).any (·.1)) = false; rw [hplain] <;> rfl) (Calls.evalArgs_plain ?_)
  exact thn hA fun us s2 ⟨vs, H2, I2, r2, q2⟩ => hm pins s2 σ H2 x vs v us Q I2 r1 r2 q2
end

/-! ### data as the library has it -/
def mapO (f : D → Option PyData) : List D → Option (List PyData)
  | [] => some []
  | d :: ds => match f d, mapO f ds with
    | some p, some ps => some (p :: ps)
    | _, _ => none
def toPy : Nat → Hm → D → Option PyData
  | _, _, .non => some .none
  | _, _, .bl b => some (.bool b)
  | _, _, .int i => some (.int i)
  | _, _, .str x => some (.str x)
  | 0, _, _ => none
  | n + 1, h, .tup ds => (mapO (toPy n h) ds).map .tuple
  | n + 1, h, .ref k => match h[k]? with
    | some (.lst ds) => (mapO (toPy n h) ds).map .list
    | some (.scr ds) => (mapO (toPy n h) ds).map .list
    | _ => none
  | n + 1, h, .scl ds => (mapO (toPy n h) ds).map .list
section
variable {K : PySem.W.Frag} {mg : Str → Option Value} {m : List Addr} {H : Hp} {h : Hm}
theorem mapO_dp {f : D → Option PyData} (k : ∀ v d p, Rep K m H v d → f d = some p → Dp K H v p) : ∀ (ds : List D) (vs : List V) (ps : List PyData), RepL K m H vs ds → mapO f ds = some ps → DpAll K H vs ps
  | [], _, ps, .nil, e => by cases e; exact .nil
  | d :: ds, _, ps, .cons r t, e => by
    unfold mapO at e
    split at e
    · rename_i p qs h1 h2
      cases e
      exact .cons (k _ _ _ r h1) (mapO_dp k ds _ _ t h2)
    · cases e
theorem ObjR.sqL {a : Addr} {ds : List D} (x : ObjR K mg m H a (.lst ds) ∨ ObjR K mg m H a (.scr ds)) : ∃ vs, SqL K H a vs ∧ RepL K m H vs ds := by
  rcases x with ⟨vs, h1, h2⟩ | ⟨vs, h1, h2⟩
  · exact ⟨vs, .inl (.inl h1), h2⟩
  · exact ⟨vs, .inl h1, h2⟩
theorem toPy_dp (r : R K mg m H h) : ∀ (n : Nat) (v : V) (d : D) (p : PyData), Rep K m H v d → toPy n h d = some p → Dp K H v p
  | n, _, .non, p, x, e => by cases x; simp only [toPy] at e; cases e; exact .non
  | n, _, .bl b, p, x, e => by cases x; simp only [toPy] at e; cases e; exact .bl b
  | n, _, .int b, p, x, e => by cases x; simp only [toPy] at e; cases e; exact .int b
  | n, _, .str b, p, x, e => by cases x; simp only [toPy] at e; cases e; exact .str b
  | 0, _, .tup ds, p, x, e => by simp only [toPy] at e; cases e
  | 0, _, .ref k, p, x, e => by simp only [toPy] at e; cases e
  | 0, _, .scl k, p, x, e => by simp only [toPy] at e; cases e
  | n + 1, _, .scl ds, p, x, e => by
    simp only [toPy] at e
    obtain ⟨ps, h1, rfl⟩ := Option.map_eq_some_iff.mp e
    obtain ⟨a, vs, rfl, h2, h3⟩ := x.scl_inv
    exact .lst h2.sqL (mapO_dp (fun v d p => toPy_dp r n v d p) ds vs ps h3 h1)
  | n + 1, _, .tup ds, p, x, e => by
    simp only [toPy] at e
    obtain ⟨ps, h1, rfl⟩ := Option.map_eq_some_iff.mp e
    obtain ⟨a, vs, rfl, h2, h3⟩ := x.tup_inv
    exact .tup h2.sqT (mapO_dp (fun v d p => toPy_dp r n v d p) ds vs ps h3 h1)
  | n + 1, _, .ref k, p, x, e => by
    simp only [toPy] at e
    obtain ⟨a, rfl, hm⟩ := x.ref_inv
    split at e
    · rename_i ds hk
      obtain ⟨ps, h1, rfl⟩ := Option.map_eq_some_iff.mp e
      obtain ⟨vs, q1, q2⟩ := ObjR.sqL (.inl (r.ob _ _ _ hm hk))
      exact .lst q1 (mapO_dp (fun v d p => toPy_dp r n v d p) ds vs ps q2 h1)
    · rename_i ds hk
      obtain ⟨ps, h1, rfl⟩ := Option.map_eq_some_iff.mp e
      obtain ⟨vs, q1, q2⟩ := ObjR.sqL (.inr (r.ob _ _ _ hm hk))
      exact .lst q1 (mapO_dp (fun v d p => toPy_dp r n v d p) ds vs ps q2 h1)
    · cases e
end
/-- the items of a list or tuple -/
def items (h : Hm) : D → Option (List D)
  | .tup ds => some ds
  | .ref k => match h[k]? with
    | some (.lst ds) => some ds
    | some (.scr ds) => some ds
    | _ => none
  | .scl ds => some ds
  | _ => none
section
variable {K : PySem.W.Frag} {mg : Str → Option Value} {m : List Addr} {H : Hp} {h : Hm}
theorem items_sq (r : R K mg m H h) {v : V} {d : D} {ds : List D} (x : Rep K m H v d) (e : items h d = some ds) : ∃ a vs, v = .ref a ∧ (SqL K H a vs ∨ SqT K H a vs) ∧ RepL K m H vs ds := by
  cases d with
  | tup es =>
    cases e
    obtain ⟨a, vs, rfl, h2, h3⟩ := x.tup_inv
    exact ⟨a, vs, rfl, .inr h2.sqT, h3⟩
  | scl es =>
    cases e
    obtain ⟨a, vs, rfl, h2, h3⟩ := x.scl_inv
    exact ⟨a, vs, rfl, .inl h2.sqL, h3⟩
  | ref k =>
    obtain ⟨a, rfl, hm⟩ := x.ref_inv
    unfold items at e
    simp only at e
    split at e
    · rename_i es hk
      cases e
      obtain ⟨vs, q1, q2⟩ := ObjR.sqL (.inl (r.ob _ _ _ hm hk))
      exact ⟨a, vs, rfl, .inl q1, q2⟩
    · rename_i es hk
      cases e
      obtain ⟨vs, q1, q2⟩ := ObjR.sqL (.inr (r.ob _ _ _ hm hk))
      exact ⟨a, vs, rfl, .inl q1, q2⟩
    · cases e
  | _ => cases e
end

/-! ### + - * // % ** -/
def dAdd (x y : D) (h : Hm) : RD := match x, y with
  | .int i, .int j => .ok (.int (i + j)) h
  | .tup a, .tup b => if a.length + b.length ≤ big then .ok (.tup (a ++ b)) h else .bad
  | .ref a, .ref b => match h[a]?, h[b]? with
    | some (.lst xs), some (.lst ys) => if xs.length + ys.length ≤ big then .ok (.ref h.length) (h ++ [.lst (xs ++ ys)]) else .bad
    | _, _ => .bad
  | .str a, .str b => if a.length + b.length ≤ big then .ok (.str (a ++ b)) h else .bad
  | _, _ => .bad
def rAdd4 (K : PySem.W.Frag) : R2 := fun x y H Q => (rI0 fun i j => .int (i + j)) x y H Q ∨ rCatF K x y H Q ∨ rCat x y H Q ∨ (∃ i j, x = .str i ∧ y = .str j ∧ i.length + j.length ≤ sizeLine ∧ Q (.str (i ++ j)) H)
section
variable {X : Cx}
theorem op_add4 : OpR X (binaryOp .Add) (rAdd4 X.K) := op_add.or (op_catF.or (op_cat.or op_add_str))
theorem os_add : OpS X (rAdd4 X.K) dAdd := by
  intro W m H h x y dx dy Q r rx ry p
  unfold dAdd at p
  split at p
  · cases rx; cases ry
    exact .inl ⟨_, _, rfl, rfl, p.val r (.int _)⟩
  · rename_i a b
    split at p
    · rename_i hz
      obtain ⟨p1, vs, rfl, t1, l1⟩ := rx.tup_inv
      obtain ⟨p2, ws, rfl, t2, l2⟩ := ry.tup_inv
      have e1 := l1.length
      have e2 := l2.length
      refine .inr (.inl ⟨p1, p2, vs, ws, rfl, rfl, t1.sqT, t2.sqT, big_line (by omega), fun z => ?_, fun _ z => ?_, fun _ _ q o hq ho => PostE.tup p r (l1.app l2) q o hq ho⟩)
      · subst z
        cases l1
        exact p.val r ry
      · subst z
        cases l2
        rw [List.append_nil] at p
        exact p.val r rx
    · exact False.elim p
  · split at p
    · rename_i xs ys h1 h2
      split at p
      · rename_i hz
        obtain ⟨p1, rfl, m1⟩ := rx.ref_inv
        obtain ⟨p2, rfl, m2⟩ := ry.ref_inv
        obtain ⟨vs, q1, l1⟩ := r.ob _ _ _ m1 h1
        obtain ⟨ws, q2, l2⟩ := r.ob _ _ _ m2 h2
        have e1 := l1.length
        have e2 := l2.length
        exact .inr (.inr (.inl ⟨p1, p2, vs, ws, rfl, rfl, q1, q2, big_line (by omega), PostE.lst p r (l1.app l2)⟩))
      · exact False.elim p
    · exact False.elim p
  · split at p
    · rename_i hz
      cases rx; cases ry
      exact .inr (.inr (.inr ⟨_, _, rfl, rfl, big_line hz, p.val r (.str _)⟩))
    · exact False.elim p
  · exact False.elim p
def dInt2 (c : Int → Int → Bool) (g : Int → Int → Int) (x y : D) (h : Hm) : RD := match x, y with
  | .int i, .int j => if c i j = true then .ok (.int (g i j)) h else .bad
  | _, _ => .bad
theorem os_int2 {c : Int → Int → Bool} {g : Int → Int → Int} {C : Int → Int → Prop} (k : ∀ i j, c i j = true → C i j) : OpS X (rI C fun i j => .int (g i j)) (dInt2 c g) := by
  intro W m H h x y dx dy Q r rx ry p
  unfold dInt2 at p
  split at p
  · split at p
    · rename_i hc
      cases rx; cases ry
      exact ⟨_, _, rfl, rfl, k _ _ hc, p.val r (.int _)⟩
    · exact False.elim p
  · exact False.elim p
def dInt0 (g : Int → Int → Int) (x y : D) (h : Hm) : RD := match x, y with
  | .int i, .int j => .ok (.int (g i j)) h
  | _, _ => .bad
theorem os_int0 {g : Int → Int → Int} : OpS X (rI0 fun i j => .int (g i j)) (dInt0 g) := by
  intro W m H h x y dx dy Q r rx ry p
  unfold dInt0 at p
  split at p
  · cases rx; cases ry
    exact ⟨_, _, rfl, rfl, p.val r (.int _)⟩
  · exact False.elim p
def dCmp (g : Int → Int → Bool) (x y : D) (h : Hm) : RD := match x, y with
  | .int i, .int j => .ok (.bl (g i j)) h
  | _, _ => .bad
theorem os_cmp {g : Int → Int → Bool} : OpS X (rI0 fun i j => .bl (g i j)) (dCmp g) := by
  intro W m H h x y dx dy Q r rx ry p
  unfold dCmp at p
  split at p
  · cases rx; cases ry
    exact ⟨_, _, rfl, rfl, p.val r (.bl _)⟩
  · exact False.elim p
/-- a product, one factor within a word -/
def dSub := dInt0 fun i j => i - j
def dMod := dInt2 (fun _ j => decide (0 < j)) fun i j => i % j
def dDiv := dInt2 (fun _ j => decide (0 < j ∧ j < 2 ^ 200)) fun i j => i / j
def dPow := dInt2 (fun i j => decide (0 ≤ j ∧ j ≤ 1000000 ∧ i.natAbs < 2 ^ 64)) fun i j => i ^ j.toNat
def cM (i j : Int) : Bool := decide ((-(2 ^ 64) < i ∧ i < 2 ^ 64) ∨ (-(2 ^ 64) < j ∧ j < 2 ^ 64))
theorem os_sub : OpS X (rI0 fun i j => .int (i - j)) dSub := os_int0
theorem os_mod : OpS X (rI (fun _ j => 0 < j) fun i j => .int (i % j)) dMod := os_int2 fun _ _ h => of_decide_eq_true h
theorem os_div : OpS X (rI CDivW fun i j => .int (i / j)) dDiv := os_int2 fun i j h => by
  have q := of_decide_eq_true h
  exact wide_div (b := 200) q.1 (by have := q.2; omega) (by decide) (by decide)
theorem os_pow : OpS X (rI CPow fun i j => .int (i ^ j.toNat)) dPow := os_int2 fun i j h => by
  have q : 0 ≤ j ∧ j ≤ 1000000 ∧ i.natAbs < 2 ^ 64 := of_decide_eq_true h
  exact q
/-- * : ints, a list times an int -/
def dMul (x y : D) (h : Hm) : RD := match x, y with
  | .int i, .int j => if cM i j = true then .ok (.int (i * j)) h else .bad
  | .ref a, .int k => match h[a]? with
    | some (.lst xs) => if -(2 ^ 63) ≤ k ∧ k < 2 ^ 63 ∧ xs.length * k.toNat ≤ big then .ok (.ref h.length) (h ++ [.lst (List.replicate k.toNat xs).flatten]) else .bad
    | _ => .bad
  | _, _ => .bad
theorem RepL.flat {K : PySem.W.Frag} {m : List Addr} {H : Hp} {vs : List V} {ds : List D} (r : RepL K m H vs ds) : ∀ n : Nat, RepL K m H (List.replicate n vs).flatten (List.replicate n ds).flatten
  | 0 => .nil
  | n + 1 => by
    rw [List.replicate_succ, List.replicate_succ, List.flatten_cons, List.flatten_cons]
    exact r.app (RepL.flat r n)
theorem op_mul2 : OpR X (binaryOp .Mult) (fun x y H Q => (rI CMul fun i j => .int (i * j)) x y H Q ∨ rRep x y H Q) := op_mul.or op_rep
theorem os_mul : OpS X (fun x y H Q => (rI CMul fun i j => .int (i * j)) x y H Q ∨ rRep x y H Q) dMul := by
  intro W m H h x y dx dy Q r rx ry p
  unfold dMul at p
  split at p
  · split at p
    · rename_i hc
      cases rx; cases ry
      rename_i i j
      have q : (-(2 ^ 64) < i ∧ i < 2 ^ 64) ∨ (-(2 ^ 64) < j ∧ j < 2 ^ 64) := of_decide_eq_true hc
      exact .inl ⟨i, j, rfl, rfl, q, p.val r (.int _)⟩
    · exact False.elim p
  · split at p
    · rename_i xs h1
      split at p
      · rename_i hz
        obtain ⟨p1, rfl, m1⟩ := rx.ref_inv
        cases ry
        obtain ⟨vs, q1, l1⟩ := r.ob _ _ _ m1 h1
        have e1 := l1.length
        exact .inr ⟨p1, _, vs, rfl, rfl, q1, hz.1, hz.2.1, big_line (by rw [e1]; exact hz.2.2), PostE.lst p r (l1.flat _)⟩
      · exact False.elim p
    · exact False.elim p
  · exact False.elim p
end

/-! ### == != is in -/
def eqSc : D → D → Option Bool
  | .non, .non => some true
  | .non, .int _ => some false | .int _, .non => some false | .non, .bl _ => some false | .bl _, .non => some false | .non, .str _ => some false | .str _, .non => some false
  | .int i, .int j => some (decide (i = j)) | .bl i, .bl j => some (decide (i = j)) | .str i, .str j => some (decide (i = j))
  | .int _, .str _ => some false | .str _, .int _ => some false | .bl _, .str _ => some false | .str _, .bl _ => some false
  | _, _ => none
/-- == of data -/
def eqB (h : Hm) (x y : D) : Option Bool := match eqSc x y with
  | some b => some b
  | none => match toPy 20 h x, toPy 20 h y with
    | some a, some b => if SeqAt.shaped a = true ∧ SeqAt.shaped b = true then some (PyData.eqv a b) else none
    | _, _ => none
def dEq (x y : D) (h : Hm) : RD := match eqB h x y with
  | some b => .ok (.bl b) h
  | none => .bad
def dNe (x y : D) (h : Hm) : RD := match eqB h x y with
  | some b => .ok (.bl (!b)) h
  | none => .bad
section
variable {X : Cx}
theorem eqSc_ok {K : PySem.W.Frag} {m : List Addr} {H : Hp} {x y : V} {dx dy : D} {b : Bool} (rx : Rep K m H x dx) (ry : Rep K m H y dy) (e : eqSc dx dy = some b) : scal x y = true ∧ decide (x = y) = b := by
  cases dx <;> cases dy <;> first
    | (simp [eqSc] at e; done)
    | (cases rx; cases ry; simp [eqSc] at e; subst e; refine ⟨rfl, ?_⟩; simp)
theorem op_eq2 (hr : X.A.units + 64 < cLine) : OpR X (compareOp .Eq) (fun x y H Q => rEq x y H Q ∨ rEqD X.K x y H Q) := op_eq.or (op_eqD hr)
theorem op_ne2 (hr : X.A.units + 64 < cLine) : OpR X (compareOp .NotEq) (fun x y H Q => rNe x y H Q ∨ rNeD X.K x y H Q) := op_ne.or (op_neD hr)
theorem eqB_ok {K : PySem.W.Frag} {mg : Str → Option Value} {m : List Addr} {H : Hp} {h : Hm} {x y : V} {dx dy : D} {b : Bool} (r : R K mg m H h) (rx : Rep K m H x dx) (ry : Rep K m H y dy) (e : eqB h dx dy = some b) :
    (scal x y = true ∧ decide (x = y) = b) ∨ ∃ d e, Dp K H x d ∧ Dp K H y e ∧ SeqAt.shaped d = true ∧ SeqAt.shaped e = true ∧ PyData.eqv d e = b := by
  unfold eqB at e
  split at e
  · rename_i b' h1
    cases e
    exact .inl (eqSc_ok rx ry h1)
  · split at e
    · rename_i a c h1 h2
      split at e
      · rename_i hs
        cases e
        exact .inr ⟨a, c, toPy_dp r _ _ _ _ rx h1, toPy_dp r _ _ _ _ ry h2, hs.1, hs.2, rfl⟩
      · cases e
    · cases e
theorem os_eq : OpS X (fun x y H Q => rEq x y H Q ∨ rEqD X.K x y H Q) dEq := by
  intro W m H h x y dx dy Q r rx ry p
  unfold dEq at p
  split at p
  · rename_i b e
    rcases eqB_ok r rx ry e with ⟨h1, h2⟩ | ⟨d, c, h1, h2, h3, h4, h5⟩
    · exact .inl ⟨h1, by rw [h2]; exact p.val r (.bl _)⟩
    · exact .inr ⟨d, c, h1, h2, h3, h4, by rw [h5]; exact p.val r (.bl _)⟩
  · exact False.elim p
theorem os_ne : OpS X (fun x y H Q => rNe x y H Q ∨ rNeD X.K x y H Q) dNe := by
  intro W m H h x y dx dy Q r rx ry p
  unfold dNe at p
  split at p
  · rename_i b e
    rcases eqB_ok r rx ry e with ⟨h1, h2⟩ | ⟨d, c, h1, h2, h3, h4, h5⟩
    · exact .inl ⟨h1, by rw [h2]; exact p.val r (.bl _)⟩
    · exact .inr ⟨d, c, h1, h2, h3, h4, by rw [h5]; exact p.val r (.bl _)⟩
  · exact False.elim p
/-- is None, is True, is False -/
def dIs (x y : D) (h : Hm) : RD := match y with
  | .non => .ok (.bl (decide (x = .non))) h
  | .bl b => .ok (.bl (decide (x = .bl b))) h
  | _ => .bad
def dIsNot (x y : D) (h : Hm) : RD := match y with
  | .non => .ok (.bl (!decide (x = .non))) h
  | .bl b => .ok (.bl (!decide (x = .bl b))) h
  | _ => .bad
def rIs3 : R2 := fun x y H Q => (y = .non ∨ ∃ b, y = .bl b) ∧ Q (.bl (decide (x = y))) H
def rIsNot3 : R2 := fun x y H Q => (y = .non ∨ ∃ b, y = .bl b) ∧ Q (.bl (!decide (x = y))) H
theorem plain_bool {x : V} {v : Value} (r : RelV x v) (b : Bool) : plainIs v (.bool b) = true := by
  cases x <;> first | (obtain ⟨t, rfl⟩ := r; rfl) | (cases r; rfl)
theorem relV_bl {x : V} {v : Value} (r : RelV x v) (b : Bool) : v = .bool b ↔ x = .bl b := by
  cases x <;> first | (obtain ⟨t, rfl⟩ := r; simp) | (cases r; simp)
theorem op_is3 : OpR X (compareOp .Is) rIs3 := by
  rintro pins s σ H x y v u Q I rx ry ⟨rfl | ⟨b, rfl⟩, q⟩
  · exact op_isN pins s σ H x _ v u Q I rx ry ⟨rfl, q⟩
  · cases (show u = Value.bool b from ry)
    by_cases e : v = .bool b
    · subst e
      exact wpAny_is_self rfl ⟨.bl true, H, I, rfl, by rw [decide_eq_true ((relV_bl rx b).mp rfl)] at q; exact q⟩
    · exact wpAny_is_other (plain_bool rx b) e ⟨.bl false, H, I, rfl, by rw [decide_eq_false (fun z => e ((relV_bl rx b).mpr z))] at q; exact q⟩
theorem op_isNot3 : OpR X (compareOp .IsNot) rIsNot3 := by
  rintro pins s σ H x y v u Q I rx ry ⟨rfl | ⟨b, rfl⟩, q⟩
  · exact op_notN pins s σ H x _ v u Q I rx ry ⟨rfl, q⟩
  · cases (show u = Value.bool b from ry)
    by_cases e : v = .bool b
    · subst e
      exact wpAny_isNot_self rfl ⟨.bl false, H, I, rfl, by rw [decide_eq_true ((relV_bl rx b).mp rfl)] at q; exact q⟩
    · exact wpAny_isNot_other (plain_bool rx b) e ⟨.bl true, H, I, rfl, by rw [decide_eq_false (fun z => e ((relV_bl rx b).mpr z))] at q; exact q⟩
theorem rep_non {K : PySem.W.Frag} {m : List Addr} {H : Hp} {x : V} {d : D} (r : Rep K m H x d) : decide (x = .non) = decide (d = .non) := by cases r <;> simp
theorem rep_bl {K : PySem.W.Frag} {m : List Addr} {H : Hp} {x : V} {d : D} (r : Rep K m H x d) (b : Bool) : decide (x = .bl b) = decide (d = .bl b) := by cases r <;> simp
theorem os_is : OpS X rIs3 dIs := by
  intro W m H h x y dx dy Q r rx ry p
  unfold dIs at p
  split at p
  · cases ry
    exact ⟨.inl rfl, by rw [rep_non rx]; exact p.val r (.bl _)⟩
  · cases ry
    exact ⟨.inr ⟨_, rfl⟩, by rw [rep_bl rx]; exact p.val r (.bl _)⟩
  · exact False.elim p
theorem os_isNot : OpS X rIsNot3 dIsNot := by
  intro W m H h x y dx dy Q r rx ry p
  unfold dIsNot at p
  split at p
  · cases ry
    exact ⟨.inl rfl, by rw [rep_non rx]; exact p.val r (.bl _)⟩
  · cases ry
    exact ⟨.inr ⟨_, rfl⟩, by rw [rep_bl rx]; exact p.val r (.bl _)⟩
  · exact False.elim p
/-- x in y: flat things in a tuple, data in a list -/
def flatD : D → Bool
  | .non => true | .bl _ => true | .int _ => true | .str _ => true
  | _ => false
def eqF : D → D → Bool
  | .non, .non => true
  | .bl a, .bl b => a == b
  | .bl a, .int b => (if a then 1 else 0) == b
  | .int a, .bl b => a == (if b then 1 else 0)
  | .int a, .int b => a == b
  | .str a, .str b => a == b
  | _, _ => false
def inB (h : Hm) (x y : D) : Option Bool := match y with
  | .tup ys => if flatD x = true ∧ ys.all flatD = true then some (ys.any fun z => eqF z x) else none
  | _ => match toPy 20 h x, toPy 20 h y with
    | some a, some (.list b) => if SeqAt.shaped a = true ∧ SeqAt.shaped (.list b) = true then some (b.any fun z => PyData.eqv z a) else none
    | _, _ => none
def dIn (x y : D) (h : Hm) : RD := match inB h x y with
  | some b => .ok (.bl b) h
  | none => .bad
def dNotIn (x y : D) (h : Hm) : RD := match inB h x y with
  | some b => .ok (.bl (!b)) h
  | none => .bad
theorem flat_rep {K : PySem.W.Frag} {m : List Addr} {H : Hp} {x : V} {d : D} (r : Rep K m H x d) (f : flatD d = true) : flatV x = true := by cases r <;> first | rfl | cases f
theorem flat_repL {K : PySem.W.Frag} {m : List Addr} {H : Hp} : ∀ {vs : List V} {ds : List D}, RepL K m H vs ds → ds.all flatD = true → vs.all flatV = true
  | _, _, .nil, _ => rfl
  | _, _, .cons r t, f => by
    rw [List.all_cons, Bool.and_eq_true] at f ⊢
    exact ⟨flat_rep r f.1, flat_repL t f.2⟩
theorem eqF_rep {K : PySem.W.Frag} {m : List Addr} {H : Hp} {x y : V} {d e : D} (r : Rep K m H x d) (q : Rep K m H y e) : eqV x y = eqF d e := by
  cases r <;> cases q <;> rfl
theorem any_rep {K : PySem.W.Frag} {m : List Addr} {H : Hp} {x : V} {d : D} (r : Rep K m H x d) : ∀ {vs : List V} {ds : List D}, RepL K m H vs ds → inV x vs = ds.any fun z => eqF z d
  | _, _, .nil => rfl
  | _, _, .cons q t => by
    unfold inV
    rw [List.any_cons, List.any_cons, eqF_rep q r]
    have := any_rep r t
    unfold inV at this
    rw [this]
theorem op_in2 (hu : X.A.units + 65 < cLine) : OpR X (compareOp .In) (fun x y H Q => rIn X.K false x y H Q ∨ rInD X.K x y H Q) := op_in_seq.or (op_inD hu)
theorem op_notIn2 (hu : X.A.units + 65 < cLine) : OpR X (compareOp .NotIn) (fun x y H Q => rIn X.K true x y H Q ∨ rNotInD X.K x y H Q) := op_notIn_seq.or (op_notInD hu)
theorem inB_ok {mg : Str → Option Value} {K : PySem.W.Frag} {m : List Addr} {H : Hp} {h : Hm} {x y : V} {dx dy : D} {b : Bool} (r : R K mg m H h) (rx : Rep K m H x dx) (ry : Rep K m H y dy) (e : inB h dx dy = some b) :
    (∃ p xs, y = .ref p ∧ (SqL K H p xs ∨ SqT K H p xs) ∧ flatV x = true ∧ xs.all flatV = true ∧ inV x xs = b) ∨
      ∃ d ds, Dp K H x d ∧ Dp K H y (.list ds) ∧ SeqAt.shaped d = true ∧ SeqAt.shaped (.list ds) = true ∧ (ds.any fun z => PyData.eqv z d) = b := by
  unfold inB at e
  split at e
  · split at e
    · rename_i hf
      cases e
      obtain ⟨p, vs, rfl, t1, l1⟩ := ry.tup_inv
      exact .inl ⟨p, vs, rfl, .inr t1.sqT, flat_rep rx hf.1, flat_repL l1 hf.2, any_rep rx l1⟩
    · cases e
  · split at e
    · rename_i a c h1 h2
      split at e
      · rename_i hs
        cases e
        exact .inr ⟨a, c, toPy_dp r _ _ _ _ rx h1, toPy_dp r _ _ _ _ ry h2, hs.1, hs.2, rfl⟩
      · cases e
    · cases e
theorem os_in : OpS X (fun x y H Q => rIn X.K false x y H Q ∨ rInD X.K x y H Q) dIn := by
  intro W m H h x y dx dy Q r rx ry p
  unfold dIn at p
  split at p
  · rename_i b e
    rcases inB_ok r rx ry e with ⟨q, vs, h1, h2, h3, h4, h5⟩ | ⟨d, c, h1, h2, h3, h4, h5⟩
    · exact .inl ⟨q, vs, h1, h2, h3, h4, by rw [h5]; exact p.val r (.bl _)⟩
    · exact .inr ⟨d, c, h1, h2, h3, h4, by rw [h5]; exact p.val r (.bl _)⟩
  · exact False.elim p
theorem os_notIn : OpS X (fun x y H Q => rIn X.K true x y H Q ∨ rNotInD X.K x y H Q) dNotIn := by
  intro W m H h x y dx dy Q r rx ry p
  unfold dNotIn at p
  split at p
  · rename_i b e
    rcases inB_ok r rx ry e with ⟨q, vs, h1, h2, h3, h4, h5⟩ | ⟨d, c, h1, h2, h3, h4, h5⟩
    · exact .inl ⟨q, vs, h1, h2, h3, h4, by rw [h5]; exact p.val r (.bl _)⟩
    · exact .inr ⟨d, c, h1, h2, h3, h4, by rw [h5]; exact p.val r (.bl _)⟩
  · exact False.elim p
end
end Sh

set_option Elab.async false
set_option linter.all false
set_option maxRecDepth 100000
set_option maxHeartbeats 4000000
namespace Sh
open PySem L2 PyProof.Rows
/-! ### subscripts, slices -/
theorem atI_rep {K : PySem.W.Frag} {m : List Addr} {H : Hp} {vs : List V} {ds : List D} {i : Int} {d : D} (r : RepL K m H vs ds) (e : atI ds i = some d) : ∃ v, atI vs i = some v ∧ Rep K m H v d := by
  unfold atI at e ⊢
  rw [r.length]
  cases q : ixN ds.length i with
  | none => rw [q] at e; cases e
  | some j =>
    rw [q] at e
    exact r.get e
def dIx (x y : D) (h : Hm) : RD := match y with
  | .int i => match items h x with
    | some ds => match atI ds i with
      | some d => .ok d h
      | none => .bad
    | none => .bad
  | _ => .bad
section
variable {X : Cx} {W : WX} {e a b c o : Expr} {f fa fb fc fo : FE} {pos apos cpos : Pos} {es : List Expr} {fs : List FE}
theorem os_ix : OpS X (fun x y H Q => rIxL X.K x y H Q ∨ rIxT X.K x y H Q) dIx := by
  intro W m H h x y dx dy Q r rx ry p
  unfold dIx at p
  split at p
  · split at p
    · rename_i ds hi
      split at p
      · rename_i d hd
        cases ry
        obtain ⟨q, vs, rfl, h1, l1⟩ := items_sq r rx hi
        obtain ⟨v, h2, h3⟩ := atI_rep l1 hd
        rcases h1 with h1 | h1
        · exact .inl ⟨q, vs, _, v, rfl, rfl, h1, h2, p.val r h3⟩
        · exact .inr ⟨q, vs, _, v, rfl, rfl, h1, h2, p.val r h3⟩
      · exact False.elim p
    · exact False.elim p
  · exact False.elim p
theorem ix_two : IxR X (fun x y H Q => rIxL X.K x y H Q ∨ rIxT X.K x y H Q) := ix_list.or ix_tup
theorem se_ix (ha : SE X W a fa) (hb : SE X W b fb) (hs : PlainIx b := by exact fun _ _ => rfl) : SE X W (.Subscript a b pos) (eBin dIx fa fb) :=
  PE.imp (pe_ix ix_two ha hb hs) fun σ H Q h => bin_ok os_ix h
def cutD (xs : List D) (lo hi : Option Int) : List D := (xs.drop (HT.sIx xs.length 0 lo)).take (HT.sIx xs.length xs.length hi - HT.sIx xs.length 0 lo)
theorem cut_rep {K : PySem.W.Frag} {m : List Addr} {H : Hp} {vs : List V} {ds : List D} (r : RepL K m H vs ds) (lo hi : Option Int) : RepL K m H (cutV vs lo hi) (cutD ds lo hi) := by
  unfold cutV cutD
  rw [r.length]
  exact (r.drop _).take _
def dSl (x : D) (lo hi : Option Int) (h : Hm) : RD := match x with
  | .tup ds => .ok (.tup (cutD ds lo hi)) h
  | .ref k => match h[k]? with
    | some (.lst ds) => .ok (.ref h.length) (h ++ [.lst (cutD ds lo hi)])
    | some (.scr ds) => .ok (.ref h.length) (h ++ [.lst (cutD ds lo hi)])
    | _ => .bad
  | _ => .bad
theorem sl_two : SlR X (fun x lo hi H Q => rSlL X.K x lo hi H Q ∨ rSlF X.K x lo hi H Q) := sl_list.or sl_tupF
def ePart (lo : Option FE) (s : DS) (h : Hm) (k : Option Int → Hm → RD) : RD := match lo with
  | none => k none h
  | some f => (f s h).bind fun d h1 => match d with
    | .int i => k (some i) h1
    | _ => .bad
def eSl (fa : FE) (lo hi : Option FE) : FE := fun s h => (fa s h).bind fun x h1 => ePart lo s h1 fun l h2 => ePart hi s h2 fun u h3 => dSl x l u h3
inductive SO (X : Cx) (W : WX) : Option Expr → Option FE → Prop
  | no : SO X W none none
  | yes {e : Expr} {f : FE} (h : SE X W e f) : SO X W (some e) (some f)
def tPO (K : PySem.W.Frag) (mg : Str → Option Value) (W : WX) (lo : Option FE) : TO := fun σ H Q => ∃ m s h, R K mg m H h ∧ RS K m H σ s ∧
  (match lo with
    | none => Q none H
    | some f => PostE K mg (fun c d H' => W c d σ H') m H (f s h) (fun v H' => ∃ i, v = .int i ∧ Q (some i) H'))
theorem po_of {lo : Option Expr} {fl : Option FE} (h : SO X W lo fl) : PO X lo (tPO X.K X.mg W fl) := by
  cases h with
  | no => exact ⟨fun pins s σ H Q I ⟨m, s', h, R0, rs, q⟩ => po_none.run pins s σ H Q I q⟩
  | yes h => exact ⟨fun pins s σ H Q I ⟨m, s', hh, R0, rs, q⟩ => (po_some h).run pins s σ H Q I ⟨m, s', hh, R0, rs, q⟩⟩
theorem se_sl {lo hi : Option Expr} {fl fu : Option FE} {p2 : Pos} (ha : SE X W a fa) (hl : SO X W lo fl) (hu : SO X W hi fu) : SE X W (.Subscript a (.Slice lo hi none p2) pos) (eSl fa fl fu) := by
  refine PE.imp (pe_slice sl_two ha (po_of hl) (po_of hu)) fun σ H Q h => ?_
  obtain ⟨m, s, h, R0, rs, p⟩ := h
  refine ⟨m, s, h, R0, rs, PostE.mono (PostE.bind p) ?_⟩
  rintro x H1 ⟨m1, dx, h1, g1, R1, rx, p1⟩
  -- what stands at the end
  have fin : ∀ (l u : Option Int) (m3 : List Addr) (H3 : Hp) (h3 : Hm), Grow m1 H1 m3 H3 → R X.K X.mg m3 H3 h3 → PostE X.K X.mg (fun c d H' => W c d σ H') m3 H3 (dSl dx l u h3) Q → (rSlL X.K x l u H3 Q ∨ rSlF X.K x l u H3 Q) := by
    intro l u m3 H3 h3 g R3 p3
    unfold dSl at p3
    split at p3
    · obtain ⟨q, vs, rfl, t1, l1⟩ := (rx.grow g).tup_inv
      refine .inr ⟨q, vs, rfl, t1.sqT, fun z => ?_, fun _ q' o hq ho => PostE.tup p3 R3 (cut_rep l1 l u) q' o hq ho⟩
      have e : cutV vs l u = vs := by
        unfold cutV
        rw [z.1, z.2]
        simp
      have e2 := cut_rep l1 l u
      rw [e] at e2
      exact p3.val R3 (.tup t1 e2)
    · split at p3
      · rename_i ds hk
        obtain ⟨q, rfl, hm⟩ := (rx.grow g).ref_inv
        obtain ⟨vs, q1, q2⟩ := ObjR.sqL (.inl (R3.ob _ _ _ hm hk))
        exact .inl ⟨q, vs, rfl, q1, PostE.lst p3 R3 (cut_rep q2 l u)⟩
      · rename_i ds hk
        obtain ⟨q, rfl, hm⟩ := (rx.grow g).ref_inv
        obtain ⟨vs, q1, q2⟩ := ObjR.sqL (.inr (R3.ob _ _ _ hm hk))
        exact .inl ⟨q, vs, rfl, q1, PostE.lst p3 R3 (cut_rep q2 l u)⟩
      · exact False.elim p3
    · exact False.elim p3
  have hi_ : ∀ (l : Option Int) (m2 : List Addr) (H2 : Hp) (h2 : Hm), Grow m1 H1 m2 H2 → R X.K X.mg m2 H2 h2 → PostE X.K X.mg (fun c d H' => W c d σ H') m2 H2 (ePart fu s h2 fun u h3 => dSl dx l u h3) Q →
      tPO X.K X.mg W fu σ H2 fun u H3 => (rSlL X.K x l u H3 Q ∨ rSlF X.K x l u H3 Q) := by
    intro l m2 H2 h2 g R2 p2
    refine ⟨m2, s, h2, R2, rs.grow (g1.trans g), ?_⟩
    cases fu with
    | none => exact fin l none m2 H2 h2 g R2 p2
    | some f =>
      refine PostE.mono (PostE.bind p2) ?_
      rintro v H3 ⟨m3, dv, h3, g3, R3, rv, p3⟩
      cases dv with
      | int i => exact ⟨i, rv.int_inv, fin l (some i) m3 H3 h3 (g.trans g3) R3 p3⟩
      | _ => exact False.elim p3
  refine ⟨m1, s, h1, R1, rs.grow g1, ?_⟩
  cases fl with
  | none => exact hi_ none m1 H1 h1 (Grow.refl _ _) R1 p1
  | some f =>
    refine PostE.mono (PostE.bind p1) ?_
    rintro v H2 ⟨m2, dv, h2, g2, R2, rv, p2⟩
    cases dv with
    | int i => exact ⟨i, rv.int_inv, hi_ (some i) m2 H2 h2 g2 R2 p2⟩
    | _ => exact False.elim p2

/-! ### fields -/
theorem lookupC {α : Type} (k : Str) (p : Str × α) (l : List (Str × α)) : (p :: l).lookup k = if k = p.1 then some p.2 else l.lookup k := by
  obtain ⟨q, v⟩ := p
  by_cases e : k = q
  · subst e; simp [List.lookup]
  · have : (k == q) = false := by simpa using e
    simp [List.lookup, this, e]
theorem RepF.look {K : PySem.W.Frag} {m : List Addr} {H : Hp} {k : Str} : ∀ {fv : List (Str × V)} {fs : List (Str × D)}, RepF K m H fv fs → (∀ d, fs.lookup k = some d → ∃ v, fv.lookup k = some v ∧ Rep K m H v d) ∧ (fs.lookup k = none → fv.lookup k = none)
  | _, _, .nil => ⟨fun d e => by simp at e, fun _ => rfl⟩
  | p :: fv, q :: fs, .cons r t => by
    obtain ⟨e1, r⟩ := r
    have ih := RepF.look (k := k) (fv := fv) (fs := fs) t
    rw [lookupC, lookupC, e1]
    by_cases e : k = q.1
    · rw [if_pos e, if_pos e]
      exact ⟨fun d z => ⟨p.2, rfl, by cases z; exact r⟩, fun z => by cases z⟩
    · rw [if_neg e, if_neg e]
      exact ih
def eFld (c f : Str) (fo : FE) : FE := fun s h => (fo s h).bind fun d h1 => match d with
  | .ref n => match h1[n]? with
    | some (.ins c' fs) => if c' = c then (match fs.lookup f with
      | some d => .ok d h1
      | none => .bad) else .bad
    | _ => .bad
  | _ => .bad
theorem se_fld {c f : Str} {C : Addr} (he : SE X W o fo) (gC : X.mg c = some (.ref C)) (cl : Cls X.K C) (na : NoAttr X.K C f) (hb : attributeBase o f X.env (eval o X.env) = eval o X.env := by rfl) : SE X W (.Attribute o f pos) (eFld c f fo) := by
  refine PE.imp (pe_fld he hb) fun σ H Q h => ?_
  obtain ⟨m, s, h, R0, rs, p⟩ := h
  refine ⟨m, s, h, R0, rs, PostE.mono (PostE.bind p) ?_⟩
  rintro x H1 ⟨m1, dx, h1, g1, R1, rx, p1⟩
  try dsimp only at p1
  split at p1
  · split at p1
    · rename_i n c' fs hn
      split at p1
      · rename_i hc
        subst hc
        split at p1
        · rename_i d hd
          obtain ⟨a, rfl, hm⟩ := rx.ref_inv
          obtain ⟨C', dx', fv, q0, q1, q2⟩ := R1.ob _ _ _ hm hn
          rw [gC] at q0
          cases q0
          obtain ⟨v, h3, h4⟩ := (RepF.look q2).1 _ hd
          exact ⟨a, C, dx', fv, v, rfl, q1, cl, na, h3, p1.val R1 h4⟩
        · exact False.elim p1
      · exact False.elim p1
    · exact False.elim p1
  · exact False.elim p1

/-! ### built-ins -/
def bLen (ds : List D) (h : Hm) : RD := match ds with
  | [.str z] => if z.length ≤ big then .ok (.int z.length) h else .bad
  | [d] => match items h d with
    | some xs => .ok (.int xs.length) h
    | none => .bad
  | _ => .bad
theorem cs_len : CallS X (fun xs H Q => ∃ x n, xs = [x] ∧ LenV X.K x H n ∧ Q (.int n) H) bLen := by
  intro W m H h vs ds Q r rv p
  unfold bLen at p
  split at p
  · split at p
    · rename_i hz
      cases rv with | cons r1 r2 => cases r2; cases r1; exact ⟨_, _, rfl, ⟨big_line hz, rfl⟩, p.val r (.int _)⟩
    · exact False.elim p
  · split at p
    · rename_i xs hi
      cases rv with
      | cons r1 r2 =>
        cases r2
        obtain ⟨q, ws, rfl, h1, l1⟩ := items_sq r r1 hi
        have e := l1.length
        rcases h1 with h1 | h1
        · exact ⟨_, xs.length, rfl, .inl ⟨ws, h1, e.symm⟩, p.val r (.int _)⟩
        · exact ⟨_, xs.length, rfl, .inr ⟨ws, h1, e.symm⟩, p.val r (.int _)⟩
    · exact False.elim p
  · exact False.elim p
def bInt (ds : List D) (h : Hm) : RD := match ds with
  | [.int i] => .ok (.int i) h
  | _ => .bad
theorem cs_int : CallS X (fun xs H Q => (∃ i, xs = [.int i] ∧ Q (.int i) H) ∨ ∃ k, xs = [.bl k] ∧ Q (.int (if k then 1 else 0)) H) bInt := by
  intro W m H h vs ds Q r rv p
  unfold bInt at p
  split at p
  · cases rv with | cons r1 r2 => cases r2; cases r1; exact .inl ⟨_, rfl, p.val r (.int _)⟩
  · exact False.elim p
def bList (ds : List D) (h : Hm) : RD := match ds with
  | [d] => match items h d with
    | some xs => .ok (.ref h.length) (h ++ [.lst xs])
    | none => .bad
  | _ => .bad
theorem cs_list : CallS X (fun xs H Q => ∃ p ys, xs = [.ref p] ∧ (SqL X.K H p ys ∨ SqT X.K H p ys) ∧ ∀ l, H l = none → Q (.ref l) (upd H l (.lst ys))) bList := by
  intro W m H h vs ds Q r rv p
  unfold bList at p
  split at p
  · split at p
    · rename_i xs hi
      cases rv with
      | cons r1 r2 =>
        cases r2
        obtain ⟨q, ws, rfl, h1, l1⟩ := items_sq r r1 hi
        exact ⟨q, ws, rfl, h1, PostE.lst p r l1⟩
    · exact False.elim p
  · exact False.elim p
def bTuple (ds : List D) (h : Hm) : RD := match ds with
  | [d] => match items h d with
    | some xs => .ok (.tup xs) h
    | none => .bad
  | _ => .bad
theorem cs_tuple : CallS X (fun xs H Q => ∃ p ys, xs = [.ref p] ∧ ((SqL X.K H p ys ∧ rTupF ys H Q) ∨ (SqT X.K H p ys ∧ Q (.ref p) H))) bTuple := by
  intro W m H h vs ds Q r rv p
  unfold bTuple at p
  split at p
  · rename_i d
    split at p
    · rename_i xs hi
      cases rv with
      | cons r1 r2 =>
        cases r2
        cases d with
        | tup es =>
          cases hi
          obtain ⟨q, ws, rfl, h1, l1⟩ := r1.tup_inv
          exact ⟨q, ws, rfl, .inr ⟨h1.sqT, p.val r (.tup h1 l1)⟩⟩
        | scl es =>
          cases hi
          obtain ⟨q, ws, rfl, h1, l1⟩ := r1.scl_inv
          exact ⟨q, ws, rfl, .inl ⟨h1.sqL, fun q o hq ho => PostE.tup p r l1 q o hq ho⟩⟩
        | ref k =>
          obtain ⟨a, rfl, hm⟩ := r1.ref_inv
          unfold items at hi
          simp only at hi
          split at hi
          · rename_i es hk
            cases hi
            obtain ⟨vs, q1, q2⟩ := ObjR.sqL (.inl (r.ob _ _ _ hm hk))
            exact ⟨a, vs, rfl, .inl ⟨q1, fun q o hq ho => PostE.tup p r q2 q o hq ho⟩⟩
          · rename_i es hk
            cases hi
            obtain ⟨vs, q1, q2⟩ := ObjR.sqL (.inr (r.ob _ _ _ hm hk))
            exact ⟨a, vs, rfl, .inl ⟨q1, fun q o hq ho => PostE.tup p r q2 q o hq ho⟩⟩
          · cases hi
        | _ => cases hi
    · exact False.elim p
  · exact False.elim p
def bls : List D → Option (List Bool)
  | [] => some []
  | .bl b :: r => (bls r).map (b :: ·)
  | _ => none
theorem bls_rep {K : PySem.W.Frag} {m : List Addr} {H : Hp} : ∀ {vs : List V} {ds : List D} {bs : List Bool}, RepL K m H vs ds → bls ds = some bs → vs = bs.map V.bl
  | _, _, bs, .nil, e => by cases e; rfl
  | _, _, bs, .cons (d := d) r t, e => by
    cases d with
    | bl b =>
      obtain ⟨bs', h1, rfl⟩ := Option.map_eq_some_iff.mp e
      rw [r.bl_inv, bls_rep t h1]
      rfl
    | _ => cases e
/-- all, any of a list of truth values -/
def bQuant (g : List Bool → Bool) (ds : List D) (h : Hm) : RD := match ds with
  | [.ref k] => match h[k]? with
    | some (.lst xs) => match bls xs with
      | some bs => .ok (.bl (g bs)) h
      | none => .bad
    | _ => .bad
  | _ => .bad
theorem cs_quant (g : List Bool → Bool) : CallS X (fun vs H Q => ∃ (a : Addr) (bs : List Bool), vs = [V.ref a] ∧ SqL X.K H a (bs.map V.bl) ∧ Q (.bl (g bs)) H) (bQuant g) := by
  intro W m H h vs ds Q r rv p
  unfold bQuant at p
  split at p
  · split at p
    · rename_i k xs hk
      split at p
      · rename_i bs hb
        cases rv with
        | cons r1 r2 =>
          cases r2
          obtain ⟨a, rfl, hm⟩ := r1.ref_inv
          obtain ⟨ws, q1, q2⟩ := r.ob _ _ _ hm hk
          exact ⟨a, bs, rfl, .inl (.inl (by rw [q1, bls_rep q2 hb])), p.val r (.bl _)⟩
      · exact False.elim p
    · exact False.elim p
  · exact False.elim p
abbrev bAll := bQuant fun bs => bs.all id
abbrev bAny := bQuant fun bs => bs.any id

/-! ### isinstance(x, T), T a built-in type -/
def tyN (h : Hm) : D → Option String
  | .non => some "NoneType"
  | .bl _ => some "bool"
  | .int _ => some "int"
  | .str _ => some "str"
  | .tup _ => some "tuple"
  | .ref n => match h[n]? with
    | some (.lst _) => some "list"
    | some (.scr _) => some "list"
    | some (.dk _) => some "dict"
    | _ => none
  | .scl _ => none
def isiB (T : String) (h : Hm) (d : D) : Option Bool := (tyN h d).bind fun a => kitB a T
def eIsi (T : String) (fo : FE) : FE := fun s h => (fo s h).bind fun d h1 => match isiB T h1 d with
  | some b => .ok (.bl b) h1
  | none => .bad
theorem tyN_ok {K : PySem.W.Frag} {mg : Str → Option Value} {m : List Addr} {H : Hp} {h : Hm} (r : R K mg m H h) {v : V} {d : D} {n : String} (x : Rep K m H v d) (e : tyN h d = some n) : TyX K H v (.type n) := by
  cases d with
  | non => cases e; cases x; exact .base .non
  | bl b => cases e; cases x; exact .base (.bl b)
  | int b => cases e; cases x; exact .base (.int b)
  | str b => cases e; cases x; exact .base (.str b)
  | tup ds =>
    cases e
    obtain ⟨a, vs, rfl, t, _⟩ := x.tup_inv
    rcases t with ⟨o, h1, _⟩ | ⟨o, its, n, h1, h2, _⟩
    · exact .fTuple h1
    · exact .kTuple h1 h2
  | scl ds => cases e
  | ref k =>
    obtain ⟨a, rfl, hm⟩ := x.ref_inv
    unfold tyN at e
    simp only at e
    split at e
    · rename_i ds hk
      cases e
      obtain ⟨vs, q1, q2⟩ := r.ob _ _ _ hm hk
      exact .base (.lst q1)
    · rename_i ds hk
      cases e
      obtain ⟨vs, q1, q2⟩ := r.ob _ _ _ hm hk
      rcases q1 with q1 | ⟨ob, q1⟩
      · exact .base (.lst q1)
      · exact .base (.frz q1)
    · rename_i ds hk
      cases e
      obtain ⟨vs, q1, q2⟩ := r.ob _ _ _ hm hk
      exact .base (.dK q1)
    · cases e
theorem se_isi {x T : Str} {t : String} {p p2 : Pos} (he : SE X W o fo) (hg : Gl X x) (hm : X.mg x = none) (hv : bootBuiltins x = some (.builtin "isinstance")) (hT : Gl X T) (hmT : X.mg T = none) (hvT : bootBuiltins T = some (.type t)) (hn : x ≠ "__name__" := by decide)
    (hdb : (x == ("__debug__" : Str)) = false := by decide) (hnT : T ≠ "__name__" := by decide) (hdbT : (T == ("__debug__" : Str)) = false := by decide)
    (hst : starEach (o :: [.Name T p2]) X.env = (false, eval o X.env) :: starEach [.Name T p2] X.env := by rfl) (hpl : (backTo pos (starEach [.Name T p2] X.env)).any (·.1) = false := by rfl) (hst2 : starEach [.Name T p2] X.env = (false, eval (.Name T p2) X.env) :: starEach [] X.env := by rfl) :
    SE X W (.Call (.Name x p) (o :: [.Name T p2]) [] pos) (eIsi t fo) := by
  refine PE.imp (pe_callB call_isi hg hm hv (pa_cons he (pa_cons (pe_bltn (v := .ty t) hT hmT hvT rfl hnT hdbT) pa_nil hst2) hst) hn hdb hst hpl) fun σ H Q h => ?_
  obtain ⟨m, s, h, R0, rs, p⟩ := h
  refine ⟨m, s, h, R0, rs, PostE.mono (PostE.bind p) ?_⟩
  rintro x H1 ⟨m1, dx, h1, g1, R1, rx, p1⟩
  try dsimp only at p1
  split at p1
  · rename_i b hb
    obtain ⟨n, h1, h2⟩ := Option.bind_eq_some_iff.mp hb
    exact ⟨x, .ty t, .type n, .type t, b, rfl, .ty t, tyN_ok R1 rx h1, kit_ty h2, p1.val R1 (.bl _)⟩
  · exact False.elim p1

/-! ### a list's own methods -/
def eLm (g : Nat → List D → List D → Hm → RD) (fo : FE) (fs : List FE) : FE := fun s h => (fo s h).bind fun d h1 => match d with
  | .ref n => match h1[n]? with
    | some (.lst _) => eArgs (fun ds h2 => match h2[n]? with
      | some (.lst xs) => g n xs ds h2
      | _ => .bad) fs s h1
    | _ => .bad
  | _ => .bad
/-- the method by values bears the one by data -/
def LmS (X : Cx) (r : V → List V → Hp → VK → Prop) (g : Nat → List D → List D → Hm → RD) : Prop := ∀ (W : XK) (m : List Addr) (H : Hp) (h : Hm) (n : Nat) (a : Addr) (xs : List D) (us vs : List V) (ds : List D) (Q : VK),
  R X.K X.mg m H h → m[n]? = some a → h[n]? = some (.lst xs) → H a = some (.lst us) → RepL X.K m H us xs → RepL X.K m H vs ds → PostE X.K X.mg W m H (g n xs ds h) Q → r (.ref a) vs H Q
variable {name : Str} {id : String} {r : V → List V → Hp → VK → Prop} {g : Nat → List D → List D → Hm → RD}
theorem lm_ok (hr : LmS X r g) {σ : L2.St} {H : Hp} {Q : VK} {to : TE} {t : TA} (ht : t = tSA X.K X.mg W (evalL fs)) (h : tS X.K X.mg W (eLm g fo fs) σ H Q) : tBM X.K "list" r (tS X.K X.mg W fo) t σ H Q := by
  subst ht
  obtain ⟨m, s, h, R0, rs, p⟩ := h
  refine ⟨m, s, h, R0, rs, PostE.mono (PostE.bind p) ?_⟩
  rintro x H1 ⟨m1, dx, h1, g1, R1, rx, p1⟩
  try dsimp only at p1
  split at p1
  · split at p1
    · rename_i n _ xs hk
      obtain ⟨a, rfl, hm⟩ := rx.ref_inv
      obtain ⟨us, q1, q2⟩ := R1.ob _ _ _ hm hk
      refine ⟨.inl ⟨rfl, us, .inl (.inl q1)⟩, ?_⟩
      refine args_ok' (r := fun xs H2 Q => r (.ref a) xs H2 Q) R1 (rs.grow g1) p1 fun m2 H2 vs ds h2 g2 R2 rvs ee p2 => ?_
      try dsimp only at p2
      split at p2
      · rename_i ys hk2
        have hm2 := g2.loc _ _ hm
        obtain ⟨us2, q3, q4⟩ := R2.ob _ _ _ hm2 hk2
        exact hr _ m2 H2 h2 n a ys us2 vs ds Q R2 hm2 hk2 q3 q4 rvs p2
      · exact False.elim p2
    · exact False.elim p1
  · exact False.elim p1
end
end Sh

set_option Elab.async false
set_option linter.all false
set_option maxRecDepth 100000
set_option maxHeartbeats 4000000
namespace Sh
open PySem L2 PyProof.Rows
section
variable {X : Cx} {W : WX} {e a b c o : Expr} {f fa fb fc fo : FE} {pos apos cpos : Pos} {es : List Expr} {fs : List FE} {name : Str} {id : String} {r : V → List V → Hp → VK → Prop} {g : Nat → List D → List D → Hm → RD}
theorem se_lm (pa : PlainAttrs "list") (slot : Slot "list" name id) (hty : typeOf (.builtin id) = pure (.type "method_descriptor")) (hm : MtR X id r) (hr : LmS X r g) (ho : SE X W o fo) (ha : SA X W (e :: es) (evalL fs))
    (hbase : attributeBase o name X.env (eval o X.env) = eval o X.env := by rfl)
    (hfew : ((backTo cpos (starEach (e :: es) X.env)).all (fun x => !x.1) && (backToKw cpos (keywordEach [] X.env)).all (fun x => x.1.isSome)
      && decide ((e :: es).length + ([] : List Keyword).length + (if ([] : List Keyword).isEmpty then 0 else 1) < 30)) = true := by rfl)
    (hline : (apos.endLine == cpos.line) = true := by rfl) (hs : starEach (e :: es) X.env = (false, eval e X.env) :: starEach es X.env := by rfl) (hplain : (backTo cpos (starEach es X.env)).any (·.1) = false := by rfl) :
    SE X W (.Call (.Attribute o name apos) (e :: es) [] cpos) (eLm g fo fs) :=
  PE.imp (pe_bm pa slot hty hm ho ha hbase hfew hline hs hplain) fun σ H Q h => lm_ok (to := tS X.K X.mg W fo) hr rfl h
theorem se_lm0 (pa : PlainAttrs "list") (slot : Slot "list" name id) (hty : typeOf (.builtin id) = pure (.type "method_descriptor")) (hm : MtR X id r) (hr : LmS X r g) (ho : SE X W o fo)
    (hbase : attributeBase o name X.env (eval o X.env) = eval o X.env := by rfl) (hline : (apos.endLine == cpos.line) = true := by rfl) : SE X W (.Call (.Attribute o name apos) [] [] cpos) (eLm g fo []) := by
  refine PE.imp (pe_bm0 pa slot hty hm ho hbase hline) fun σ H Q h => ?_
  obtain ⟨m, s, h, R0, rs, p⟩ := h
  refine ⟨m, s, h, R0, rs, PostE.mono (PostE.bind p) ?_⟩
  rintro x H1 ⟨m1, dx, h1, g1, R1, rx, p1⟩
  try dsimp only at p1
  split at p1
  · split at p1
    · rename_i n _ xs hk
      obtain ⟨a, rfl, hm⟩ := rx.ref_inv
      obtain ⟨us, q1, q2⟩ := R1.ob _ _ _ hm hk
      refine ⟨.inl ⟨rfl, us, .inl (.inl q1)⟩, ?_⟩
      simp only [eArgs, evalL, hk] at p1
      exact hr _ m1 H1 h1 n a xs us [] [] Q R1 hm hk q1 q2 .nil p1
    · exact False.elim p1
  · exact False.elim p1

/-! the methods -/
def lAppend (n : Nat) (xs ds : List D) (h : Hm) : RD := match ds with
  | [d] => if xs.length < big then .ok .non (h.set n (.lst (xs ++ [d]))) else .bad
  | _ => .bad
theorem big_lt {n : Nat} (h : n < big) : n < sizeLine := by
  rw [sizeLine_eq]
  unfold big at h
  omega
theorem R.lset {K : PySem.W.Frag} {mg : Str → Option Value} {m : List Addr} {H : Hp} {h : Hm} {n : Nat} {a : Addr} {xs ys : List D} {vs : List V} (r : R K mg m H h) (hm : m[n]? = some a) (hk : h[n]? = some (.lst xs)) (l : RepL K m H vs ys) :
    Grow m H m (upd H a (.lst vs)) ∧ R K mg m (upd H a (.lst vs)) (h.set n (.lst ys)) := by
  have xo := r.ob _ _ _ hm hk
  have g : Grow m H m (upd H a (.lst vs)) := Grow.set xo rfl
  exact ⟨g, r.set hm hk rfl ⟨vs, upd_same, l.grow g⟩⟩
theorem ls_append : LmS X rAppend lAppend := by
  intro W m H h n a xs us vs ds Q r hm hk hu l1 l2 p
  unfold lAppend at p
  split at p
  · split at p
    · rename_i d hz
      cases l2 with
      | cons rv rn =>
        cases rn
        obtain ⟨g, r2⟩ := r.lset hm hk (l1.app (.cons rv .nil))
        exact ⟨a, us, _, rfl, rfl, hu, big_lt (by rw [l1.length]; exact hz), p m _ _ g r2 .non⟩
    · exact False.elim p
  · exact False.elim p
def lExtend (n : Nat) (xs ds : List D) (h : Hm) : RD := match ds with
  | [.ref k] => match h[k]? with
    | some (.lst ys) => if xs.length + ys.length ≤ big then .ok .non (h.set n (.lst (xs ++ ys))) else .bad
    | _ => .bad
  | _ => .bad
theorem ls_extend : LmS X rExtend lExtend := by
  intro W m H h n a xs us vs ds Q r hm hk hu l1 l2 p
  unfold lExtend at p
  split at p
  · split at p
    · rename_i k _ ys hy
      split at p
      · rename_i hz
        cases l2 with
        | cons rv rn =>
          cases rn
          obtain ⟨b, rfl, hb⟩ := rv.ref_inv
          obtain ⟨ws, q1, q2⟩ := r.ob _ _ _ hb hy
          obtain ⟨g, r2⟩ := r.lset hm hk (l1.app q2)
          have e1 := l1.length
          have e2 := q2.length
          exact ⟨a, b, us, ws, rfl, rfl, hu, q1, big_line (by omega), p m _ _ g r2 .non⟩
      · exact False.elim p
    · exact False.elim p
  · exact False.elim p
def lPopAt (n : Nat) (xs ds : List D) (h : Hm) : RD := match ds with
  | [.int i] => if -(2 ^ 63) ≤ i ∧ i < 2 ^ 63 then (match seqIndex? i xs.length with
    | some k => match xs[k]? with
      | some d => .ok d (h.set n (.lst (xs.eraseIdx k)))
      | none => .bad
    | none => .bad) else .bad
  | _ => .bad
theorem ls_popAt : LmS X rPopAt lPopAt := by
  intro W m H h n a xs us vs ds Q r hm hk hu l1 l2 p
  unfold lPopAt at p
  split at p
  · split at p
    · rename_i i hz
      split at p
      · rename_i k hk2
        split at p
        · rename_i d hd
          cases l2 with
          | cons rv rn =>
            cases rn
            cases rv
            obtain ⟨v, h1, h2⟩ := l1.get hd
            obtain ⟨g, r2⟩ := r.lset hm hk (l1.eraseIdx k)
            exact ⟨a, us, i, k, v, rfl, rfl, hu, hz.1, hz.2, by rw [l1.length]; exact hk2, h1, p m _ _ g r2 (h2.grow g)⟩
        · exact False.elim p
      · exact False.elim p
    · exact False.elim p
  · exact False.elim p
def lClear (n : Nat) (xs ds : List D) (h : Hm) : RD := match ds with
  | [] => .ok .non (h.set n (.lst []))
  | _ => .bad
theorem ls_clear : LmS X rClear lClear := by
  intro W m H h n a xs us vs ds Q r hm hk hu l1 l2 p
  unfold lClear at p
  split at p
  · cases l2
    obtain ⟨g, r2⟩ := r.lset hm hk .nil
    exact ⟨a, us, rfl, rfl, hu, p m _ _ g r2 .non⟩
  · exact False.elim p

/-! ### a tuple's count -/
def eTm (g : List D → List D → Hm → RD) (fo : FE) (fs : List FE) : FE := fun s h => (fo s h).bind fun d h1 => match d with
  | .tup xs => eArgs (fun ds h2 => g xs ds h2) fs s h1
  | _ => .bad
def TmS (X : Cx) (r : V → List V → Hp → VK → Prop) (g : List D → List D → Hm → RD) : Prop := ∀ (W : XK) (m : List Addr) (H : Hp) (h : Hm) (a : Addr) (xs : List D) (us vs : List V) (ds : List D) (Q : VK),
  R X.K X.mg m H h → TupS X.K H a us → RepL X.K m H us xs → RepL X.K m H vs ds → PostE X.K X.mg W m H (g xs ds h) Q → r (.ref a) vs H Q
variable {gt : List D → List D → Hm → RD}
theorem se_tm (pa : PlainAttrs "tuple") (slot : Slot "tuple" name id) (hty : typeOf (.builtin id) = pure (.type "method_descriptor")) (hm : MtR X id r) (hr : TmS X r gt) (ho : SE X W o fo) (ha : SA X W (e :: es) (evalL fs))
    (hbase : attributeBase o name X.env (eval o X.env) = eval o X.env := by rfl)
    (hfew : ((backTo cpos (starEach (e :: es) X.env)).all (fun x => !x.1) && (backToKw cpos (keywordEach [] X.env)).all (fun x => x.1.isSome)
      && decide ((e :: es).length + ([] : List Keyword).length + (if ([] : List Keyword).isEmpty then 0 else 1) < 30)) = true := by rfl)
    (hline : (apos.endLine == cpos.line) = true := by rfl) (hs : starEach (e :: es) X.env = (false, eval e X.env) :: starEach es X.env := by rfl) (hplain : (backTo cpos (starEach es X.env)).any (·.1) = false := by rfl) :
    SE X W (.Call (.Attribute o name apos) (e :: es) [] cpos) (eTm gt fo fs) := by
  refine PE.imp (pe_tm pa slot hty hm ho ha hbase hfew hline hs hplain) fun σ H Q h => ?_
  obtain ⟨m, s, h, R0, rs, p⟩ := h
  refine ⟨m, s, h, R0, rs, PostE.mono (PostE.bind p) ?_⟩
  rintro x H1 ⟨m1, dx, h1, g1, R1, rx, p1⟩
  cases dx with
  | tup xs =>
    obtain ⟨a, us, rfl, t1, l1⟩ := rx.tup_inv
    refine ⟨⟨a, us, rfl, t1⟩, ?_⟩
    exact args_ok' (r := fun xs H2 Q => r (.ref a) xs H2 Q) R1 (rs.grow g1) p1 fun m2 H2 vs ds h2 g2 R2 rvs ee p2 => hr _ m2 H2 h2 a xs us vs ds Q R2 (g2.tupS t1) (l1.grow g2) rvs p2
  | _ => exact False.elim p1
def rCntT (K : PySem.W.Frag) : V → List V → Hp → VK → Prop := fun x vs H Q => ∃ (p : Addr) (ys : List V) (y : V) (ps : List PyData) (d : PyData), x = .ref p ∧ vs = [y] ∧ SqT K H p ys ∧ DpAll K H ys ps ∧ Dp K H y d ∧
  PyData.plainAll ps = true ∧ d.plain = true ∧ PyData.depthAll ps ≤ 60 ∧ Q (.int ((ps.countP fun z => PyData.eqv z d : Nat) : Int)) H
theorem mt_tcount (hu : X.A.units + 64 < cLine) : MtR X "tuple.count" (rCntT X.K) := by
  intro pins s σ H x xs v us Q I rx rxs h
  obtain ⟨p, ys, y, ps, d, rfl, rfl, ht, hp, hd, h1, h2, h3, q⟩ := h
  cases rx
  obtain ⟨u, rfl, ru⟩ := rxs.one
  obtain ⟨its, rv, pl, hz⟩ := I.tuple ht
  obtain ⟨as, r1⟩ := Dp.readsAll I ps _ its hp rv
  obtain ⟨bs, r2⟩ := Dp.reads I d y u hd ru
  exact SeqAt.count_tuple_data (show s.heap.IsTuple p its.toArray from pl) (show ReadsAll s.heap its.toArray.toList ps as from r1) r2 h1 h2 (by have := Nat.min_le_left (PyData.depthAll ps) d.depth; omega) ⟨.int _, H, I.tok _, ⟨_, rfl⟩, q⟩
/-- flat things as the library has them -/
def flatP : D → PyData
  | .bl b => .bool b | .int i => .int i | .str x => .str x
  | _ => .none
theorem flat_dp {K : PySem.W.Frag} {m : List Addr} {H : Hp} {x : V} {d : D} (r : Rep K m H x d) (f : flatD d = true) : Dp K H x (flatP d) := by
  cases r <;> first | exact .non | exact .bl _ | exact .int _ | exact .str _ | cases f
theorem flat_dpL {K : PySem.W.Frag} {m : List Addr} {H : Hp} : ∀ {vs : List V} {ds : List D}, RepL K m H vs ds → ds.all flatD = true → DpAll K H vs (ds.map flatP)
  | _, _, .nil, _ => .nil
  | _, _, .cons r t, f => by
    rw [List.all_cons, Bool.and_eq_true] at f
    exact .cons (flat_dp r f.1) (flat_dpL t f.2)
theorem flat_plain : ∀ d : D, (flatP d).plain = true := by intro d; cases d <;> rfl
theorem flat_plainAll : ∀ ds : List D, PyData.plainAll (ds.map flatP) = true
  | [] => rfl
  | d :: ds => by
    rw [List.map_cons]
    show ((flatP d).plain && PyData.plainAll (ds.map flatP)) = true
    rw [flat_plain, flat_plainAll ds]
    rfl
theorem flat_depth : ∀ d : D, (flatP d).depth = 0 := by intro d; cases d <;> rfl
theorem flat_depthAll : ∀ ds : List D, PyData.depthAll (ds.map flatP) ≤ 60
  | [] => by simp [PyData.depthAll]
  | d :: ds => by
    have ih := flat_depthAll ds
    have e := flat_depth d
    rw [List.map_cons]
    simp only [PyData.depthAll]
    omega
theorem flat_eqv {a b : D} (ha : flatD a = true) (hb : flatD b = true) : PyData.eqv (flatP a) (flatP b) = eqF a b := by
  cases a <;> cases b <;> first
    | rfl
    | (cases ha; done)
    | (cases hb; done)
    | (rename_i x y; cases x <;> cases y <;> rfl)
    | (rename_i x y; cases x <;> rfl)
    | (rename_i x y; cases y <;> rfl)
def tCount (xs ds : List D) (h : Hm) : RD := match ds with
  | [d] => if flatD d = true ∧ xs.all flatD = true then .ok (.int ((xs.countP fun z => eqF z d : Nat) : Int)) h else .bad
  | _ => .bad
theorem ts_count : TmS X (rCntT X.K) tCount := by
  intro W m H h a xs us vs ds Q r ht l1 l2 p
  unfold tCount at p
  split at p
  · split at p
    · rename_i d hf
      cases l2 with
      | cons rv rn =>
        cases rn
        refine ⟨a, us, _, xs.map flatP, flatP d, rfl, rfl, ht.sqT, flat_dpL l1 hf.2, flat_dp rv hf.1, flat_plainAll _, flat_plain _, flat_depthAll _, ?_⟩
        have e : (xs.map flatP).countP (fun z => PyData.eqv z (flatP d)) = xs.countP fun z => eqF z d := by
          rw [List.countP_map]
          refine List.countP_congr fun z hz => ?_
          have hz' := List.all_eq_true.mp hf.2 z hz
          simp only [Function.comp]
          rw [flat_eqv hz' hf.1]
        rw [e]
        exact p.val r (.int _)
    · exact False.elim p
  · exact False.elim p

/-! ### list(range(..)) -/
def rgD (a b : Int) : List D := (List.range (b - a).toNat).map fun i => D.int (a + (i : Nat))
theorem rg_rep {K : PySem.W.Frag} {m : List Addr} {H : Hp} (a b : Int) : RepL K m H (rgV a b) (rgD a b) := by
  unfold rgV rgD
  generalize List.range (b - a).toNat = l
  induction l with
  | nil => exact .nil
  | cons i l ih => exact .cons (.int _) ih
def bListRg (d : D) (h : Hm) : RD := match d with
  | .int n => if n ≤ 1000000 ∧ -1000000 ≤ n then .ok (.ref h.length) (h ++ [.lst (rgD 0 n)]) else .bad
  | _ => .bad
def eListRg (fo : FE) : FE := fun s h => (fo s h).bind bListRg
theorem se_listRg {p p2 pos2 : Pos} (hc : X.calm = true) (hg : Gl X "list") (hm : X.mg "list" = none) (hg2 : Gl X "range") (hm2 : X.mg "range" = none) (ho : SE X W o fo)
    (na : starEach [o] X.env = (false, eval o X.env) :: starEach [] X.env := by rfl) (na2 : starEach [.Call (.Name "range" p2) [o] [] pos2] X.env = (false, eval (.Call (.Name "range" p2) [o] [] pos2) X.env) :: starEach [] X.env := by rfl) :
    SE X W (.Call (.Name "list" p) [.Call (.Name "range" p2) [o] [] pos2] [] pos) (eListRg fo) := by
  refine PE.imp (pe_listRg hc hg hm (prg_1 hg2 hm2 ho na) na2) fun σ H Q h => ?_
  obtain ⟨m, s, h, R0, rs, p⟩ := h
  refine ⟨m, s, h, R0, rs, PostE.mono (PostE.bind p) ?_⟩
  rintro x H1 ⟨m1, dx, h1, g1, R1, rx, p1⟩
  unfold bListRg at p1
  split at p1
  · split at p1
    · rename_i n hn
      cases rx
      exact ⟨n, rfl, ⟨by omega, by omega, by omega, by omega, by omega⟩, PostE.lst p1 R1 (rg_rep 0 n)⟩
    · exact False.elim p1
  · exact False.elim p1

/-! ### own methods, instances -/
variable {k n : Nat} {fA C : Addr} {fd : FuncData} {ps : List Str} {F : FF} {mn : Str}
def tMethS (C : Addr) (m : Str) (sp : Sp) (E : L2.St → XK) (ta : TE) (t : TA) : TE := fun σ H Q => ta σ H fun x H1 => ∃ a dx fs, x = .ref a ∧ H1 a = some (.ins C dx fs) ∧ fs.lookup m = none ∧ t σ H1 fun vs H2 => sp (x :: vs) H2 Q (E σ)
theorem pe_methS {CX : CXT} {sp : Sp} {E : L2.St → XK} {ta : TE} {t : TA} {pl : Sem Bool} (he : PE X o ta) (c : Cls X.K C) (hm : Meth X.K C mn fA) (F : FnOk X.prog X.w X.K X.mg X.base CX k fA fd ps sp) (hr : Room k X.A) (hb : Binds X.K fd ps []) (hx : ∀ σ, PassesAt CX X σ (E σ)) (ha : PA X (e :: es) t)
    (hst : starEach (e :: es) X.env = (false, eval e X.env) :: starEach es X.env := by rfl) (hpl : (backTo pos (starEach es X.env)).any (·.1) = false := by rfl)
    (ht : eval (.Call (.Attribute o mn apos) (e :: es) [] pos) X.env = (do
      let ov ← eval o X.env
      standAt apos.atName
      let (f, first) ← holding [ov] (getMethod ov mn pl)
      callWith pos f first (backTo pos (starEach (e :: es) X.env)) (backToKw pos (keywordEach [] X.env))) := by rfl) :
    PE X (.Call (.Attribute o mn apos) (e :: es) [] pos) (tMethS C mn sp E ta t) := by
  refine ⟨fun pins s σ H Q I h => ?_⟩
  refine PySem.W.methodCall_KW (pl := pl) (thn (he.run pins s σ H _ I h) fun u s1 ⟨x, H1, I1, rx, a, dx, fs, ex, ea, l, q⟩ => ?_) ht
  subst ex
  obtain rfl : u = Value.ref a := rx
  refine getmeth_ok I1 ea c hm l ?_
  refine PySem.W.callWith_K (first := [.ref a]) (h₀ := X.base) I.ok.mod.kin hm.kp (thn (ha.run pos pins s1 σ H1 _ I1 q) fun us s2 ⟨vs, H2, I2, r, q2⟩ => ⟨I2.kIn, ?_⟩) hst hpl
  exact run_fnS (us := .ref a :: us) (vs := .ref a :: vs) F hr hb (hx σ) I2 (.cons rfl r) q2
theorem pe_methS0 {CX : CXT} {sp : Sp} {E : L2.St → XK} {ta : TE} {pl : Sem Bool} (he : PE X o ta) (c : Cls X.K C) (hm : Meth X.K C mn fA) (F : FnOk X.prog X.w X.K X.mg X.base CX k fA fd ps sp) (hr : Room k X.A) (hb : Binds X.K fd ps []) (hx : ∀ σ, PassesAt CX X σ (E σ))
    (ht : eval (.Call (.Attribute o mn apos) [] [] pos) X.env = (do
      let ov ← eval o X.env
      standAt apos.atName
      let (f, first) ← holding [ov] (getMethod ov mn pl)
      callWith pos f first (backTo pos (starEach [] X.env)) (backToKw pos (keywordEach [] X.env))) := by rfl) :
    PE X (.Call (.Attribute o mn apos) [] [] pos) (tMethS C mn sp E ta tNil) := by
  refine ⟨fun pins s σ H Q I h => ?_⟩
  refine PySem.W.methodCall_KW (pl := pl) (thn (he.run pins s σ H _ I h) fun u s1 ⟨x, H1, I1, rx, a, dx, fs, ex, ea, l, q⟩ => ?_) ht
  subst ex
  obtain rfl : u = Value.ref a := rx
  refine getmeth_ok I1 ea c hm l ?_
  exact PySem.W.callWith_K0 (first := [.ref a]) I1.kIn hm.kp (run_fnS (us := [.ref a]) (vs := [.ref a]) F hr hb (hx σ) I1 (.cons rfl .nil) q)
def eMeth (c mn : Str) (F : FF) (fo : FE) (fs : List FE) : FE := fun s h => (fo s h).bind fun d h1 => match d with
  | .ref n => match h1[n]? with
    | some (.ins c' fl) => if c' = c ∧ fl.lookup mn = none then eArgs (fun ds h2 => F (.ref n :: ds) h2) fs s h1 else .bad
    | _ => .bad
  | _ => .bad
theorem meth_ok {cn : Str} (gC : X.mg cn = some (.ref C)) (hl : fs.length + 1 = ps.length) {σ : L2.St} {H : Hp} {Q : VK} {t : TA} (ht : t = tSA X.K X.mg W (evalL fs)) (h : tS X.K X.mg W (eMeth cn mn F fo fs) σ H Q) : tMethS C mn (spF X.K X.mg ps.length F) (WE W) (tS X.K X.mg W fo) t σ H Q := by
  subst ht
  obtain ⟨m, s, h, R0, rs, p⟩ := h
  refine ⟨m, s, h, R0, rs, PostE.mono (PostE.bind p) ?_⟩
  rintro x H1 ⟨m1, dx, h1, g1, R1, rx, p1⟩
  try dsimp only at p1
  split at p1
  · split at p1
    · rename_i n _ c' fl hk
      split at p1
      · rename_i hc
        obtain ⟨hc, hl2⟩ := hc
        subst hc
        obtain ⟨a, rfl, hm⟩ := rx.ref_inv
        obtain ⟨C', dx', fv, q0, q1, q2⟩ := R1.ob _ _ _ hm hk
        rw [gC] at q0
        cases q0
        refine ⟨a, dx', fv, rfl, q1, (RepF.look q2).2 hl2, ?_⟩
        refine args_ok' (r := fun vs H2 Q => spF X.K X.mg ps.length F (.ref a :: vs) H2 Q (WE W σ)) R1 (rs.grow g1) p1 fun m2 H2 vs ds h2 g2 R2 rvs ee p2 => ?_
        refine ⟨?_, m2, .ref n :: ds, h2, R2, .cons (.ref (g2.loc _ _ hm)) rvs, p2⟩
        rw [List.length_cons, rvs.length, evalL_length ee]
        exact hl
      · exact False.elim p1
    · exact False.elim p1
  · exact False.elim p1
theorem se_meth {cn : Str} {pl : Sem Bool} (G : FnS X k fA fd ps F) (tk : Takes X W) (hr : Room k X.A) (gC : X.mg cn = some (.ref C)) (cl : Cls X.K C) (hm : Meth X.K C mn fA) (hb : Binds X.K fd ps []) (ho : SE X W o fo) (ha : SA X W (e :: es) (evalL fs)) (hl : decide (fs.length + 1 = ps.length) = true := by rfl)
    (hst : starEach (e :: es) X.env = (false, eval e X.env) :: starEach es X.env := by rfl) (hpl : (backTo pos (starEach es X.env)).any (·.1) = false := by rfl)
    (ht : eval (.Call (.Attribute o mn apos) (e :: es) [] pos) X.env = (do
      let ov ← eval o X.env
      standAt apos.atName
      let (f, first) ← holding [ov] (getMethod ov mn pl)
      callWith pos f first (backTo pos (starEach (e :: es) X.env)) (backToKw pos (keywordEach [] X.env))) := by rfl) : SE X W (.Call (.Attribute o mn apos) (e :: es) [] pos) (eMeth cn mn F fo fs) :=
  PE.imp (pe_methS ho cl hm G hr hb (fun σ => passAt tk σ) ha hst hpl ht) fun σ H Q h => meth_ok gC (of_decide_eq_true hl) rfl h
theorem se_meth0 {cn : Str} {pl : Sem Bool} (G : FnS X k fA fd ps F) (tk : Takes X W) (hr : Room k X.A) (gC : X.mg cn = some (.ref C)) (cl : Cls X.K C) (hm : Meth X.K C mn fA) (hb : Binds X.K fd ps []) (ho : SE X W o fo) (hl : decide (1 = ps.length) = true := by rfl)
    (ht : eval (.Call (.Attribute o mn apos) [] [] pos) X.env = (do
      let ov ← eval o X.env
      standAt apos.atName
      let (f, first) ← holding [ov] (getMethod ov mn pl)
      callWith pos f first (backTo pos (starEach [] X.env)) (backToKw pos (keywordEach [] X.env))) := by rfl) : SE X W (.Call (.Attribute o mn apos) [] [] pos) (eMeth cn mn F fo []) := by
  refine PE.imp (pe_methS0 ho cl hm G hr hb (fun σ => passAt tk σ) ht) fun σ H Q h => ?_
  obtain ⟨m, s, h, R0, rs, p⟩ := h
  refine ⟨m, s, h, R0, rs, PostE.mono (PostE.bind p) ?_⟩
  rintro x H1 ⟨m1, dx, h1, g1, R1, rx, p1⟩
  try dsimp only at p1
  split at p1
  · split at p1
    · rename_i n _ c' fl hk
      split at p1
      · rename_i hc
        obtain ⟨hc, hl2⟩ := hc
        subst hc
        obtain ⟨a, rfl, hm⟩ := rx.ref_inv
        obtain ⟨C', dx', fv, q0, q1, q2⟩ := R1.ob _ _ _ hm hk
        rw [gC] at q0
        cases q0
        exact ⟨a, dx', fv, rfl, q1, (RepF.look q2).2 hl2, of_decide_eq_true hl, m1, [.ref n], h1, R1, .cons (.ref hm) .nil, p1⟩
      · exact False.elim p1
    · exact False.elim p1
  · exact False.elim p1
/-- self.f = e -/
def gFld (c f : Str) (fo fe : FE) : FS := fun s h => match fe s h with
  | .ok y h1 => (match fo s h1 with
    | .ok (.ref n) h2 => match h2[n]? with
      | some (.ins c' fl) => if c' = c ∧ fl.length < 900 ∧ fl.lookup f = none then .nx s (h2.set n (.ins c (fl ++ [(f, y)]))) else .bad
      | _ => .bad
    | .ok _ _ => .bad
    | .exc x fs h2 => .exc x fs s h2
    | .bad => .bad)
  | .exc x fs h2 => .exc x fs s h2
  | .bad => .bad
end
end Sh

set_option Elab.async false
set_option linter.all false
set_option maxRecDepth 100000
set_option maxHeartbeats 4000000
namespace Sh
open PySem L2 PyProof.Rows
/-! ### results of expressions in statements -/
def RD.st (r : RD) (s : DS) (k : D → Hm → RT) : RT := match r with
  | .ok d h => k d h
  | .exc c fs h => .exc c fs s h
  | .bad => .bad
@[simp] theorem RD.st_ok (d : D) (h : Hm) (s : DS) (k : D → Hm → RT) : (RD.ok d h).st s k = k d h := rfl
@[simp] theorem RD.st_exc (c fs) (h : Hm) (s : DS) (k : D → Hm → RT) : (RD.exc c fs h).st s k = .exc c fs s h := rfl
@[simp] theorem RD.st_bad (s : DS) (k : D → Hm → RT) : RD.bad.st s k = .bad := rfl
section
variable {K : PySem.W.Frag} {mg : Str → Option Value} {W : WX} {m m1 : List Addr} {H H1 : Hp} {r : RD}
theorem PostS.ofE {s : DS} {σ : L2.St} {k : D → Hm → RT} {E : Ends} (rs : RS K m H σ s) (p : PostS K mg W m H (r.st s k) E) :
    PostE K mg (fun c d H' => W c d σ H') m H r (Got K mg m H fun m' H' d h' => PostS K mg W m' H' (k d h') E) := by
  cases r with
  | ok d h => exact fun m' H' v g' r' rep => ⟨m', d, h, g', r', rep, PostS.grow p g'⟩
  | exc c fs h => exact fun m' H' cls dx g r' x => p m' H' σ cls dx g r' (rs.grow g) x
  | bad => exact p
end
def gSeq (a b : FS) : FS := fun s h => match a s h with
  | .nx s' h' => b s' h'
  | r => r
def gNext : FS := fun s h => .nx s h
def gDrop (f : FE) : FS := fun s h => (f s h).st s fun _ h1 => .nx s h1
def gRet (f : FE) : FS := fun s h => (f s h).st s fun d h1 => .rt d h1
def gRetN : FS := fun _ h => .rt .non h
def gSet (i : Nat) (f : FE) : FS := fun s h => (f s h).st s fun d h1 => .nx (s.set i (some d)) h1
def gIf (c : FE) (a b : FS) : FS := fun s h => (c s h).st s fun d h1 => match d with
  | .bl true => a s h1
  | .bl false => b s h1
  | _ => .bad
def gBad : FS := fun _ _ => .bad
def gCont : FS := fun s h => .ct s h
def gBreak : FS := fun s h => .bk s h
section
variable {X : Cx} {W : WX} {e a b c o : Expr} {f fa fb fc fo : FE} {pos apos cpos : Pos} {st : Stmt} {sts rest : List Stmt} {g g1 g2 : FS}
theorem sss_nil : SSs X W [] gNext := PSs.imp pss_nil fun D σ H ⟨m, s, h, R0, rs, p⟩ => p m H σ (Grow.refl _ _) R0 rs
theorem sss_cons (h1 : SS X W st g1) (h2 : SSs X W rest g2) : SSs X W (st :: rest) (gSeq g1 g2) := by
  refine PSs.imp (pss_cons h1 h2) fun D σ H h => ?_
  obtain ⟨m, s, h, R0, rs, p⟩ := h
  refine ⟨m, s, h, R0, rs, ?_⟩
  unfold gSeq at p
  generalize g1 s h = r at p
  cases r with
  | nx s1 h1 => exact fun m' H' σ' g r' rs' => ⟨m', s1, h1, r', rs', PostS.grow p g⟩
  | bk s h => exact p
  | ct s h => exact p
  | rt d h => exact p
  | exc c fs s h => exact p
  | bad => exact p
theorem sss_one (h1 : SS X W st g1) : SSs X W [st] g1 := pss_one h1
theorem ss_pass : SS X W (.Pass pos) gNext := PS.imp ps_pass fun D σ H ⟨m, s, h, R0, rs, p⟩ => p m H σ (Grow.refl _ _) R0 rs
theorem ss_cont : SS X W (.Continue pos) gCont := PS.imp ps_continue fun D σ H ⟨m, s, h, R0, rs, p⟩ => p m H σ (Grow.refl _ _) R0 rs
theorem ss_break : SS X W (.Break pos) gBreak := PS.imp ps_break fun D σ H ⟨m, s, h, R0, rs, p⟩ => p m H σ (Grow.refl _ _) R0 rs
theorem ss_bad : SS X W st gBad := PS.imp ps_never fun D σ H ⟨m, s, h, R0, rs, p⟩ => p
theorem ss_expr (he : SE X W e f) (hs : swapsWith e none pos.line X.env = pure false := by rfl) : SS X W (.Expr e pos) (gDrop f) := by
  refine PS.imp (ps_expr he hs) fun D σ H h => ?_
  obtain ⟨m, s, h, R0, rs, p⟩ := h
  refine ⟨m, s, h, R0, rs, PostE.mono (PostS.ofE rs p) ?_⟩
  rintro x H1 ⟨m1, dx, h1, g1, R1, rx, p1⟩
  exact p1 m1 H1 σ (Grow.refl _ _) R1 (rs.grow g1)
theorem ss_ret (he : SE X W e f) : SS X W (.Return (some e) pos) (gRet f) := by
  refine PS.imp (ps_ret he) fun D σ H h => ?_
  obtain ⟨m, s, h, R0, rs, p⟩ := h
  refine ⟨m, s, h, R0, rs, PostE.mono (PostS.ofE rs p) ?_⟩
  rintro x H1 ⟨m1, dx, h1, g1, R1, rx, p1⟩
  exact p1 m1 H1 x (Grow.refl _ _) R1 rx
theorem ss_retN : SS X W (.Return none pos) gRetN := PS.imp ps_retN fun D σ H ⟨m, s, h, R0, rs, p⟩ => p m H .non (Grow.refl _ _) R0 .non
theorem ss_set {i : Nat} {x : Str} {pos' : Pos} (hN : X.N.Nodup) (hi : X.N[i]? = some x) (hx : Loc X.env.scope x) (he : SE X W e f) (hs : swapsWith e (some (.Name x pos')) pos.line X.env = pure false := by rfl) (hf : X.fn x = true ∨ X.env.scope.names.lookup x = some .local := by first | exact .inl rfl | exact .inr rfl) :
    SS X W (.Assign [.Name x pos'] e pos) (gSet i f) := by
  refine PS.imp (ps_set hN hi hx he hs hf) fun D σ H h => ?_
  obtain ⟨m, s, h, R0, rs, p⟩ := h
  refine ⟨m, s, h, R0, rs, PostE.mono (PostS.ofE rs p) ?_⟩
  rintro x H1 ⟨m1, dx, h1, g1, R1, rx, p1⟩
  exact p1 m1 H1 _ (Grow.refl _ _) R1 ((rs.grow g1).set i rx)
theorem ss_if {c : Expr} {a b : List Stmt} {fc : FE} (hc : ST X W c fc) (ha : SSs X W a g1) (hb : SSs X W b g2) : SS X W (.If c a b pos) (gIf fc g1 g2) := by
  refine PS.imp (ps_if hc ha hb) fun D σ H h => ?_
  obtain ⟨m, s, h, R0, rs, p⟩ := h
  refine ⟨m, s, h, R0, rs, ?_⟩
  unfold gIf at p
  generalize fc s h = r at p
  cases r with
  | ok d h1 =>
    cases d with
    | bl c =>
      intro m' H' g r'
      cases c with
      | true => exact iteT ⟨m', s, h1, r', rs.grow g, PostS.grow p g⟩
      | false => exact iteF ⟨m', s, h1, r', rs.grow g, PostS.grow p g⟩
    | _ => exact p
  | exc c fs h1 => exact fun m' H' cls dx g r' x => p m' H' σ cls dx g r' (rs.grow g) x
  | bad => exact p
/-- self.f = e -/
def putD (f : Str) (y : D) : List (Str × D) → List (Str × D)
  | [] => [(f, y)]
  | (k, v) :: r => if k = f then (k, y) :: r else (k, v) :: putD f y r
theorem putD_rep {K : PySem.W.Frag} {m : List Addr} {H : Hp} {f : Str} {y : V} {d : D} (r : Rep K m H y d) : ∀ {fv : List (Str × V)} {fs : List (Str × D)}, RepF K m H fv fs → RepF K m H (putF f y fv) (putD f d fs)
  | _, _, .nil => .cons ⟨rfl, r⟩ .nil
  | (k, v) :: fv, (k', d') :: fs, .cons q t => by
    obtain ⟨e1, q⟩ := q
    simp only at e1
    subst e1
    show RepF K m H (if k = f then (k, y) :: fv else (k, v) :: putF f y fv) (if k = f then (k, d) :: fs else (k, d') :: putD f d fs)
    by_cases e : k = f
    · rw [if_pos e, if_pos e]
      exact .cons ⟨rfl, r⟩ t
    · rw [if_neg e, if_neg e]
      exact .cons ⟨rfl, q⟩ (putD_rep r t)
def gPut (c f : Str) (fo fe : FE) : FS := fun s h => (fe s h).st s fun y h1 => (fo s h1).st s fun d h2 => match d with
  | .ref n => match h2[n]? with
    | some (.ins c' fl) => if c' = c ∧ fl.length < 900 then .nx s (h2.set n (.ins c (putD f y fl))) else .bad
    | _ => .bad
  | _ => .bad
theorem RepF.len {K : PySem.W.Frag} {m : List Addr} {H : Hp} {fv : List (Str × V)} {fs : List (Str × D)} (r : RepF K m H fv fs) : fv.length = fs.length := Paired.length r
theorem ss_put {cn f : Str} {C : Addr} {pos' : Pos} (gC : X.mg cn = some (.ref C)) (cl : Cls X.K C) (na : NoAttr X.K C f) (ho : SE X W o fo) (he : SE X W e fa) (hs : swapsWith e (some (.Attribute o f pos')) pos.line X.env = pure false := by rfl) :
    SS X W (.Assign [.Attribute o f pos'] e pos) (gPut cn f fo fa) := by
  refine PS.imp (ps_fld ho he hs) fun D σ H h => ?_
  obtain ⟨m, s, h, R0, rs, p⟩ := h
  refine ⟨m, s, h, R0, rs, PostE.mono (PostS.ofE rs p) ?_⟩
  rintro y H1 ⟨m1, dy, h1, g1, R1, ry, p1⟩
  refine ⟨m1, s, h1, R1, rs.grow g1, PostE.mono (PostS.ofE (rs.grow g1) p1) ?_⟩
  rintro x H2 ⟨m2, dx, h2, g2, R2, rx, p2⟩
  try dsimp only at p2
  split at p2
  · split at p2
    · rename_i n _ c' fl hk
      split at p2
      · rename_i hc
        obtain ⟨hc, hl⟩ := hc
        subst hc
        obtain ⟨a, rfl, hm⟩ := rx.ref_inv
        have xo := R2.ob _ _ _ hm hk
        obtain ⟨C', dx', fv, q0, q1, q2⟩ := id xo
        rw [gC] at q0
        cases q0
        refine ⟨a, C, dx', fv, rfl, q1, cl, na, by rw [q2.len]; omega, ?_⟩
        have g3 : Grow m2 H2 m2 (upd H2 a (.ins C dx' (putF f y fv))) := Grow.set xo rfl
        exact p2 m2 _ σ g3 (R2.set hm hk rfl ⟨C, dx', putF f y fv, gC, upd_same, putD_rep ((ry.grow g2).grow g3) (q2.grow g3)⟩) ((rs.grow (g1.trans g2)).grow g3)
      · exact False.elim p2
    · exact False.elim p2
  · exact False.elim p2

/-! ### targets -/
/-- as Rep, or a tuple whose object is not known (the pairs of enumerate) -/
def RepQ (wk : Bool) (K : PySem.W.Frag) (m : List Addr) (H : Hp) (v : V) (d : D) : Prop := Rep K m H v d ∨ (wk = true ∧ ∃ a vs ds, v = .ref a ∧ SqT K H a vs ∧ RepL K m H vs ds ∧ d = .tup ds)
abbrev GT := D → DS → Hm → RT
/-- behind a store: the slots at vs alone may have changed -/
def PostG (K : PySem.W.Frag) (mg : Str → Option Value) (vs : List Nat) (σ : L2.St) (m : List Addr) (H : Hp) (r : RT) (Q : L2.St → Hp → Prop) : Prop := match r with
  | .nx s' h' => ∀ m' H' σ', Grow m H m' H' → R K mg m' H' h' → RS K m' H' σ' s' → (∀ l, (∀ i ∈ vs, i ∈ l) → wipe σ' l = wipe σ l) → Q σ' H'
  | _ => False
def tSG (K : PySem.W.Frag) (mg : Str → Option Value) (wk : Bool) (vs : List Nat) (gt : GT) : TG := fun v σ H Q => ∃ m s h d, R K mg m H h ∧ RS K m H σ s ∧ RepQ wk K m H v d ∧ PostG K mg vs σ m H (gt d s h) Q
def SG (X : Cx) (wk : Bool) (tg : Expr) (vs : List Nat) (gt : GT) : Prop := PG X tg (tSG X.K X.mg wk vs gt)
def gAll : List GT → List D → DS → Hm → RT
  | [], [], s, h => .nx s h
  | g :: gs, d :: ds, s, h => match g d s h with
    | .nx s' h' => gAll gs ds s' h'
    | _ => .bad
  | _, _, _, _ => .bad
def tSGs (K : PySem.W.Frag) (mg : Str → Option Value) (vs : List Nat) (gts : List GT) : TGs := fun xs σ H Q => ∃ m s h ds, R K mg m H h ∧ RS K m H σ s ∧ RepL K m H xs ds ∧ PostG K mg vs σ m H (gAll gts ds s h) Q
def SGs (X : Cx) (tgs : List Expr) (vs : List Nat) (gts : List GT) : Prop := PGs X tgs (tSGs X.K X.mg vs gts)
theorem PG.imp {X : Cx} {e : Expr} {t t' : TG} (h : PG X e t) (k : ∀ v σ H Q, t' v σ H Q → t v σ H Q) : PG X e t' := ⟨fun pins s σ H v u Q I r q => h.run pins s σ H v u Q I r (k _ _ _ _ q)⟩
theorem PGs.imp {X : Cx} {e : List Expr} {t t' : TGs} (h : PGs X e t) (k : ∀ v σ H Q, t' v σ H Q → t v σ H Q) : PGs X e t' := ⟨fun pins s σ H v u Q I r q => h.run pins s σ H v u Q I r (k _ _ _ _ q)⟩
theorem wipe_get {σ : L2.St} : ∀ {l : List Nat} {j : Nat}, (wipe σ l)[j]? = if j ∈ l then (if j < σ.length then some none else none) else σ[j]?
  | [], j => by simp [wipe]
  | v :: l, j => by
    unfold wipe
    by_cases e : v = j
    · subst e
      rw [if_pos List.mem_cons_self]
      by_cases hl : v < σ.length
      · rw [if_pos hl, List.getElem?_set_self (by rw [wipe_length]; exact hl)]
      · rw [if_neg hl, List.getElem?_eq_none (by rw [List.length_set, wipe_length]; omega)]
    · rw [List.getElem?_set_ne e, wipe_get]
      by_cases hj : j ∈ l
      · rw [if_pos hj, if_pos (List.mem_cons_of_mem _ hj)]
      · rw [if_neg hj, if_neg (by simp only [List.mem_cons, not_or]; exact ⟨fun z => e z.symm, hj⟩)]
theorem wipe_set {σ : L2.St} {l : List Nat} {i : Nat} {v : Option V} (hi : i ∈ l) : wipe (σ.set i v) l = wipe σ l := by
  apply List.ext_getElem?
  intro j
  rw [wipe_get, wipe_get, List.length_set]
  by_cases hj : j ∈ l
  · rw [if_pos hj, if_pos hj]
  · rw [if_neg hj, if_neg hj]
    have : i ≠ j := fun z => hj (z ▸ hi)
    rw [List.getElem?_set_ne this]
theorem wipe_wipe {σ : L2.St} {l : List Nat} : wipe (wipe σ l) l = wipe σ l := by
  apply List.ext_getElem?
  intro j
  rw [wipe_get, wipe_get, wipe_length]
  by_cases hj : j ∈ l
  · rw [if_pos hj, if_pos hj]
  · rw [if_neg hj, if_neg hj]
def tName (i : Nat) : GT := fun d s h => .nx (s.set i (some d)) h
theorem sg_name {i : Nat} {x : Str} (hN : X.N.Nodup) (hi : X.N[i]? = some x) (hx : Loc X.env.scope x) (hf : X.fn x = true ∨ X.env.scope.names.lookup x = some .local := by first | exact .inl rfl | exact .inr rfl) : SG X false (.Name x pos) [i] (tName i) := by
  refine PG.imp (pg_name hN hi hx hf) fun v σ H Q h => ?_
  obtain ⟨m, s, h, d, R0, rs, rep, p⟩ := h
  have rep' : Rep X.K m H v d := by
    rcases rep with r | ⟨z, _⟩
    · exact r
    · cases z
  exact p m H _ (Grow.refl _ _) R0 (rs.set i rep') fun l hl => wipe_set (hl i (by simp))
theorem sgs_nil : SGs X [] [] [] := by
  refine PGs.imp pgs_nil fun v σ H Q h => ?_
  obtain ⟨m, s, h, ds, R0, rs, rep, p⟩ := h
  cases rep with
  | nil => exact ⟨rfl, p m H σ (Grow.refl _ _) R0 rs fun _ _ => rfl⟩
  | cons r t => exact False.elim p
theorem sgs_cons {es : List Expr} {vs ws : List Nat} {gt : GT} {gts : List GT} (h1 : SG X false e vs gt) (h2 : SGs X es ws gts) (hs : (assignEach (e :: es) X.env).map (·.2) = assign e X.env :: (assignEach es X.env).map (·.2) := by rfl) : SGs X (e :: es) (vs ++ ws) (gt :: gts) := by
  refine PGs.imp (pgs_cons h1 h2 hs) fun v σ H Q h => ?_
  obtain ⟨m, s, h, ds, R0, rs, rep, p⟩ := h
  cases rep with
  | nil => exact False.elim p
  | @cons v d xs ds r t =>
    refine ⟨v, xs, rfl, m, s, h, d, R0, rs, .inl r, ?_⟩
    unfold gAll at p
    generalize gt d s h = q at p
    cases q with
    | nx s1 h1 =>
      intro m1 H1 σ1 g1 R1 rs1 hw
      refine ⟨m1, s1, h1, ds, R1, rs1, t.grow g1, ?_⟩
      have p' : PostG X.K X.mg (vs ++ ws) σ m H (gAll gts ds s1 h1) Q := p
      generalize gAll gts ds s1 h1 = q2 at p'
      cases q2 with
      | nx s2 h2 => exact fun m2 H2 σ2 g2 R2 rs2 hw2 => p' m2 H2 σ2 (g1.trans g2) R2 rs2 fun l hl =>
          (hw2 l fun i hi => hl i (List.mem_append_right _ hi)).trans (hw l fun i hi => hl i (List.mem_append_left _ hi))
      | _ => exact p'
    | _ => exact p
def tTup (gts : List GT) : GT := fun d s h => match d with
  | .tup ds => gAll gts ds s h
  | .ref k => match h[k]? with
    | some (.lst ds) => gAll gts ds s h
    | _ => .bad
  | _ => .bad
theorem gAll_len : ∀ {gts : List GT} {ds : List D} {s s' : DS} {h h' : Hm}, gAll gts ds s h = .nx s' h' → ds.length = gts.length
  | [], [], _, _, _, _, _ => rfl
  | [], _ :: _, _, _, _, _, e => by simp [gAll] at e
  | _ :: _, [], _, _, _, _, e => by simp [gAll] at e
  | g :: gs, d :: ds, s, s', h, h', e => by
    unfold gAll at e
    split at e
    · simp [gAll_len e]
    · cases e
theorem sg_tup {es : List Expr} {k : Nat} {vs : List Nat} {gts : List GT} {wk : Bool} (hc : X.calm = true) (h : SGs X es vs gts) (hn : (assignEach es X.env).length = gts.length := by rfl) (hst : (assignEach es X.env).findIdx? (·.1) = none := by rfl) :
    SG X wk (.Tuple es k pos) vs (tTup gts) := by
  have both : PG X (.Tuple es k pos) (fun v σ H Q => gTup X.K gts.length (tSGs X.K X.mg vs gts) v σ H Q ∨ gLst X.K gts.length (tSGs X.K X.mg vs gts) v σ H Q) := by
    refine ⟨fun pins s σ H v u Q I r q => ?_⟩
    rcases q with q | q
    · exact (pg_tup hc h hn hst).run pins s σ H v u Q I r q
    · exact (pg_lst hc h hn hst).run pins s σ H v u Q I r q
  refine PG.imp both fun v σ H Q h => ?_
  obtain ⟨m, s, h, d, R0, rs, rep, p⟩ := h
  have one : ∀ {a : Addr} {us : List V} {ds : List D}, SqT X.K H a us → RepL X.K m H us ds → PostG X.K X.mg vs σ m H (gAll gts ds s h) Q → gTup X.K gts.length (tSGs X.K X.mg vs gts) (.ref a) σ H Q := by
    intro a us ds t l p
    refine ⟨a, us, rfl, t, ?_, m, s, h, ds, R0, rs, l, p⟩
    rw [l.length]
    generalize q : gAll gts ds s h = r at p
    cases r with
    | nx s1 h1 => exact gAll_len q
    | _ => exact False.elim p
  rcases rep with r | ⟨_, a, us, ds, rfl, t, l, rfl⟩
  · unfold tTup at p
    split at p
    · obtain ⟨a, us, rfl, t, l⟩ := r.tup_inv
      exact .inl (one t.sqT l p)
    · split at p
      · rename_i kk _ ds hk
        obtain ⟨a, rfl, hm⟩ := r.ref_inv
        obtain ⟨us, q1, q2⟩ := R0.ob _ _ _ hm hk
        refine .inr ⟨a, us, rfl, .inl (.inl q1), ?_, m, s, h, ds, R0, rs, q2, p⟩
        rw [q2.length]
        generalize q : gAll gts ds s h = r at p
        cases r with
        | nx s1 h1 => exact gAll_len q
        | _ => exact False.elim p
      · exact False.elim p
    · exact False.elim p
  · exact .inl (one t l p)
/-- target = e -/
def gAsg (f : FE) (gt : GT) : FS := fun s h => (f s h).st s fun d h1 => match gt d s h1 with
  | .nx s2 h2 => .nx s2 h2
  | _ => .bad
theorem ss_asg {tg : Expr} {vs : List Nat} {gt : GT} (he : SE X W e f) (hg : SG X false tg vs gt) (hs : swapsWithSole [tg] e pos.line X.env = pure false := by rfl) (hw : swappedStores [tg] e X.env = pure none := by rfl)
    (h1 : (assignEach [tg] X.env).map (·.2) = [assign tg X.env] := by rfl) : SS X W (.Assign [tg] e pos) (gAsg f gt) := by
  refine PS.imp (ps_asg he hg hs hw h1) fun D σ H h => ?_
  obtain ⟨m, s, h, R0, rs, p⟩ := h
  refine ⟨m, s, h, R0, rs, PostE.mono (PostS.ofE rs p) ?_⟩
  rintro x H1 ⟨m1, dx, h1, g1, R1, rx, p1⟩
  refine ⟨m1, s, h1, dx, R1, rs.grow g1, .inl rx, ?_⟩
  try dsimp only at p1
  generalize gt dx s h1 = r at p1
  cases r with
  | nx s2 h2 => exact fun m2 H2 σ2 g2 R2 rs2 _ => p1 m2 H2 σ2 g2 R2 rs2
  | _ => exact p1
end
end Sh

set_option Elab.async false
set_option linter.all false
set_option maxRecDepth 100000
set_option maxHeartbeats 4000000
namespace Sh
open PySem L2 PyProof.Rows
/-! ### what is walked -/
inductive RI where
  | ok (xs : List D) (ck : Option (Nat × List D)) (h : Hm) | exc (c : Str) (fs : List (Str × D)) (h : Hm) | bad
abbrev FI := DS → Hm → RI
/-- a list that is walked is to stay as it is -/
def chkB (ck : Option (Nat × List D)) (h : Hm) : Bool := match ck with
  | none => true
  | some (n, xs) => match items h (.ref n) with
    | some ys => D.beqL ys xs
    | none => false
theorem chkB_ok {n : Nat} {xs : List D} {h : Hm} (e : chkB (some (n, xs)) h = true) : items h (.ref n) = some xs := by
  unfold chkB at e
  dsimp only at e
  split at e
  · rename_i ys hy
    rw [hy, D.beqL_eq _ _ e]
  · cases e
def WalkD (K : PySem.W.Frag) (mg : Str → Option Value) (wk : Bool) (J : It) (xs : List D) (ck : Option (Nat × List D)) (m0 : List Addr) (H0 : Hp) : Prop :=
  ∀ i m H h, Grow m0 H0 m H → R K mg m H h → chkB ck h = true →
    (∀ x, xs[i]? = some x → J.go i H ∧ ∀ v H', J.yld i H v H' → Grow m H m H' ∧ R K mg m H' h ∧ RepQ wk K m H' v x) ∧ (xs.length ≤ i → J.stop i H)
def PostI (K : PySem.W.Frag) (mg : Str → Option Value) (wk : Bool) (W : XK) (m : List Addr) (H : Hp) (r : RI) (Q : It → Hp → Prop) : Prop := match r with
  | .ok xs ck h' => ∀ m' H' J, Grow m H m' H' → R K mg m' H' h' → WalkD K mg wk J xs ck m' H' → Q J H'
  | .exc c fs h' => ∀ m' H' cls dx, Grow m H m' H' → R K mg m' H' h' → ExcAt K mg m' H' cls dx c fs → W cls dx H'
  | .bad => False
def tSI (K : PySem.W.Frag) (mg : Str → Option Value) (W : WX) (wk : Bool) (fi : FI) : TI := fun σ H Q => ∃ m s h, R K mg m H h ∧ RS K m H σ s ∧ PostI K mg wk (fun c d H' => W c d σ H') m H (fi s h) Q
def SI (X : Cx) (W : WX) (wk : Bool) (tg iter : Expr) (fi : FI) : Prop := PI X tg iter (tSI X.K X.mg W wk fi)
theorem PI.imp {X : Cx} {tg e : Expr} {t t' : TI} (h : PI X tg e t) (k : ∀ σ H Q, t' σ H Q → t σ H Q) : PI X tg e t' := ⟨fun pins s σ H Q I q => h.run pins s σ H Q I (k _ _ _ q)⟩
def RD.it (r : RD) (k : D → Hm → RI) : RI := match r with
  | .ok d h => k d h
  | .exc c fs h => .exc c fs h
  | .bad => .bad
section
variable {X : Cx} {W : WX} {tg e a b o : Expr} {f fa fb fo : FE} {pos : Pos}
theorem PostI.ofE {K : PySem.W.Frag} {mg : Str → Option Value} {wk : Bool} {W : XK} {m : List Addr} {H : Hp} {r : RD} {k : D → Hm → RI} {Q : It → Hp → Prop} (p : PostI K mg wk W m H (r.it k) Q) :
    PostE K mg W m H r (Got K mg m H fun m' H' d h' => PostI K mg wk W m' H' (k d h') Q) := by
  cases r with
  | ok d h =>
    intro m' H' v g' r' rep
    refine ⟨m', d, h, g', r', rep, ?_⟩
    have p' : PostI K mg wk W m H (k d h) Q := p
    show PostI K mg wk W m' H' (k d h) Q
    generalize k d h = q at p'
    cases q with
    | ok xs ck h2 => exact fun m2 H2 J g2 => p' m2 H2 J (g'.trans g2)
    | exc c fs h2 => exact fun m2 H2 c d g2 => p' m2 H2 c d (g'.trans g2)
    | bad => exact p'
  | exc c fs h => exact p
  | bad => exact p
/-- a list or a tuple -/
theorem pi_seq {tl : TE} (hl : PE X e tl) : PI X tg e (fun σ H R => tl σ H fun x H1 => ∃ a, x = .ref a ∧ (((∃ xs, SqL X.K H1 a xs) ∧ R (Itl X.K a) H1) ∨ ((∃ xs, SqT X.K H1 a xs) ∧ R (Itt X.K a) H1))) := by
  refine ⟨fun pins s σ H R I h => ?_⟩
  refine thn (hl.run pins s σ H _ I h) fun v s1 ⟨x, H1, I1, r1, q1⟩ => ?_
  obtain ⟨a, e, q1⟩ := q1
  subst e
  cases r1
  rcases q1 with ⟨⟨xs, hq⟩, q⟩ | ⟨⟨xs, hq⟩, q⟩
  · obtain ⟨its, rv, p, hz⟩ := I1.list hq
    refine wpAny_pyIter_list p.isList ?_
    refine ⟨s1.heap.objs.size, [s1.heap.objs.size], _, _, H1, rfl, I1.kept (t' := s1.toks) fun b o e => Heap.get?_push_of_some _ e, turn_list a _, ⟨_, Heap.get?_push_size _ rfl, rfl, rfl⟩, fun b hb => ?_, q⟩
    have e : b = s1.heap.objs.size := by simpa using hb
    subst e
    exact I1.fpOk (Nat.le_refl _) (I1.hok.fresh (Nat.le_refl _))
  · obtain ⟨its, rv, p, hz⟩ := I1.tuple hq
    refine wpAny_pyIter_tuple (show s1.heap.IsTuple a its.toArray from p) ?_
    refine ⟨s1.heap.objs.size, [s1.heap.objs.size], _, _, H1, rfl, I1.kept (t' := s1.toks) fun b o e => Heap.get?_push_of_some _ e, turn_tuple a _, ⟨_, Heap.get?_push_size _ rfl, rfl, rfl⟩, fun b hb => ?_, q⟩
    have e : b = s1.heap.objs.size := by simpa using hb
    subst e
    exact I1.fpOk (Nat.le_refl _) (I1.hok.fresh (Nat.le_refl _))
/-- the items, and what is to stay as it is -/
def iSeq (d : D) (h : Hm) : RI := match d with
  | .tup ds => .ok ds none h
  | .scl ds => .ok ds none h
  | .ref n => match items h (.ref n) with
    | some ds => .ok ds (some (n, ds)) h
    | none => .bad
  | _ => .bad
def fiSeq (f : FE) : FI := fun s h => (f s h).it iSeq
theorem items_ref {K : PySem.W.Frag} {mg : Str → Option Value} {m : List Addr} {H : Hp} {h : Hm} {n : Nat} {a : Addr} {ds : List D} (r : R K mg m H h) (hm : m[n]? = some a) (e : items h (.ref n) = some ds) : ∃ vs, SqL K H a vs ∧ RepL K m H vs ds := by
  unfold items at e
  simp only at e
  split at e
  · rename_i es hk
    cases e
    exact ObjR.sqL (.inl (r.ob _ _ _ hm hk))
  · rename_i es hk
    cases e
    exact ObjR.sqL (.inr (r.ob _ _ _ hm hk))
  · cases e
theorem walk_list {K : PySem.W.Frag} {mg : Str → Option Value} {m : List Addr} {H : Hp} {n : Nat} {a : Addr} {ds : List D} {wk : Bool} (hm : m[n]? = some a) : WalkD K mg wk (Itl K a) ds (some (n, ds)) m H := by
  intro i m' H' h g r hc
  obtain ⟨vs, hq, l⟩ := items_ref r (g.loc _ _ hm) (chkB_ok hc)
  refine ⟨fun x hx => ?_, fun hle => ⟨vs, hq, by rw [l.length]; exact hle⟩⟩
  obtain ⟨v, hv, rv⟩ := l.get hx
  refine ⟨⟨vs, v, hq, hv⟩, fun v' H2 hy => ?_⟩
  obtain ⟨rfl, hy⟩ := hy
  have e := hy vs hq
  rw [hv] at e
  cases e
  exact ⟨Grow.refl _ _, r, .inl rv⟩
theorem walk_tup {K : PySem.W.Frag} {mg : Str → Option Value} {m : List Addr} {H : Hp} {a : Addr} {ds : List D} {vs : List V} {wk : Bool} (ht : TupS K H a vs) (l : RepL K m H vs ds) : WalkD K mg wk (Itt K a) ds none m H := by
  intro i m' H' h g r hc
  have hq := (g.tupS ht).sqT
  replace l := l.grow g
  refine ⟨fun x hx => ?_, fun hle => ⟨vs, hq, by rw [l.length]; exact hle⟩⟩
  obtain ⟨v, hv, rv⟩ := l.get hx
  refine ⟨⟨vs, v, hq, hv⟩, fun v' H2 hy => ?_⟩
  obtain ⟨rfl, hy⟩ := hy
  have e := hy vs hq
  rw [hv] at e
  cases e
  exact ⟨Grow.refl _ _, r, .inl rv⟩
theorem walk_scl {K : PySem.W.Frag} {mg : Str → Option Value} {m : List Addr} {H : Hp} {a : Addr} {ds : List D} {vs : List V} {wk : Bool} (ht : SclS K H a vs) (l : RepL K m H vs ds) : WalkD K mg wk (Itl K a) ds none m H := by
  intro i m' H' h g r hc
  have hq := (g.sclS ht).sqL
  replace l := l.grow g
  refine ⟨fun x hx => ?_, fun hle => ⟨vs, hq, by rw [l.length]; exact hle⟩⟩
  obtain ⟨v, hv, rv⟩ := l.get hx
  refine ⟨⟨vs, v, hq, hv⟩, fun v' H2 hy => ?_⟩
  obtain ⟨rfl, hy⟩ := hy
  have e := hy vs hq
  rw [hv] at e
  cases e
  exact ⟨Grow.refl _ _, r, .inl rv⟩
theorem rgD_length (a b : Int) : (rgD a b).length = (b - a).toNat := by unfold rgD; rw [List.length_map, List.length_range]
theorem rgD_get {a b : Int} {i : Nat} {x : D} (e : (rgD a b)[i]? = some x) : i < (b - a).toNat ∧ x = .int (a + (i : Nat)) := by
  have hl := (List.getElem?_eq_some_iff.mp e).1
  rw [rgD_length] at hl
  unfold rgD at e
  rw [List.getElem?_map, List.getElem?_range hl] at e
  cases e
  exact ⟨hl, rfl⟩
theorem walk_rg {K : PySem.W.Frag} {mg : Str → Option Value} {m : List Addr} {H : Hp} {a b : Int} {wk : Bool} : WalkD K mg wk (Itr a (b - a).toNat) (rgD a b) none m H := by
  intro i m' H' h g r hc
  refine ⟨fun x hx => ?_, fun hle => by rw [rgD_length] at hle; exact hle⟩
  obtain ⟨h1, rfl⟩ := rgD_get hx
  refine ⟨h1, fun v' H2 hy => ?_⟩
  obtain ⟨rfl, rfl⟩ := hy
  exact ⟨Grow.refl _ _, r, .inl (.int _)⟩
theorem si_seq (he : SE X W e f) : SI X W false tg e (fiSeq f) := by
  refine PI.imp (pi_seq he) fun σ H Q h => ?_
  obtain ⟨m, s, h, R0, rs, p⟩ := h
  refine ⟨m, s, h, R0, rs, PostE.mono (PostI.ofE p) ?_⟩
  rintro x H1 ⟨m1, dx, h1, g1, R1, rx, p1⟩
  unfold iSeq at p1
  split at p1
  · obtain ⟨a, vs, rfl, t, l⟩ := rx.tup_inv
    exact ⟨a, rfl, .inr ⟨⟨vs, t.sqT⟩, p1 m1 H1 _ (Grow.refl _ _) R1 (walk_tup t l)⟩⟩
  · obtain ⟨a, vs, rfl, t, l⟩ := rx.scl_inv
    exact ⟨a, rfl, .inl ⟨⟨vs, t.sqL⟩, p1 m1 H1 _ (Grow.refl _ _) R1 (walk_scl t l)⟩⟩
  · split at p1
    · rename_i ds hi
      obtain ⟨a, rfl, hm⟩ := rx.ref_inv
      obtain ⟨vs, hq, l⟩ := items_ref R1 hm hi
      exact ⟨a, rfl, .inl ⟨⟨vs, hq⟩, p1 m1 H1 _ (Grow.refl _ _) R1 (walk_list hm)⟩⟩
    · exact False.elim p1
  · exact False.elim p1
/-- range(b), range(a, b) -/
def iRg (ds : List D) (h : Hm) : RI := match ds with
  | [.int j] => if -(2 ^ 62) ≤ j ∧ j < 2 ^ 62 then .ok (rgD 0 j) none h else .bad
  | [.int i, .int j] => if -(2 ^ 62) ≤ i ∧ i < 2 ^ 62 ∧ -(2 ^ 62) ≤ j ∧ j < 2 ^ 62 then .ok (rgD i j) none h else .bad
  | _ => .bad
def fiRg (fs : List FE) : FI := fun s h => match evalL fs s h with
  | .ok ds h1 => iRg ds h1
  | .exc c x h1 => .exc c x h1
  | .bad => .bad
theorem rg_ok {fs : List FE} {σ : L2.St} {H : Hp} {Q : It → Hp → Prop} {wk : Bool} {r : List V → Hp → (It → Hp → Prop) → Prop} (h : tSI X.K X.mg W wk (fiRg fs) σ H Q)
    (k : ∀ m1 H1 vs ds h1, R X.K X.mg m1 H1 h1 → RepL X.K m1 H1 vs ds → ds.length = fs.length → PostI X.K X.mg wk (fun c d H' => W c d σ H') m1 H1 (iRg ds h1) Q → r vs H1 Q) : tSA X.K X.mg W (evalL fs) σ H fun vs H1 => r vs H1 Q := by
  obtain ⟨m, s, h, R0, rs, p⟩ := h
  refine ⟨m, s, h, R0, rs, ?_⟩
  unfold fiRg at p
  generalize q : evalL fs s h = r at p
  cases r with
  | ok ds h1 =>
    intro m1 H1 vs g1 R1 rvs
    refine k m1 H1 vs ds h1 R1 rvs (evalL_length q) ?_
    try dsimp only at p
    generalize iRg ds h1 = r2 at p
    cases r2 with
    | ok xs ck h2 => exact fun m2 H2 J g2 => p m2 H2 J (g1.trans g2)
    | exc c fs h2 => exact fun m2 H2 c d g2 => p m2 H2 c d (g1.trans g2)
    | bad => exact p
  | exc c fs h1 => exact p
  | bad => exact p
theorem si_rg1 {p : Pos} (hg : Gl X "range") (hm : X.mg "range" = none) (ha : SA X W [a] (evalL [fa])) (hs : starEach [a] X.env = [(false, eval a X.env)] := by rfl) : SI X W false tg (.Call (.Name "range" p) [a] [] pos) (fiRg [fa]) := by
  refine PI.imp (pi_range1 hg hm ha hs) fun σ H Q h => rg_ok (r := fun vs H1 Q => ∃ j : Int, vs = [.int j] ∧ -(2 ^ 62) ≤ j ∧ j < 2 ^ 62 ∧ Q (Itr 0 j.toNat) H1) h fun m1 H1 vs ds h1 R1 rvs hl p => ?_
  unfold iRg at p
  split at p
  · split at p
    · rename_i j hj
      cases rvs with
      | cons r1 r2 =>
        cases r2; cases r1
        have w := walk_rg (K := X.K) (mg := X.mg) (m := m1) (H := H1) (a := 0) (b := j) (wk := false)
        rw [Int.sub_zero] at w
        exact ⟨j, rfl, hj.1, hj.2, p m1 H1 _ (Grow.refl _ _) R1 w⟩
    · exact False.elim p
  · simp at hl
  · exact False.elim p
theorem si_rg2 {p : Pos} (hg : Gl X "range") (hm : X.mg "range" = none) (ha : SA X W [a, b] (evalL [fa, fb])) (hs : starEach [a, b] X.env = [(false, eval a X.env), (false, eval b X.env)] := by rfl) (hs2 : starEach [b] X.env = [(false, eval b X.env)] := by rfl) :
    SI X W false tg (.Call (.Name "range" p) [a, b] [] pos) (fiRg [fa, fb]) := by
  refine PI.imp (pi_range2 hg hm ha hs hs2) fun σ H Q h => rg_ok (r := fun vs H1 Q => ∃ i j : Int, vs = [.int i, .int j] ∧ (-(2 ^ 62) ≤ i ∧ i < 2 ^ 62 ∧ -(2 ^ 62) ≤ j ∧ j < 2 ^ 62) ∧ Q (Itr i (j - i).toNat) H1) h fun m1 H1 vs ds h1 R1 rvs hl p => ?_
  unfold iRg at p
  split at p
  · simp at hl
  · split at p
    · rename_i i j hj
      cases rvs with
      | cons r1 r2 =>
        cases r2 with
        | cons r2 r3 =>
          cases r3; cases r1; cases r2
          exact ⟨i, j, rfl, hj, p m1 H1 _ (Grow.refl _ _) R1 walk_rg⟩
    · exact False.elim p
  · exact False.elim p

/-! ### for -/
def loopG (ck : Option (Nat × List D)) (gt : GT) (gb : FS) : List D → DS → Hm → RT
  | [], s, h => if chkB ck h = true then .nx s h else .bad
  | x :: xs, s, h => if chkB ck h = true then (match gt x s h with
    | .nx s1 h1 => (match gb s1 h1 with
      | .nx s2 h2 => loopG ck gt gb xs s2 h2
      | .ct s2 h2 => loopG ck gt gb xs s2 h2
      | .bk s2 h2 => .nx s2 h2
      | r => r)
    | _ => .bad) else .bad
def gFor (fi : FI) (gt : GT) (gb : FS) : FS := fun s h => match fi s h with
  | .ok xs ck h1 => loopG ck gt gb xs s h1
  | .exc c fs h1 => .exc c fs s h1
  | .bad => .bad
theorem ss_for {iter : Expr} {body : List Stmt} {fi : FI} {gt : GT} {gb : FS} {wk : Bool} {vs : List Nat} (hp : PassesOwn (model X.prog X.w) X.A X.env X.xe) (hc : X.calm = true) (hi : SI X W wk tg iter fi) (hg : SG X wk tg vs gt) (hb : SSs X W body gb)
    (hs : ∀ x, foldedSetIterable iter X.env x = pure x := by intro _; rfl) : SS X W (.For tg iter body [] pos) (gFor fi gt gb) := by
  refine PS.imp (ps_for hp hc hi hg hb hs) fun D σ H h => ?_
  obtain ⟨m, s, h, R0, rs, p⟩ := h
  refine ⟨m, s, h, R0, rs, ?_⟩
  unfold gFor at p
  generalize fi s h = r at p
  cases r with
  | exc c fs h1 => exact fun m' H' cls dx g r' x => p m' H' σ cls dx g r' (rs.grow g) x
  | bad => exact p
  | ok xs ck h1 =>
    intro m1 H1 J g1 R1 wd
    replace p := PostS.grow (show PostS X.K X.mg W m H (loopG ck gt gb xs s h1) D from p) g1
    refine ⟨fun i k σ H => k = xs.length - i ∧ i ≤ xs.length ∧ ∃ m s h, Grow m1 H1 m H ∧ R X.K X.mg m H h ∧ RS X.K m H σ s ∧ PostS X.K X.mg W m H (loopG ck gt gb (xs.drop i) s h) D,
      ⟨xs.length, by simp, Nat.zero_le _, m1, s, h1, Grow.refl _ _, R1, rs.grow g1, p⟩, ?_⟩
    rintro i k σ2 H2 ⟨rfl, hi, m2, s2, h2, g2, R2, rs2, p2⟩
    by_cases hlt : i < xs.length
    · rw [List.drop_eq_getElem_cons hlt] at p2
      unfold loopG at p2
      split at p2
      · rename_i hck
        obtain ⟨hgo, hyl⟩ := (wd i m2 H2 h2 g2 R2 hck).1 xs[i] (List.getElem?_eq_getElem hlt)
        refine .inr ⟨hgo, fun σ' H' => ∃ m s h, Grow m1 H1 m H' ∧ R X.K X.mg m H' h ∧ RS X.K m H' σ' s ∧ PostS X.K X.mg W m H' (loopG ck gt gb (xs.drop (i + 1)) s h) D,
          fun σ' H' q => ⟨xs.length - (i + 1), by omega, rfl, hlt, q⟩, fun v H3 hy => ?_⟩
        obtain ⟨g3, R3, rep⟩ := hyl v H3 hy
        refine ⟨m2, s2, h2, xs[i], R3, rs2.grow g3, rep, ?_⟩
        generalize gt xs[i] s2 h2 = q at p2
        cases q with
        | nx s4 h4 =>
          intro m4 H4 σ4 g4 R4 rs4 _
          refine ⟨m4, s4, h4, R4, rs4, ?_⟩
          replace p2 := PostS.grow p2 (g3.trans g4)
          try dsimp only at p2
          generalize gb s4 h4 = q2 at p2
          have gg := (g2.trans (g3.trans g4))
          cases q2 with
          | nx s5 h5 => exact fun m5 H5 σ5 g5 R5 rs5 => ⟨m5, s5, h5, gg.trans g5, R5, rs5, PostS.grow p2 g5⟩
          | ct s5 h5 => exact fun m5 H5 σ5 g5 R5 rs5 => ⟨m5, s5, h5, gg.trans g5, R5, rs5, PostS.grow p2 g5⟩
          | bk s5 h5 => exact p2
          | rt d h5 => exact p2
          | exc c fs s h => exact p2
          | bad => exact p2
        | _ => exact False.elim p2
      · exact False.elim p2
    · have e : i = xs.length := by omega
      subst e
      rw [List.drop_length] at p2
      unfold loopG at p2
      split at p2
      · rename_i hck
        exact .inl ⟨(wd _ m2 H2 h2 g2 R2 hck).2 (Nat.le_refl _), p2 m2 H2 σ2 (Grow.refl _ _) R2 rs2⟩
      · exact False.elim p2

/-! ### comprehensions -/
def wipeD (s : DS) : List Nat → DS
  | [] => s
  | v :: vs => (wipeD s vs).set v none
theorem RS.wipe {K : PySem.W.Frag} {m : List Addr} {H : Hp} {σ : L2.St} {s : DS} (r : RS K m H σ s) : ∀ l : List Nat, RS K m H (wipe σ l) (wipeD s l)
  | [] => r
  | v :: l => (RS.wipe r l).clr v
/-- the new list stands at n -/
def lcLoop (ck : Option (Nat × List D)) (gt : GT) (ft fe : FE) (n : Nat) (s0 : DS) : List D → Hm → RD
  | [], h => if chkB ck h = true then .ok (.ref n) h else .bad
  | x :: xs, h => if chkB ck h = true then (match gt x s0 h with
    | .nx s1 h1 => (match ft s1 h1 with
      | .ok (.bl true) h2 => (match fe s1 h2 with
        | .ok d h3 => (match h3[n]? with
          | some (.lst acc) => if acc.length < big then lcLoop ck gt ft fe n s0 xs (h3.set n (.lst (acc ++ [d]))) else .bad
          | _ => .bad)
        | _ => .bad)
      | .ok (.bl false) h2 => lcLoop ck gt ft fe n s0 xs h2
      | _ => .bad)
    | _ => .bad) else .bad
def eLc (fi : FI) (gt : GT) (ft fe : FE) (own : List Nat) : FE := fun s h => match fi s h with
  | .ok xs ck h1 => lcLoop ck gt ft fe h1.length (wipeD s own) xs (h1 ++ [.lst []])
  | .exc c fs h1 => .exc c fs h1
  | .bad => .bad
/-- no exception is let out -/
abbrev W0 : WX := fun _ _ _ _ => False
def STs (X : Cx) (ifs : List Expr) (f : FE) : Prop := PTs X ifs (tST X.K X.mg W0 f)
theorem PTs.imp {X : Cx} {e : List Expr} {t t' : TT} (h : PTs X e t) (k : ∀ σ H Q, t' σ H Q → t σ H Q) : PTs X e t' := ⟨fun pins s σ H Q I q => h.run pins s σ H Q I (k _ _ _ q)⟩
theorem sts_nil : STs X [] (eC (.bl true)) := PTs.imp pts_nil fun σ H Q ⟨m, s, h, R0, rs, p⟩ => p m H (Grow.refl _ _) R0
theorem sts_one {c : Expr} {fc : FE} (h : ST X W0 c fc) : STs X [c] fc := pts_one h
theorem lc_ok {wi : TI} {fi : FI} {gt : GT} {ft fe : FE} {vs own : List Nat} {wk : Bool} (hv : ∀ i ∈ vs, i ∈ own) {σ : L2.St} {H : Hp} {Q : VK} (h : tS X.K X.mg W (eLc fi gt ft fe own) σ H Q) :
    tLc (tSI X.K X.mg W wk fi) (tSG X.K X.mg wk vs gt) (tST X.K X.mg W0 ft) (tS X.K X.mg W0 fe) own σ H Q := by
  obtain ⟨m, s, h, R0, rs, p⟩ := h
  refine ⟨m, s, h, R0, rs, ?_⟩
  unfold eLc at p
  generalize fi s h = r at p
  cases r with
  | exc c fs h1 => exact p
  | bad => exact p
  | ok xs ck h1 =>
    intro m1 H1 J g1 R1 wd Dn hD
    replace p := PostE.grow (show PostE X.K X.mg (fun c d H' => W c d σ H') m H (lcLoop ck gt ft fe h1.length (wipeD s own) xs (h1 ++ [.lst []])) Q from p) g1
    have gN : Grow m1 H1 (m1 ++ [Dn]) (upd H1 Dn (.lst [])) := Grow.newr hD
    have RN : R X.K X.mg (m1 ++ [Dn]) (upd H1 Dn (.lst [])) (h1 ++ [.lst []]) := R1.new hD ⟨[], upd_same, .nil⟩
    have nN : (m1 ++ [Dn])[h1.length]? = some Dn := R1.newAt
    generalize h1.length = n at p nN
    generalize h1 ++ [O.lst []] = hN at p RN
    generalize m1 ++ [Dn] = mN at gN RN nN
    generalize hHN : upd H1 Dn (.lst []) = HN at gN RN
    refine ⟨fun i k H => k = xs.length - i ∧ i ≤ xs.length ∧ ∃ m h, Grow mN HN m H ∧ R X.K X.mg m H h ∧ PostE X.K X.mg (fun c d H' => W c d σ H') m H (lcLoop ck gt ft fe n (wipeD s own) (xs.drop i) h) Q,
      ⟨xs.length, by simp, Nat.zero_le _, mN, hN, Grow.refl _ _, RN, PostE.grow p gN⟩, ?_⟩
    rintro i k H2 ⟨rfl, hi, m2, h2, g2, R2, p2⟩
    by_cases hlt : i < xs.length
    · rw [List.drop_eq_getElem_cons hlt] at p2
      unfold lcLoop at p2
      split at p2
      · rename_i hck
        obtain ⟨hgo, hyl⟩ := (wd i m2 H2 h2 (gN.trans g2) R2 hck).1 xs[i] (List.getElem?_eq_getElem hlt)
        refine .inr ⟨hgo, fun H' => ∃ m h, Grow mN HN m H' ∧ R X.K X.mg m H' h ∧ PostE X.K X.mg (fun c d H' => W c d σ H') m H' (lcLoop ck gt ft fe n (wipeD s own) (xs.drop (i + 1)) h) Q,
          fun H' q => ⟨xs.length - (i + 1), by omega, rfl, hlt, q⟩, fun v H3 hy => ?_⟩
        obtain ⟨g3, R3, rep⟩ := hyl v H3 hy
        refine ⟨m2, wipeD s own, h2, xs[i], R3, ((rs.grow (g1.trans (gN.trans (g2.trans g3)))).wipe own), rep, ?_⟩
        generalize gt xs[i] (wipeD s own) h2 = q at p2
        cases q with
        | nx s4 h4 =>
          intro m4 H4 σ4 g4 R4 rs4 hw
          refine ⟨(hw own hv).trans wipe_wipe, m4, s4, h4, R4, rs4, ?_⟩
          replace p2 := PostE.grow p2 (g3.trans g4)
          have gg := g2.trans (g3.trans g4)
          try dsimp only at p2
          generalize ft s4 h4 = q2 at p2
          cases q2 with
          | ok d h5 =>
            cases d with
            | bl b =>
              intro m5 H5 g5 R5
              replace p2 := PostE.grow p2 g5
              cases b with
              | false => exact iteF ⟨m5, h5, gg.trans g5, R5, p2⟩
              | true =>
                refine iteT ⟨m5, s4, h5, R5, rs4.grow g5, ?_⟩
                try dsimp only at p2
                generalize fe s4 h5 = q3 at p2
                cases q3 with
                | ok d h6 =>
                  intro m6 H6 v6 g6 R6 rep6
                  replace p2 := PostE.grow p2 g6
                  try dsimp only at p2
                  split at p2
                  · rename_i acc hk
                    split at p2
                    · rename_i hz
                      have hm6 : m6[n]? = some Dn := (gg.trans (g5.trans g6)).loc _ _ nN
                      obtain ⟨us, q1, q2⟩ := R6.ob _ _ _ hm6 hk
                      obtain ⟨g7, R7⟩ := R6.lset hm6 hk (q2.app (.cons rep6 .nil))
                      exact ⟨us, q1, big_lt (by rw [q2.length]; exact hz), m6, _, (gg.trans (g5.trans g6)).trans g7, R7, PostE.grow p2 g7⟩
                    · exact False.elim p2
                  · exact False.elim p2
                | _ => exact False.elim p2
            | _ => exact False.elim p2
          | _ => exact False.elim p2
        | _ => exact False.elim p2
      · exact False.elim p2
    · have e : i = xs.length := by omega
      subst e
      rw [List.drop_length] at p2
      unfold lcLoop at p2
      split at p2
      · rename_i hck
        exact .inl ⟨(wd _ m2 H2 h2 (gN.trans g2) R2 hck).2 (Nat.le_refl _), p2 m2 H2 _ (Grow.refl _ _) R2 (.ref (g2.loc _ _ nN))⟩
      · exact False.elim p2
end
end Sh

set_option Elab.async false
set_option linter.all false
set_option maxRecDepth 100000
set_option maxHeartbeats 4000000
namespace Sh
open PySem L2 PyProof.Rows
section
variable {X : Cx} {W : WX} {tg e a b o elt iter : Expr} {ifs : List Expr} {f fa fb fo fe ft : FE} {fi : FI} {gt : GT} {pos : Pos} {scope : Scope} {own : List (Str × Nat)} {vs : List Nat} {wk : Bool}
theorem mem_all {vs own : List Nat} (h : vs.all (fun i => own.contains i) = true) : ∀ i ∈ vs, i ∈ own := fun i hi => by
  have := List.all_eq_true.mp h i hi
  simpa using this
/-- [e for x in xs if ..] -/
theorem se_lc (hc : X.calm = true) (hN : X.N.Nodup) (hi : SI X W wk tg iter fi) (ok : BlkOk X.N X.env.scope scope own)
    (hg : ∀ (s : Shared) (H : Hp) (C : Addr) (cl : List (Str × Addr)) (fp : List Addr), SG (X.blk s H scope (compEnvC scope cl C X.env) fp) wk tg vs gt) (ht : ∀ (s : Shared) (H : Hp) (C : Addr) (cl : List (Str × Addr)) (fp : List Addr), STs (X.blk s H scope (compEnvC scope cl C X.env) fp) ifs ft)
    (he : ∀ (s : Shared) (H : Hp) (C : Addr) (cl : List (Str × Addr)) (fp : List Addr), SE (X.blk s H scope (compEnvC scope cl C X.env) fp) W0 elt fe) (hs : ∀ x, foldedSetIterable iter X.env x = pure x := by intro _; rfl) (hv : vs.all (fun i => (own.map (·.2)).contains i) = true := by rfl) :
    SE X W (.ListComp elt [⟨tg, iter, ifs, 0⟩] scope pos) (eLc fi gt ft fe (own.map (·.2))) :=
  PE.imp (pe_lc (g := tSG X.K X.mg wk vs gt) (tt := tST X.K X.mg W0 ft) (te := tS X.K X.mg W0 fe) hc hN hi ok hg ht he hs) fun σ H Q h => lc_ok (wi := tSI X.K X.mg W wk fi) (mem_all hv) h
theorem ss_setLc {i : Nat} {y : Str} {py spos : Pos} (hc : X.calm = true) (hN : X.N.Nodup) (hy : X.N[i]? = some y) (hyl : X.env.scope.names.lookup y = some .local)
    (hsw : swapsWith (.ListComp elt [⟨tg, iter, ifs, 0⟩] scope pos) (some (.Name y py)) spos.line X.env = pure true) (hi : SI X W wk tg iter fi) (ok : BlkOk X.N X.env.scope scope own)
    (hg : ∀ (s : Shared) (H : Hp) (C : Addr) (cl : List (Str × Addr)) (fp : List Addr), SG (X.blk s H scope (compEnvC scope cl C X.env) fp) wk tg vs gt) (ht : ∀ (s : Shared) (H : Hp) (C : Addr) (cl : List (Str × Addr)) (fp : List Addr), STs (X.blk s H scope (compEnvC scope cl C X.env) fp) ifs ft)
    (he : ∀ (s : Shared) (H : Hp) (C : Addr) (cl : List (Str × Addr)) (fp : List Addr), SE (X.blk s H scope (compEnvC scope cl C X.env) fp) W0 elt fe) (hs : ∀ x, foldedSetIterable iter X.env x = pure x := by intro _; rfl) (hv : vs.all (fun i => (own.map (·.2)).contains i) = true := by rfl) :
    SS X W (.Assign [.Name y py] (.ListComp elt [⟨tg, iter, ifs, 0⟩] scope pos) spos) (gSet i (eLc fi gt ft fe (own.map (·.2)))) := by
  refine PS.imp (ps_setLc (g := tSG X.K X.mg wk vs gt) (tt := tST X.K X.mg W0 ft) (te := tS X.K X.mg W0 fe) hc hN hy hyl hsw hi ok hg ht he hs) fun D σ H h => ?_
  obtain ⟨m, s, h, R0, rs, p⟩ := h
  refine lc_ok (X := X) (W := W) (wi := tSI X.K X.mg W wk fi) (mem_all hv) ⟨m, s, h, R0, rs, PostE.mono (PostS.ofE rs p) ?_⟩
  rintro x H1 ⟨m1, dx, h1, g1, R1, rx, p1⟩
  exact p1 m1 H1 _ (Grow.refl _ _) R1 ((rs.grow g1).set i rx)
/-! two fors -/
def lcIn (ck : Option (Nat × List D)) (gt : GT) (ft fe : FE) (n : Nat) (s0 : DS) : List D → Hm → Option Hm
  | [], h => if chkB ck h = true then some h else none
  | x :: xs, h => if chkB ck h = true then (match gt x s0 h with
    | .nx s1 h1 => (match ft s1 h1 with
      | .ok (.bl true) h2 => (match fe s1 h2 with
        | .ok d h3 => (match h3[n]? with
          | some (.lst acc) => if acc.length < big then lcIn ck gt ft fe n s0 xs (h3.set n (.lst (acc ++ [d]))) else none
          | _ => none)
        | _ => none)
      | .ok (.bl false) h2 => lcIn ck gt ft fe n s0 xs h2
      | _ => none)
    | _ => none) else none
def lc2Loop (ck : Option (Nat × List D)) (gt : GT) (ft : FE) (fi1 : FI) (gt1 : GT) (ft1 fe : FE) (n : Nat) (s0 : DS) (vs1 : List Nat) : List D → Hm → RD
  | [], h => if chkB ck h = true then .ok (.ref n) h else .bad
  | x :: xs, h => if chkB ck h = true then (match gt x s0 h with
    | .nx s1 h1 => (match ft s1 h1 with
      | .ok (.bl true) h2 => (match fi1 s1 h2 with
        | .ok ys ck1 h3 => (match lcIn ck1 gt1 ft1 fe n (wipeD s1 vs1) ys h3 with
          | some h4 => lc2Loop ck gt ft fi1 gt1 ft1 fe n s0 vs1 xs h4
          | none => .bad)
        | _ => .bad)
      | .ok (.bl false) h2 => lc2Loop ck gt ft fi1 gt1 ft1 fe n s0 vs1 xs h2
      | _ => .bad)
    | _ => .bad) else .bad
def eLc2 (fi : FI) (gt : GT) (ft : FE) (fi1 : FI) (gt1 : GT) (ft1 fe : FE) (own vs1 : List Nat) : FE := fun s h => match fi s h with
  | .ok xs ck h1 => lc2Loop ck gt ft fi1 gt1 ft1 fe h1.length (wipeD s own) vs1 xs (h1 ++ [.lst []])
  | .exc c fs h1 => .exc c fs h1
  | .bad => .bad
theorem lc2_ok {fi1 : FI} {gt1 : GT} {ft1 : FE} {ws own vs1 : List Nat} {wk1 : Bool} (hv : ∀ i ∈ vs, i ∈ own) (hw1 : ∀ i ∈ ws, i ∈ vs1) {σ : L2.St} {H : Hp} {Q : VK} (h : tS X.K X.mg W (eLc2 fi gt ft fi1 gt1 ft1 fe own vs1) σ H Q) :
    tLc2 (tSI X.K X.mg W wk fi) (tSG X.K X.mg wk vs gt) (tST X.K X.mg W0 ft) (tSI X.K X.mg W0 wk1 fi1) (tSG X.K X.mg wk1 ws gt1) (tST X.K X.mg W0 ft1) (tS X.K X.mg W0 fe) own vs1 σ H Q := by
  obtain ⟨m, s, h, R0, rs, p⟩ := h
  refine ⟨m, s, h, R0, rs, ?_⟩
  unfold eLc2 at p
  generalize fi s h = r at p
  cases r with
  | exc c fs h1 => exact p
  | bad => exact p
  | ok xs ck h1 =>
    intro m1 H1 J g1 R1 wd Dn hD
    replace p := PostE.grow (show PostE X.K X.mg (fun c d H' => W c d σ H') m H (lc2Loop ck gt ft fi1 gt1 ft1 fe h1.length (wipeD s own) vs1 xs (h1 ++ [.lst []])) Q from p) g1
    have gN : Grow m1 H1 (m1 ++ [Dn]) (upd H1 Dn (.lst [])) := Grow.newr hD
    have RN : R X.K X.mg (m1 ++ [Dn]) (upd H1 Dn (.lst [])) (h1 ++ [.lst []]) := R1.new hD ⟨[], upd_same, .nil⟩
    have nN : (m1 ++ [Dn])[h1.length]? = some Dn := R1.newAt
    generalize h1.length = n at p nN
    generalize h1 ++ [O.lst []] = hN at p RN
    generalize m1 ++ [Dn] = mN at gN RN nN
    generalize hHN : upd H1 Dn (.lst []) = HN at gN RN
    refine ⟨fun i k H => k = xs.length - i ∧ i ≤ xs.length ∧ ∃ m h, Grow mN HN m H ∧ R X.K X.mg m H h ∧ PostE X.K X.mg (fun c d H' => W c d σ H') m H (lc2Loop ck gt ft fi1 gt1 ft1 fe n (wipeD s own) vs1 (xs.drop i) h) Q,
      ⟨xs.length, by simp, Nat.zero_le _, mN, hN, Grow.refl _ _, RN, PostE.grow p gN⟩, ?_⟩
    rintro i k H2 ⟨rfl, hi, m2, h2, g2, R2, p2⟩
    by_cases hlt : i < xs.length
    · rw [List.drop_eq_getElem_cons hlt] at p2
      unfold lc2Loop at p2
      split at p2
      · rename_i hck
        obtain ⟨hgo, hyl⟩ := (wd i m2 H2 h2 (gN.trans g2) R2 hck).1 xs[i] (List.getElem?_eq_getElem hlt)
        refine .inr ⟨hgo, fun H' => ∃ m h, Grow mN HN m H' ∧ R X.K X.mg m H' h ∧ PostE X.K X.mg (fun c d H' => W c d σ H') m H' (lc2Loop ck gt ft fi1 gt1 ft1 fe n (wipeD s own) vs1 (xs.drop (i + 1)) h) Q,
          fun H' q => ⟨xs.length - (i + 1), by omega, rfl, hlt, q⟩, fun v H3 hy => ?_⟩
        obtain ⟨g3, R3, rep⟩ := hyl v H3 hy
        refine ⟨m2, wipeD s own, h2, xs[i], R3, ((rs.grow (g1.trans (gN.trans (g2.trans g3)))).wipe own), rep, ?_⟩
        generalize gt xs[i] (wipeD s own) h2 = q at p2
        cases q with
        | nx s4 h4 =>
          intro m4 H4 σ4 g4 R4 rs4 hw
          refine ⟨(hw own hv).trans wipe_wipe, m4, s4, h4, R4, rs4, ?_⟩
          replace p2 := PostE.grow p2 (g3.trans g4)
          have gg := g2.trans (g3.trans g4)
          try dsimp only at p2
          generalize ft s4 h4 = q2 at p2
          cases q2 with
          | ok d h5 =>
            cases d with
            | bl b =>
              intro m5 H5 g5 R5
              replace p2 := PostE.grow p2 g5
              have gg5 := gg.trans g5
              cases b with
              | false => exact iteF ⟨m5, h5, gg5, R5, p2⟩
              | true =>
                refine iteT ⟨m5, s4, h5, R5, rs4.grow g5, ?_⟩
                try dsimp only at p2
                generalize fi1 s4 h5 = q3 at p2
                cases q3 with
                | ok ys ck1 h6 =>
                  intro m6 H6 J1 g6 R6 wd1
                  replace p2 := PostE.grow p2 g6
                  have gg6 := gg5.trans g6
                  have rs6 := (rs4.grow g5).grow g6
                  try dsimp only at p2
                  split at p2
                  · rename_i hE he
                    refine ⟨fun j k H => k = ys.length - j ∧ j ≤ ys.length ∧ ∃ m h, Grow m6 H6 m H ∧ R X.K X.mg m H h ∧ lcIn ck1 gt1 ft1 fe n (wipeD s4 vs1) (ys.drop j) h = some hE,
                      ⟨ys.length, by simp, Nat.zero_le _, m6, h6, Grow.refl _ _, R6, he⟩, ?_⟩
                    rintro j k H7 ⟨rfl, hj, m7, h7, g7, R7, e7⟩
                    have gg7 := gg6.trans g7
                    by_cases hlj : j < ys.length
                    · rw [List.drop_eq_getElem_cons hlj] at e7
                      unfold lcIn at e7
                      split at e7
                      · rename_i hck1
                        obtain ⟨hgo1, hyl1⟩ := (wd1 j m7 H7 h7 g7 R7 hck1).1 ys[j] (List.getElem?_eq_getElem hlj)
                        refine .inr ⟨hgo1, fun H' => ∃ m h, Grow m6 H6 m H' ∧ R X.K X.mg m H' h ∧ lcIn ck1 gt1 ft1 fe n (wipeD s4 vs1) (ys.drop (j + 1)) h = some hE,
                          fun H' q => ⟨ys.length - (j + 1), by omega, rfl, hlj, q⟩, fun v H8 hy8 => ?_⟩
                        obtain ⟨g8, R8, rep8⟩ := hyl1 v H8 hy8
                        refine ⟨m7, wipeD s4 vs1, h7, ys[j], R8, ((rs6.grow (g7.trans g8)).wipe vs1), rep8, ?_⟩
                        generalize gt1 ys[j] (wipeD s4 vs1) h7 = q4 at e7
                        cases q4 with
                        | nx s9 h9 =>
                          intro m9 H9 σ9 g9 R9 rs9 hw9
                          refine ⟨(hw9 vs1 hw1).trans wipe_wipe, m9, s9, h9, R9, rs9, ?_⟩
                          have gg9 := g7.trans (g8.trans g9)
                          try dsimp only at e7
                          generalize ft1 s9 h9 = q5 at e7
                          cases q5 with
                          | ok d hA =>
                            cases d with
                            | bl b =>
                              intro mA HA gA RA
                              cases b with
                              | false => exact iteF ⟨mA, hA, gg9.trans gA, RA, e7⟩
                              | true =>
                                refine iteT ⟨mA, s9, hA, RA, rs9.grow gA, ?_⟩
                                try dsimp only at e7
                                generalize fe s9 hA = q6 at e7
                                cases q6 with
                                | ok d hB =>
                                  intro mB HB vB gB RB repB
                                  try dsimp only at e7
                                  split at e7
                                  · rename_i acc hk
                                    split at e7
                                    · rename_i hz
                                      have hmB : mB[n]? = some Dn := (((gg6.trans gg9).trans gA).trans gB).loc _ _ nN
                                      obtain ⟨us, q1, q2⟩ := RB.ob _ _ _ hmB hk
                                      obtain ⟨gC, RC⟩ := RB.lset hmB hk (q2.app (.cons repB .nil))
                                      exact ⟨us, q1, big_lt (by rw [q2.length]; exact hz), mB, _, ((gg9.trans gA).trans gB).trans gC, RC, e7⟩
                                    · cases e7
                                  · cases e7
                                | _ => cases e7
                            | _ => cases e7
                          | _ => cases e7
                        | _ => cases e7
                      · cases e7
                    · have e : j = ys.length := by omega
                      subst e
                      rw [List.drop_length] at e7
                      unfold lcIn at e7
                      split at e7
                      · rename_i hck1
                        cases e7
                        exact .inl ⟨(wd1 _ m7 H7 _ g7 R7 hck1).2 (Nat.le_refl _), m7, _, gg7, R7, PostE.grow p2 g7⟩
                      · cases e7
                  · exact False.elim p2
                | _ => exact False.elim p2
            | _ => exact False.elim p2
          | _ => exact False.elim p2
        | _ => exact False.elim p2
      · exact False.elim p2
    · have e : i = xs.length := by omega
      subst e
      rw [List.drop_length] at p2
      unfold lc2Loop at p2
      split at p2
      · rename_i hck
        exact .inl ⟨(wd _ m2 H2 h2 (gN.trans g2) R2 hck).2 (Nat.le_refl _), p2 m2 H2 _ (Grow.refl _ _) R2 (.ref (g2.loc _ _ nN))⟩
      · exact False.elim p2
variable {tg1 iter1 : Expr} {ifs1 : List Expr} {fi1 : FI} {gt1 : GT} {ft1 : FE} {ws vs1 : List Nat} {wk1 : Bool}
theorem se_lc2 (hc : X.calm = true) (hN : X.N.Nodup) (hi : SI X W wk tg iter fi) (ok : BlkOk X.N X.env.scope scope own)
    (hg : ∀ (s : Shared) (H : Hp) (C : Addr) (cl : List (Str × Addr)) (fp : List Addr), SG (X.blk s H scope (compEnvC scope cl C X.env) fp) wk tg vs gt) (ht : ∀ (s : Shared) (H : Hp) (C : Addr) (cl : List (Str × Addr)) (fp : List Addr), STs (X.blk s H scope (compEnvC scope cl C X.env) fp) ifs ft)
    (hi1 : ∀ (s : Shared) (H : Hp) (C : Addr) (cl : List (Str × Addr)) (fp : List Addr), SI (X.blk s H scope (compEnvC scope cl C X.env) fp) W0 wk1 tg1 iter1 fi1)
    (hg1 : ∀ (s : Shared) (H : Hp) (C : Addr) (cl : List (Str × Addr)) (fp : List Addr), SG (X.blk s H scope (compEnvC scope cl C X.env) fp) wk1 tg1 ws gt1) (ht1 : ∀ (s : Shared) (H : Hp) (C : Addr) (cl : List (Str × Addr)) (fp : List Addr), STs (X.blk s H scope (compEnvC scope cl C X.env) fp) ifs1 ft1)
    (he : ∀ (s : Shared) (H : Hp) (C : Addr) (cl : List (Str × Addr)) (fp : List Addr), SE (X.blk s H scope (compEnvC scope cl C X.env) fp) W0 elt fe) (hs : ∀ x, foldedSetIterable iter X.env x = pure x := by intro _; rfl) (hs1 : ∀ env x, foldedSetIterable iter1 env x = pure x := by intro _ _; rfl)
    (hv : vs.all (fun i => (own.map (·.2)).contains i) = true := by rfl) (hv1 : vs1.all (fun i => (own.map (·.2)).contains i) = true := by rfl) (hw1 : ws.all (fun i => vs1.contains i) = true := by rfl) :
    SE X W (.ListComp elt [⟨tg, iter, ifs, 0⟩, ⟨tg1, iter1, ifs1, 0⟩] scope pos) (eLc2 fi gt ft fi1 gt1 ft1 fe (own.map (·.2)) vs1) :=
  PE.imp (pe_lc2 (g := tSG X.K X.mg wk vs gt) (tt := tST X.K X.mg W0 ft) (te := tS X.K X.mg W0 fe) (wi1 := tSI X.K X.mg W0 wk1 fi1) (g1 := tSG X.K X.mg wk1 ws gt1) (tt1 := tST X.K X.mg W0 ft1) hc hN hi ok (mem_all hv1) hg ht hi1 hg1 ht1 he hs hs1) fun σ H Q h => lc2_ok (mem_all hv) (mem_all hw1) h
theorem ss_setLc2 {i : Nat} {y : Str} {py spos : Pos} (hc : X.calm = true) (hN : X.N.Nodup) (hy : X.N[i]? = some y) (hyl : X.env.scope.names.lookup y = some .local)
    (hsw : swapsWith (.ListComp elt [⟨tg, iter, ifs, 0⟩, ⟨tg1, iter1, ifs1, 0⟩] scope pos) (some (.Name y py)) spos.line X.env = pure true) (hi : SI X W wk tg iter fi) (ok : BlkOk X.N X.env.scope scope own)
    (hg : ∀ (s : Shared) (H : Hp) (C : Addr) (cl : List (Str × Addr)) (fp : List Addr), SG (X.blk s H scope (compEnvC scope cl C X.env) fp) wk tg vs gt) (ht : ∀ (s : Shared) (H : Hp) (C : Addr) (cl : List (Str × Addr)) (fp : List Addr), STs (X.blk s H scope (compEnvC scope cl C X.env) fp) ifs ft)
    (hi1 : ∀ (s : Shared) (H : Hp) (C : Addr) (cl : List (Str × Addr)) (fp : List Addr), SI (X.blk s H scope (compEnvC scope cl C X.env) fp) W0 wk1 tg1 iter1 fi1)
    (hg1 : ∀ (s : Shared) (H : Hp) (C : Addr) (cl : List (Str × Addr)) (fp : List Addr), SG (X.blk s H scope (compEnvC scope cl C X.env) fp) wk1 tg1 ws gt1) (ht1 : ∀ (s : Shared) (H : Hp) (C : Addr) (cl : List (Str × Addr)) (fp : List Addr), STs (X.blk s H scope (compEnvC scope cl C X.env) fp) ifs1 ft1)
    (he : ∀ (s : Shared) (H : Hp) (C : Addr) (cl : List (Str × Addr)) (fp : List Addr), SE (X.blk s H scope (compEnvC scope cl C X.env) fp) W0 elt fe) (hs : ∀ x, foldedSetIterable iter X.env x = pure x := by intro _; rfl) (hs1 : ∀ env x, foldedSetIterable iter1 env x = pure x := by intro _ _; rfl)
    (hv : vs.all (fun i => (own.map (·.2)).contains i) = true := by rfl) (hv1 : vs1.all (fun i => (own.map (·.2)).contains i) = true := by rfl) (hw1 : ws.all (fun i => vs1.contains i) = true := by rfl) :
    SS X W (.Assign [.Name y py] (.ListComp elt [⟨tg, iter, ifs, 0⟩, ⟨tg1, iter1, ifs1, 0⟩] scope pos) spos) (gSet i (eLc2 fi gt ft fi1 gt1 ft1 fe (own.map (·.2)) vs1)) := by
  refine PS.imp (ps_setLc2 (g := tSG X.K X.mg wk vs gt) (tt := tST X.K X.mg W0 ft) (te := tS X.K X.mg W0 fe) (wi1 := tSI X.K X.mg W0 wk1 fi1) (g1 := tSG X.K X.mg wk1 ws gt1) (tt1 := tST X.K X.mg W0 ft1) hc hN hy hyl hsw hi ok (mem_all hv1) hg ht hi1 hg1 ht1 he hs hs1) fun D σ H h => ?_
  obtain ⟨m, s, h, R0, rs, p⟩ := h
  refine lc2_ok (X := X) (W := W) (wk := wk) (mem_all hv) (mem_all hw1) ⟨m, s, h, R0, rs, PostE.mono (PostS.ofE rs p) ?_⟩
  rintro x H1 ⟨m1, dx, h1, g1, R1, rx, p1⟩
  exact p1 m1 H1 _ (Grow.refl _ _) R1 ((rs.grow g1).set i rx)

/-! ### raise, try -/
/-- what the written part says of an own exception class without __init__ -/
structure ExcT (X : Cx) (c : Str) (C : Addr) : Prop where
  gC : X.mg c = some (.ref C)
  xC : PySem.W.excIn X.K C [.type "ValueError", .type "Exception", .type "BaseException", .type "object"] "ValueError.__new__" = true
  kC : PySem.W.keepIn X.K (.ref C) = true
  bC : PySem.W.subIn X.K (.ref C) (.type "BaseException") = some true
  tC : PySem.W.typeIn X.K (.ref C) = some (.type "type")
theorem pmk_own0 {x : Str} {C : Addr} {p : Pos} (T : ExcT X x C) (hg : Gl X x) (hdb : (x == ("__debug__" : Str)) = false := by decide) : PMk X (.Call (.Name x p) [] [] pos) (fun _ H Q => Q (.ref C) none H) := by
  intro pins s σ H Q I h
  refine wpAny_Call_Name_kw (ld_glob I hg T.gC ?_ hdb)
  refine PySem.W.callWith_K0 I.kIn T.kC ?_
  show wpAny _ _ (call (.ref C) []) _ _ _
  obtain ⟨bm, N, nm, qn, bs, hdct, sn, sub, ab, col, dd, k0, k1, k2, k3, k5, mN, hC, hN, hni, TT⟩ := exc_obj I.kIn T.xC
  refine wpAny_call_exc_subT PySem.F.excBase_ValueError TT hC hN hni (fun h' e hm => ?_) (by show 0 ≤ sizeLine; rw [sizeLine_eq]; omega)
  exact mk_of I hm (raises_own T.bC T.tC) h (I.hok.gone hm.new)
def gRaise (c : Str) : FS := fun s h => .exc c [] s h
theorem ss_raise {x : Str} {C : Addr} {p pos' : Pos} (hc : X.calm = true) (tk : Takes X W) (T : ExcT X x C) (hg : Gl X x) (hdb : (x == ("__debug__" : Str)) = false := by decide) : SS X W (.Raise (some (.Call (.Name x p) [] [] pos')) none pos) (gRaise x) := by
  refine PS.imp (ps_raise hc tk (pmk_own0 T hg hdb)) fun D σ H h => ?_
  obtain ⟨m, s, h, R0, rs, p⟩ := h
  exact p m H σ (.ref C) none (Grow.refl _ _) R0 rs ⟨C, T.gC, rfl, fun z => absurd rfl z⟩
end
end Sh

set_option Elab.async false
set_option linter.all false
set_option maxRecDepth 100000
set_option maxHeartbeats 4000000
namespace Sh
open PySem L2 PyProof.Rows
/-! ### try -/
/-- which classes a clause takes -/
abbrev SubT := List ((Str × Str) × Bool)
def SubOk (K : PySem.W.Frag) (mg : Str → Option Value) (l : SubT) : Prop := ∀ p ∈ l, ∀ C Cx, mg p.1.1 = some (.ref C) → mg p.1.2 = some (.ref Cx) → PySem.W.exmOne K (.ref C) (.ref Cx) = some p.2
def subT (l : SubT) (c x : Str) : Option Bool := l.lookup (c, x)
theorem mem_look {κ α : Type} [BEq κ] [LawfulBEq κ] : ∀ {l : List (κ × α)} {k : κ} {v : α}, l.lookup k = some v → (k, v) ∈ l
  | [], _, _, e => by simp at e
  | (q, w) :: l, k, v, e => by
    by_cases h : k = q
    · subst h
      simp [List.lookup] at e
      subst e
      exact List.mem_cons_self ..
    · have hb : (k == q) = false := by simpa using h
      simp only [List.lookup, hb] at e
      exact List.mem_cons_of_mem _ (mem_look e)
theorem subT_ok {K : PySem.W.Frag} {mg : Str → Option Value} {l : SubT} (S : SubOk K mg l) {c x : Str} {b : Bool} (e : subT l c x = some b) {C Cx : Addr} (h1 : mg c = some (.ref C)) (h2 : mg x = some (.ref Cx)) : PySem.W.exmOne K (.ref C) (.ref Cx) = some b :=
  S ((c, x), b) (mem_look e) C Cx h1 h2
def handle (l : SubT) : List (Str × FS) → Str → List (Str × D) → DS → Hm → RT
  | [], c, fs, s, h => .exc c fs s h
  | (x, g) :: r, c, fs, s, h => match subT l c x with
    | some true => (match g s h with
      | .exc _ _ _ _ => .bad
      | t => t)
    | some false => handle l r c fs s h
    | none => .bad
def gTry (l : SubT) (gb : FS) (hs : List (Str × FS)) : FS := fun s h => match gb s h with
  | .exc c fs s' h' => handle l hs c fs s' h'
  | r => r
abbrev Hd := Str × Addr × FS
section
variable {X : Cx} {W : WX} {body : List Stmt} {pos : Pos} {gb : FS}
def SHd (X : Cx) (hds : List ExceptHandler) (hs : List Hd) : Prop := HdsOk X hds (hs.map fun p => (.ref p.2.1, fun _ _ _ => tSS X.K X.mg W0 p.2.2)) ∧ ∀ p ∈ hs, X.mg p.1 = some (.ref p.2.1)
theorem sh_nil : SHd X [] [] := ⟨.nil, fun _ z => by cases z⟩
theorem sh_cons {x : Str} {C : Addr} {g : FS} {b₀ : Stmt} {suite : List Stmt} {np pos' : Pos} {hds : List ExceptHandler} {hs : List Hd} (hg : Gl X x) (gC : X.mg x = some (.ref C))
    (hsu : ∀ (a : Addr) (oe : Obj) (pn : List (Addr × Obj)), SSs (X.suite a ((a, oe) :: pn)) W0 (b₀ :: suite) g) (r : SHd X hds hs) (hdb : (x == ("__debug__" : Str)) = false := by decide) : SHd X (.ExceptHandler (some (.Name x np)) none (b₀ :: suite) pos' :: hds) ((x, C, g) :: hs) :=
  ⟨.cons ⟨hg, hdb, .inl gC⟩ (fun a oe cls d pn _ _ => hsu a oe pn) r.1, fun p hp => by
    rcases List.mem_cons.mp hp with rfl | hp
    · exact gC
    · exact r.2 p hp⟩
theorem try_ok {l : SubT} {hs : List Hd} {En : Ends} {m : List Addr} {H : Hp} (S : SubOk X.K X.mg l) (hm : ∀ p ∈ hs, X.mg p.1 = some (.ref p.2.1)) {c : Str} {fs : List (Str × D)} {s' : DS} {h' : Hm}
    (p : PostS X.K X.mg W m H (handle l (hs.map fun p => (p.1, p.2.2)) c fs s' h') En) : ∀ m' H' σ' cls dx, Grow m H m' H' → R X.K X.mg m' H' h' → RS X.K m' H' σ' s' → ExcAt X.K X.mg m' H' cls dx c fs →
      wMany X.K W En (hs.map fun p => (.ref p.2.1, fun _ _ _ => tSS X.K X.mg W0 p.2.2)) cls dx σ' H' := by
  intro m' H' σ' cls dx g R' rs' ex
  induction hs with
  | nil => exact p m' H' σ' cls dx g R' rs' ex
  | cons q r ih =>
    obtain ⟨x, C, gs⟩ := q
    have gx : X.mg x = some (.ref C) := hm (x, C, gs) (List.mem_cons_self ..)
    obtain ⟨Cc, e1, e2, e3⟩ := id ex
    rw [List.map_cons] at p
    unfold handle at p
    split at p
    · rename_i hb
      refine ⟨true, by rw [e2]; exact subT_ok S hb e1 gx, fun _ a ha => ⟨m', s', h', R', rs', ?_⟩, fun z => Bool.noConfusion z⟩
      replace p := PostS.grow p g
      dsimp only at p
      show PostS X.K X.mg W0 m' H' (gs s' h') En
      generalize gs s' h' = t at p ⊢
      cases t <;> first | exact p | exact False.elim p
    · rename_i hb
      exact ⟨false, by rw [e2]; exact subT_ok S hb e1 gx, fun z => Bool.noConfusion z, fun _ => ih (fun p hp => hm p (List.mem_cons_of_mem _ hp)) p⟩
    · exact False.elim p
theorem ss_try {l : SubT} {h0 : ExceptHandler} {hds : List ExceptHandler} {hs : List Hd} (hst : X.stack = X.env :: X.outer) (hf : X.env.frame = some X.env.locals) (tk : Takes X W) (S : SubOk X.K X.mg l)
    (hb : ∀ (W : WX) (pn : List (Addr × Obj)) (xe : Value → Shared → Prop), Takes (X.tr pn xe) W → PassesOwn (model X.prog X.w) X.A X.env xe → SSs (X.tr pn xe) W body gb) (hh : SHd X (h0 :: hds) hs) :
    SS X W (.Try body (h0 :: hds) [] [] pos) (gTry l gb (hs.map fun p => (p.1, p.2.2))) := by
  refine PS.imp (ps_try_many hst hf tk (tb := fun W => tSS X.K X.mg W gb) hb hh.1) fun D σ H h => ?_
  obtain ⟨m, s, h, R0, rs, p⟩ := h
  refine ⟨m, s, h, R0, rs, ?_⟩
  unfold gTry at p
  generalize gb s h = r at p
  cases r with
  | exc c fs s' h' => exact try_ok S hh.2 p
  | nx s h => exact p
  | bk s h => exact p
  | ct s h => exact p
  | rt d h => exact p
  | bad => exact p
end

/-! ### a def -/
def runB (n : Nat) (g : FS) (ds : List D) (h : Hm) : RD := match g (ds.map some ++ List.replicate (n - ds.length) none) h with
  | .nx _ h' => .ok .non h'
  | .rt d h' => .ok d h'
  | .exc c fs _ h' => .exc c fs h'
  | _ => .bad
section
variable {P : Program} {w : World} {K : PySem.W.Frag} {mg : Str → Option Value} {base : Heap} {x qual : Str} {st : Stmt} {f : Addr} {fd : FuncData} {N ps : List Str} {k : Nat} {g : FS}
theorem okS (Fu : Fun K x qual st f fd) (S : FnScope N ps (defScope st))
    (hb : ∀ (cdv : Value) (A : Around) (outer : List Env) (s : Shared) (H : Hp) (E : XK), Room k (A.deeper (envOfC qual (defScope st) s.heap.objs.size f cdv)) →
      Takes (cxOf (L2.CX P w) P w K mg base N qual (defScope st) f cdv A outer s H E) (fun cls d _ H' => E cls d H') → PassesOwn (model P w) (A.deeper (envOfC qual (defScope st) s.heap.objs.size f cdv)) (envOfC qual (defScope st) s.heap.objs.size f cdv) (cxOf (L2.CX P w) P w K mg base N qual (defScope st) f cdv A outer s H E).xe →
      SSs (cxOf (L2.CX P w) P w K mg base N qual (defScope st) f cdv A outer s H E) (fun cls d _ H' => E cls d H') (defBody st) g) :
    FnOk P w K mg base (L2.CX P w) (k + 1) f fd ps (spF K mg ps.length (runB N.length g)) := by
  refine Fu.okX S (fun vs H Q E h => h.1) fun cdv A outer s H vs Q E hr h => ?_
  obtain ⟨hl, m, ds, h0, R0, rv, p⟩ := h
  have tk : Takes (cxOf (L2.CX P w) P w K mg base N qual (defScope st) f cdv A outer s H E) (fun cls d _ H' => E cls d H') := takes_of rfl rfl rfl rfl
  have po : PassesOwn (model P w) (A.deeper (envOfC qual (defScope st) s.heap.objs.size f cdv)) (envOfC qual (defScope st) s.heap.objs.size f cdv) (cxOf (L2.CX P w) P w K mg base N qual (defScope st) f cdv A outer s H E).xe := passes_of (X := cxOf (L2.CX P w) P w K mg base N qual (defScope st) f cdv A outer s H E) rfl
  refine ⟨_, hb cdv A outer s H E hr tk po, m, _, h0, R0, RS.start N rv, ?_⟩
  unfold runB at p
  generalize g (ds.map some ++ List.replicate (N.length - ds.length) none) h0 = r at p
  cases r with
  | nx s' h' => exact fun m' H' σ' gg R' rs' => p m' H' .non gg R' .non
  | rt d h' => exact p
  | exc c fs s' h' => exact fun m' H' σ' cls dx gg R' rs' ex => p m' H' cls dx gg R' ex
  | bk s' h' => exact False.elim p
  | ct s' h' => exact False.elim p
  | bad => exact False.elim p
end

/-! ### C(e, .., k = v, ..) -/
section
variable {X : Cx} {W : WX} {e : Expr} {es : List Expr} {fs fk : List FE} {kws : List Keyword} {pos p : Pos} {k n : Nat} {C fA : Addr} {fd : FuncData} {ps ks : List Str} {F : FF} {x : Str}
def tMakeS (C : Addr) (n m : Nat) (sp : Sp) (E : L2.St → XK) (t tk : TA) : TE := fun σ H Q => t σ H fun vs H1 => tk σ H1 fun zs H2 => vs.length = n ∧ zs.length = m ∧
  ∀ x dx, H2 x = none → H2 dx = none → dx ≠ x → sp (.ref x :: (vs ++ zs)) (upd (upd H2 dx (.own x)) x (.ins C dx [])) (fun v H3 => v = .non ∧ Q (.ref x) H3) (E σ)
theorem run_makeS {CX : CXT} {E : L2.St → XK} {sp : Sp} {pins : List (Addr × Obj)} {σ : L2.St} {H : Hp} {s : Shared} {Q : VK} {us ws : List Value} {vs zs : List V} (M : Mk X.K C fA) (G : FnOk X.prog X.w X.K X.mg X.base CX k fA fd ps sp) (hr : Room (k + 1) X.A)
    (hb : ∀ (s : Shared) (us ws : List Value), us.length = n + 1 → ws.length = ks.length → BindsTo s fd ⟨us, ks.zip ws⟩ (ps.zip (us ++ ws)))
    (hx : PassesAt CX X σ (E σ)) (I : Inv X pins σ H s) (r : Vals vs us) (rz : Vals zs ws) (l1 : vs.length = n) (l2 : zs.length = ks.length)
    (h : ∀ x dx, H x = none → H dx = none → dx ≠ x → sp (.ref x :: (vs ++ zs)) (upd (upd H dx (.own x)) x (.ins C dx [])) (fun v H2 => v = .non ∧ Q (.ref x) H2) (E σ)) :
    wpAny (model X.prog X.w) X.A (call (.ref C) us (ks.zip ws)) (EP X pins σ Q) X.xe s := by
  have hq := h (s.heap.objs.size + 1) s.heap.objs.size (I.hok.fresh (Nat.le_succ _)) (I.hok.fresh (Nat.le_refl _)) (Nat.ne_of_lt (Nat.lt_succ_self _))
  have I2 := Inv.made (C := C) I
  have r1 : Vals (V.ref (s.heap.objs.size + 1) :: vs) (Value.ref (s.heap.objs.size + 1) :: us) := .cons rfl r
  have r2 : Vals (V.ref (s.heap.objs.size + 1) :: (vs ++ zs)) (Value.ref (s.heap.objs.size + 1) :: (us ++ ws)) := .cons rfl (r.append rz)
  have e1 : (Value.ref (s.heap.objs.size + 1) :: us).length = n + 1 := r1.length.symm.trans (congrArg Nat.succ l1)
  have e2 : ws.length = ks.length := rz.length.symm.trans l2
  refine wpAny_call (make_map (f := fA) I.kIn M.makes M.init (beq_iff_eq.mp M.fn) (codeAny_mono (G.run _ X.stack _ _ ⟨Value.ref (s.heap.objs.size + 1) :: us, ks.zip ws⟩ (Value.ref (s.heap.objs.size + 1) :: (us ++ ws)) _ _ (E σ) (hr.make C us (ks.zip ws))
    (I2.env0.make C us (ks.zip ws)) (hb _ (Value.ref (s.heap.objs.size + 1) :: us) ws e1 e2) r2 hq) fun r s' hq' => ?_))
  cases r with
  | error e => exact hx pins _ _ e s' I2 hq'
  | ok fl =>
    cases fl with
    | ret u =>
      obtain ⟨v, H', I3, rv, ev, q3⟩ := I2.after hq'
      subst ev
      exact ⟨rv, ⟨V.ref (s.heap.objs.size + 1), H', I3, rfl, q3⟩⟩
    | next => exact False.elim hq'
    | brk => exact False.elim hq'
    | cont => exact False.elim hq'
theorem pe_makeS {CX : CXT} {E : L2.St → XK} {sp : Sp} {t tk : TA} (M : Mk X.K C fA) (G : FnOk X.prog X.w X.K X.mg X.base CX k fA fd ps sp) (hr : Room (k + 1) X.A) (hg : Gl X x) (hm : X.mg x = some (.ref C))
    (hb : ∀ (s : Shared) (us ws : List Value), us.length = n + 1 → ws.length = ks.length → BindsTo s fd ⟨us, ks.zip ws⟩ (ps.zip (us ++ ws))) (hx : ∀ σ, PassesAt CX X σ (E σ))
    (ha : PA X (e :: es) t) (hkw : PK X kws tk) (hall : (backToKw pos (keywordEach kws X.env)).all (·.1.isSome) = true := by rfl) (hks : (backToKw pos (keywordEach kws X.env)).filterMap (·.1) = ks := by rfl)
    (hdb : (x == ("__debug__" : Str)) = false := by decide) (he : starEach (e :: es) X.env = (false, eval e X.env) :: starEach es X.env := by rfl)
    (hpl : ((backTo pos (starEach (e :: es) X.env)).any (·.1) || (backToKw pos (keywordEach kws X.env)).any (·.1.isNone)) = false := by rfl) :
    PE X (.Call (.Name x p) (e :: es) kws pos) (tMakeS C n ks.length sp E t tk) := by
  refine ⟨fun pins s σ H Q I h => ?_⟩
  refine wpAny_Call_Name_kw (ld_glob I hg hm ?_ hdb)
  refine PySem.W.callWith_KW (h₀ := X.base) I.ok.mod.kin M.kp hall (thn (ha.run pos pins s σ H _ I h) fun us s1 ⟨vs, H1, I1, r, q⟩ => ?_) hpl he
  refine thn (hkw.run pos pins s1 σ H1 _ I1 q) fun ws s2 ⟨zs, H2, I2, rz, l1, l2, q2⟩ => ⟨I2.kIn, ?_⟩
  rw [hks]
  exact run_makeS M G hr hb (hx σ) I2 r rz l1 l2 q2
def SK (X : Cx) (W : WX) (kws : List Keyword) (fk : List FE) : Prop := PK X kws (tSA X.K X.mg W (evalL fk))
theorem PK.imp {X : Cx} {e : List Keyword} {t t' : TA} (h : PK X e t) (k : ∀ σ H Q, t' σ H Q → t σ H Q) : PK X e t' := ⟨fun pos pins s σ H Q I q => h.run pos pins s σ H Q I (k _ _ _ q)⟩
theorem sk_nil : SK X W [] [] := PK.imp pk_nil fun σ H Q ⟨m, s, h, r, rs, p⟩ => p m H [] (Grow.refl _ _) r .nil
theorem sk_cons {nm : Option Str} {kpos : Pos} {f : FE} (ha : SE X W e f) (hr : SK X W kws fk) : SK X W (⟨nm, e, kpos⟩ :: kws) (f :: fk) := by
  refine PK.imp (pk_cons ha hr) fun σ H Q h => ?_
  obtain ⟨m, s, h, R0, rs, p⟩ := h
  refine ⟨m, s, h, R0, rs, ?_⟩
  unfold evalL at p
  generalize f s h = r at p
  cases r with
  | ok d h1 =>
    intro m1 H1 v g1 R1 rv
    refine ⟨m1, s, h1, R1, rs.grow g1, ?_⟩
    replace p := PostA.grow p g1
    dsimp only at p
    generalize evalL fk s h1 = r2 at p
    cases r2 with
    | ok ds h2 => exact fun m2 H2 vs g2 R2 rvs => p m2 H2 (v :: vs) g2 R2 (.cons (rv.grow g2) rvs)
    | exc c fs h1 => exact p
    | bad => exact p
  | exc c fs h1 => exact p
  | bad => exact p
/-- a new instance of the class c -/
def dMake (c : Str) (F : FF) (ds : List D) (h : Hm) : RD := match F (.ref h.length :: ds) (h ++ [.ins c []]) with
  | .ok .non h2 => .ok (.ref h.length) h2
  | .ok _ _ => .bad
  | r => r
def eMake (c : Str) (F : FF) (fs fk : List FE) : FE := fun s h => match evalL fs s h with
  | .ok ds h1 => (match evalL fk s h1 with
    | .ok es h2 => dMake c F (ds ++ es) h2
    | .exc c x h1 => .exc c x h1
    | .bad => .bad)
  | .exc c x h1 => .exc c x h1
  | .bad => .bad
theorem se_make (M : Mk X.K C fA) (G : FnS X k fA fd ps F) (tk : Takes X W) (hr : Room (k + 1) X.A) (hg : Gl X x) (hm : X.mg x = some (.ref C))
    (hb : ∀ (s : Shared) (us ws : List Value), us.length = n + 1 → ws.length = ks.length → BindsTo s fd ⟨us, ks.zip ws⟩ (ps.zip (us ++ ws)))
    (ha : SA X W (e :: es) (evalL fs)) (hkw : SK X W kws fk) (hn : decide (fs.length = n) = true := by rfl) (hk2 : decide (fk.length = ks.length) = true := by rfl) (hps : decide (n + ks.length + 1 = ps.length) = true := by rfl)
    (hall : (backToKw pos (keywordEach kws X.env)).all (·.1.isSome) = true := by rfl) (hks : (backToKw pos (keywordEach kws X.env)).filterMap (·.1) = ks := by rfl)
    (hdb : (x == ("__debug__" : Str)) = false := by decide) (he : starEach (e :: es) X.env = (false, eval e X.env) :: starEach es X.env := by rfl)
    (hpl : ((backTo pos (starEach (e :: es) X.env)).any (·.1) || (backToKw pos (keywordEach kws X.env)).any (·.1.isNone)) = false := by rfl) :
    SE X W (.Call (.Name x p) (e :: es) kws pos) (eMake x F fs fk) := by
  refine PE.imp (pe_makeS M G hr hg hm hb (fun σ => passAt tk σ) ha hkw hall hks hdb he hpl) fun σ H Q h => ?_
  obtain ⟨m, s, h, R0, rs, p⟩ := h
  refine ⟨m, s, h, R0, rs, ?_⟩
  have hn := of_decide_eq_true hn
  have hk2 := of_decide_eq_true hk2
  have hps := of_decide_eq_true hps
  unfold eMake at p
  generalize q1 : evalL fs s h = r1 at p
  cases r1 with
  | ok ds h1 =>
    intro m1 H1 vs g1 R1 rvs
    refine ⟨m1, s, h1, R1, rs.grow g1, ?_⟩
    replace p := PostE.grow p g1
    try dsimp only at p
    generalize q2 : evalL fk s h1 = r2 at p
    cases r2 with
    | ok zs h2 =>
      intro m2 H2 ws g2 R2 rws
      replace p := PostE.grow p g2
      try dsimp only at p
      refine ⟨by rw [rvs.length, evalL_length q1]; exact hn, by rw [rws.length, evalL_length q2]; exact hk2, fun y dx hy hdx ne => ?_⟩
      have g3 : Grow m2 H2 m2 (upd H2 dx (.own y)) := Grow.new hdx
      have R3 : R X.K X.mg m2 (upd H2 dx (.own y)) h2 := R2.tup hdx
      have hy3 : upd H2 dx (.own y) y = none := by rw [upd_ne (Ne.symm ne)]; exact hy
      have g4 : Grow m2 (upd H2 dx (.own y)) (m2 ++ [y]) (upd (upd H2 dx (.own y)) y (.ins C dx [])) := Grow.newr hy3
      have R4 : R X.K X.mg (m2 ++ [y]) (upd (upd H2 dx (.own y)) y (.ins C dx [])) (h2 ++ [.ins x []]) := R3.new hy3 ⟨C, dx, [], hm, upd_same, .nil⟩
      have g5 := g3.trans g4
      refine ⟨?_, m2 ++ [y], .ref h2.length :: (ds ++ zs), h2 ++ [.ins x []], R4, .cons (.ref R3.newAt) (((rvs.grow g2).app rws).grow g5), ?_⟩
      · rw [List.length_cons, List.length_append, rvs.length, rws.length, evalL_length q1, evalL_length q2, hn, hk2]
        exact hps
      · replace p := PostE.grow p g5
        have nn : (m2 ++ [y])[h2.length]? = some y := R3.newAt
        unfold dMake at p
        generalize F (.ref h2.length :: (ds ++ zs)) (h2 ++ [.ins x []]) = r at p
        cases r with
        | ok d h6 =>
          cases d with
          | non => exact fun m6 H6 v g6 R6 rep => ⟨rep.non_inv, p m6 H6 _ g6 R6 (.ref (g6.loc _ _ nn))⟩
          | _ => exact False.elim p
        | exc c fs h6 => exact p
        | bad => exact False.elim p
    | exc c fs h1 => exact p
    | bad => exact p
  | exc c fs h1 => exact p
  | bad => exact p
end
end Sh

set_option Elab.async false
set_option linter.all false
set_option maxRecDepth 100000
set_option maxHeartbeats 4000000
namespace Sh
open PySem L2 PyProof.Rows
/-! ### enumerate -/
section
open Sem (wp)
open AutoSeq1 (wpAny_loadPart')
theorem meets_enum1 {v : Value} {o : Obj} {H : Heap → Prop} (B : Begins v o H) :
    Meets (Builtin.«enumerate.__new__» ⟨[.type "enumerate", v], []⟩) (fun _ R s => H s.heap ∧
      R (.ok (.ret (.ref (s.heap.push o).objs.size))) { s with heap := (s.heap.push o).push { cls := .type "enumerate", data := .fields #[.none, .bool false, .ref s.heap.objs.size, rawInt 0, .none, .none] } }) :=
  .of_wp fun prog w A R s h => by
    obtain ⟨hp, g, d, tk, os⟩ := s; obtain ⟨h1, h⟩ := h
    have hsub := sub_enumerate
    have q1 : ∀ {A' : Around} {E : Value → Shared → Prop} {Q : Value → Shared → Prop}, Q (.ref hp.objs.size) ⟨hp.push o, g, d, tk, os⟩ → wpAny (model prog w) A' (pyIter v) Q E ⟨hp, g, d, tk, os⟩ :=
      fun q => B.iter prog w _ _ ⟨hp, g, d, tk, os⟩ _ h1 q
    wp_walk using q1
    refine wpAny_stack_any fun st => wpAny_pure ?_
    split
    · rename_i c _ _ _ _ _
      cases (c == Value.type "enumerate")
      · wp_walk using q1
        exact ⟨_, rfl, h⟩
      · wp_walk using q1
        exact ⟨_, rfl, h⟩
    · wp_walk using q1
      exact ⟨_, rfl, h⟩
theorem call_enum1 {prog : Program} {w : World} {A : Around} {E : Value → Shared → Prop} {s : Shared} {v : Value} {o : Obj} {H : Heap → Prop} {Q : Value → Shared → Prop} (B : Begins v o H) (h1 : H s.heap)
    (h : ∀ h', IsEnum h' (s.heap.objs.size + 1) s.heap.objs.size 0 .none → h'.get? s.heap.objs.size = some o → h'.objs.size = s.heap.objs.size + 2 →
      (∀ b o, s.heap.get? b = some o → h'.get? b = some o) → Q (.ref (s.heap.objs.size + 1)) { s with heap := h' }) :
    wpAny (model prog w) A (call (.type "enumerate") [v]) Q E s := by
  refine callType_new F.called_enumerate (by decide) (F.typeCall_enumerate_1 _) (F.newCall_enumerate_1 _) (fun obj => F.args_object_init_2 obj _) F.entry_enumerate_new
    (meets_enum1 B) ⟨h1, ?_⟩
  have hz : (s.heap.push o).objs.size = s.heap.objs.size + 1 := Heap.size_push ..
  show _ ∧ _
  rw [hz]
  have he : IsEnum ((s.heap.push o).push { cls := .type "enumerate", data := .fields #[.none, .bool false, .ref s.heap.objs.size, rawInt 0, .none, .none] }) (s.heap.objs.size + 1) s.heap.objs.size 0 .none := by
    have := Heap.get?_push_size (s.heap.push o) (o := { cls := .type "enumerate", data := .fields #[.none, .bool false, .ref s.heap.objs.size, rawInt 0, .none, .none] }) rfl
    rw [hz] at this; exact this
  refine ⟨⟨_, he, rfl⟩, h _ he (Heap.get?_push_of_some _ (Heap.get?_push_size _ B.free)) (by rw [Heap.size_push, hz]) fun b o x => Heap.get?_push_of_some _ (Heap.get?_push_of_some _ x)⟩
end
/-- the tuple at a, each item in a new pair -/
def Itet (K : PySem.W.Frag) (a : Addr) : It :=
  ⟨fun i H => ∃ (xs : List V) (x : V), SqT K H a xs ∧ xs[i]? = some x, fun i H v H' => ∃ T x, v = .ref T ∧ H T = none ∧ H' = upd H T (.tup [.int (i : Nat), x]) ∧ ∀ xs, SqT K H a xs → xs[i]? = some x, fun i H => ∃ xs : List V, SqT K H a xs ∧ xs.length ≤ i⟩
theorem turn_enumT {P : Program} {w : World} {K : PySem.W.Frag} {elts : List Expr} {kk : Nat} {tpos : Pos} (a e it : Addr) :
    Turn P w K (.Tuple elts kk tpos) (Itet K a) [e, it] e (fun i h => (∃ old, IsEnum h e it ((i : Nat) : Int) old) ∧ h.IsTupleIter it a i ∧ e ≠ it ∧ e ≠ a ∧ a ≠ it) where
  mem := by simp
  obj := fun i h st b hb => by
    obtain ⟨⟨old, he⟩, ⟨o, ho, hc, hd⟩, _⟩ := st
    have e' : b = e ∨ b = it := by simpa using hb
    rcases e' with z | z
    · rw [z]; exact ⟨_, he, fun v q => nomatch q⟩
    · rw [z]; exact ⟨o, ho, fun v q => by rw [hd] at q; cases q⟩
  keep := fun i h h' st k => let ⟨⟨old, he⟩, hi, hne⟩ := st; ⟨⟨old, k e (by simp) _ he⟩, hi.at fun o q => k it (by simp) o q, hne⟩
  item := by
    intro X hP hw hK hc i pins s σ H E I hf st hg
    subst hP hw hK
    obtain ⟨⟨old, he⟩, hit, hne, hea, hai⟩ := st
    obtain ⟨xs, x, hq, hx⟩ := hg
    obtain ⟨its, rv, p, hz⟩ := I.tuple hq
    obtain ⟨u, hu, ru⟩ := rv.get hx
    have hel : e < s.heap.objs.size := Heap.lt_size he
    have hil : it < s.heap.objs.size := by obtain ⟨_, q, _⟩ := hit; exact Heap.lt_size q
    have hlt : i < its.toArray.size := by
      have := (List.getElem?_eq_some_iff.mp hu).1
      simpa using this
    refine wpAny_pyNext_enum_itemD (Draws.tuple (A := X.A.in1) (I.ok.hd hc) it a hai its.toArray) he ⟨hit, show s.heap.IsTuple a its.toArray from p⟩ hlt hne (by simp [hne, hea]) fun y h' tk hy ho hst hT hsz hk => ?_
    have ey : y = u := by
      have q : its[i]? = some y := by simpa using hy
      rw [hu] at q
      exact (Option.some.inj q).symm
    subst ey
    have hit' : h'.IsTupleIter it a (i + 1) := hst.1
    refine ⟨_, rfl, wpAny_letOwnedTupleGo_enum (s := { s with heap := h', toks := tk + 1 }) ho fun h'' he' sb => ?_⟩
    have hT2 : h''.get? s.heap.objs.size = some { cls := .type "tuple", data := .seq #[.int i tk, y] } := (sb.2 _ (Nat.ne_of_gt hel)).trans hT
    have new : ObjOk X.prog X.w (upd H s.heap.objs.size (.tup [.int (i : Nat), x])) h'' s.heap.objs.size (.tup [.int (i : Nat), x]) :=
      ⟨by show 2 ≤ sizeLine; decide, [.int i tk, y], .cons ⟨_, rfl⟩ (.cons ru .nil), ⟨_, hT2, rfl, _, rfl⟩⟩
    have I1 : Inv X pins σ (upd H s.heap.objs.size (.tup [.int (i : Nat), x])) { s with heap := h'', toks := tk + 1 } :=
      I.turnedNew (ch := [e, it]) (fun b ob hb q => (sb.2 b (fun z => hb (by simp [z]))).trans (hk b ob (fun z => hb (by simp [z])) (fun z => hb (by simp [z])) q)) hf (Nat.le_refl _) new
    refine ⟨.ref s.heap.objs.size, _, I1, rfl, ⟨_, x, rfl, I.hok.fresh (Nat.le_refl _), rfl, fun ys hy => by rw [I.tuple_inj hy hq]; exact hx⟩, ⟨⟨y, ?_⟩, hit'.at fun o q => (sb.2 it (Ne.symm hne)).trans q, hne, hea, hai⟩, fun b hb => ?_⟩
    · have e1 : ((i + 1 : Nat) : Int) = (i : Int) + 1 := by omega
      rw [e1]; exact he'
    · have hb' : b < s.heap.objs.size := by
        have e' : b = e ∨ b = it := by simpa using hb
        rcases e' with z | z
        · rw [z]; exact hel
        · rw [z]; exact hil
      rw [upd_ne (Nat.ne_of_lt hb')]
      exact (hf b hb).1
  done := by
    intro X hP hw hK hc i pins s σ H E I hf st hg
    subst hP hw hK
    obtain ⟨⟨old, he⟩, hit, hne, hea, hai⟩ := st
    obtain ⟨xs, hq, hx⟩ := hg
    obtain ⟨its, rv, p, hz⟩ := I.tuple hq
    obtain ⟨f0, f1, f2, f3, f4, f5⟩ := hf it (by simp)
    have hl := rv.length
    unfold pyNext
    have hT : s.TypeIs (.ref e) "enumerate" := ⟨_, he, rfl⟩
    refine wpAny_bind (wpAny_attempt (wpAny_callSpecial?_slot (name := Str.ofString "__next__") hT F.slot_enumerate_next
      (wpAny_call_entry F.slot_enumerate_next hT F.entry_enumerate_next ?_ (F.args_enumerate_next_1 _))))
    show wpAny _ _ (field (.ref e) 2 >>= _) _ _ _
    refine wpAny_bind (wpAny_field he rfl (x := .ref it) rfl ?_)
    refine wpAny_bind (wpAny_nextOf_tuple_end (A := X.A.in1) (I.ok.hd hc) hit (show s.heap.IsTuple a its.toArray from p) (by simp; omega) fun h' e0 eb hsi => ?_)
    obtain ⟨o, ho, hc⟩ := hsi
    refine wpAny_bind (wpAny_isInstance (T := "StopIteration") (b := true) ⟨o, ho, hc⟩ isSubtype_stop ?_)
    exact wpAny_pure ⟨rfl, I.turned (t' := s.toks) (fun b o hb q => eb b o hb q) f0 f1 f3 f4 f5⟩
  self := fun A i s Q E st h => let ⟨⟨_, he⟩, _⟩ := st; wpAny_pyIter_enum he h
section
variable {X : Cx} {W : WX} {e : Expr} {f : FE} {p pos tpos : Pos} {elts : List Expr} {kk : Nat}
/-- of a list or a tuple -/
theorem pi_enumS {ta : TA} (hg : Gl X "enumerate") (hm : X.mg "enumerate" = none) (ha : PA X [e] ta) (hs : starEach [e] X.env = [(false, eval e X.env)] := by rfl) :
    PI X (.Tuple elts kk tpos) (.Call (.Name "enumerate" p) [e] [] pos) (fun σ H R => ta σ H fun vs H1 => ∃ x, vs = [x] ∧ ∃ a, x = .ref a ∧ (((∃ xs, SqL X.K H1 a xs) ∧ R (Ite X.K a) H1) ∨ ((∃ xs, SqT X.K H1 a xs) ∧ R (Itet X.K a) H1))) := by
  refine ⟨fun pins s σ H R I h => ?_⟩
  refine Call_ (ld_blt I hg hm boot_enumerate (PyProof.Rows.callWith_type1 (thn (ha.run pos pins s σ H _ I h) fun us s1 ⟨vs, H1, I1, r1, x, q0, q1⟩ => ?_) hs rfl))
  subst q0
  obtain ⟨a, ex, q⟩ := q1
  subst ex
  cases r1 with
  | cons r rr =>
    cases rr
    cases r
    rcases q with ⟨⟨xs, hq⟩, q⟩ | ⟨⟨xs, hq⟩, q⟩
    · obtain ⟨its, rv, p', hz⟩ := I1.list hq
      refine call_enumerate_list p'.isList fun h' he hit hsz hk => wpAny_pyIter_enum he ?_
      have I2 : Inv X pins σ H1 { s1 with heap := h' } := I1.kept (t' := s1.toks) hk
      refine ⟨s1.heap.objs.size + 1, [s1.heap.objs.size + 1, s1.heap.objs.size], _, _, H1, rfl, I2, turn_enum a (s1.heap.objs.size + 1) s1.heap.objs.size, ⟨⟨.none, he⟩, hit, Nat.succ_ne_self _⟩, fun b hb => ?_, q⟩
      have e' : b = s1.heap.objs.size + 1 ∨ b = s1.heap.objs.size := by simpa using hb
      have hle : s1.heap.objs.size ≤ b := by
        rcases e' with z | z
        · rw [z]; exact Nat.le_add_right _ _
        · rw [z]; exact Nat.le_refl _
      exact I1.fpOk hle (I1.hok.fresh hle)
    · obtain ⟨its, rv, p', hz⟩ := I1.tuple hq
      have hl : a < s1.heap.objs.size := by
        obtain ⟨ob, ho, _⟩ := (show s1.heap.IsTuple a its.toArray from p')
        exact Heap.lt_size ho
      refine call_enum1 (begins_tuple a its.toArray) (show s1.heap.IsTuple a its.toArray from p') fun h' he hit hsz hk => wpAny_pyIter_enum he ?_
      have I2 : Inv X pins σ H1 { s1 with heap := h' } := I1.kept (t' := s1.toks) hk
      refine ⟨s1.heap.objs.size + 1, [s1.heap.objs.size + 1, s1.heap.objs.size], _, _, H1, rfl, I2, turn_enumT a (s1.heap.objs.size + 1) s1.heap.objs.size, ⟨⟨.none, he⟩, ⟨_, hit, rfl, rfl⟩, Nat.succ_ne_self _, Nat.ne_of_gt (Nat.lt_succ_of_lt hl), Nat.ne_of_lt hl⟩, fun b hb => ?_, q⟩
      have e' : b = s1.heap.objs.size + 1 ∨ b = s1.heap.objs.size := by simpa using hb
      have hle : s1.heap.objs.size ≤ b := by
        rcases e' with z | z
        · rw [z]; exact Nat.le_add_right _ _
        · rw [z]; exact Nat.le_refl _
      exact I1.fpOk hle (I1.hok.fresh hle)
def enD : Nat → List D → List D
  | _, [] => []
  | i, d :: ds => .tup [.int (i : Nat), d] :: enD (i + 1) ds
theorem enD_get : ∀ {ds : List D} {k i : Nat}, (enD k ds)[i]? = (ds[i]?).map fun d => .tup [.int ((k + i : Nat) : Nat), d]
  | [], k, i => by simp [enD]
  | d :: ds, k, 0 => by simp [enD]
  | d :: ds, k, i + 1 => by
    have e : k + 1 + i = k + (i + 1) := by omega
    simp only [enD, List.getElem?_cons_succ]
    rw [enD_get, e]
theorem enD_length : ∀ {ds : List D} {k : Nat}, (enD k ds).length = ds.length
  | [], k => rfl
  | d :: ds, k => by simp [enD, enD_length]
def iEn (d : D) (h : Hm) : RI := match d with
  | .tup ds => .ok (enD 0 ds) none h
  | .ref n => match items h (.ref n) with
    | some ds => .ok (enD 0 ds) (some (n, ds)) h
    | none => .bad
  | _ => .bad
def fiEn (f : FE) : FI := fun s h => (f s h).it iEn
theorem walk_enumL {K : PySem.W.Frag} {mg : Str → Option Value} {m : List Addr} {H : Hp} {n : Nat} {a : Addr} {ds : List D} (hm : m[n]? = some a) : WalkD K mg true (Ite K a) (enD 0 ds) (some (n, ds)) m H := by
  intro i m' H' h g r hc
  obtain ⟨vs, hq, l⟩ := items_ref r (g.loc _ _ hm) (chkB_ok hc)
  refine ⟨fun x hx => ?_, fun hle => ⟨vs, hq, by rw [l.length]; rw [enD_length] at hle; exact hle⟩⟩
  rw [enD_get] at hx
  obtain ⟨d, hd, rfl⟩ := Option.map_eq_some_iff.mp hx
  obtain ⟨v, hv, rv⟩ := l.get hd
  refine ⟨⟨vs, v, hq, hv⟩, fun v' H2 hy => ?_⟩
  obtain ⟨T, w, rfl, hT, rfl, hy⟩ := hy
  have e := hy vs hq
  rw [hv] at e
  cases e
  refine ⟨Grow.new hT, r.tup hT, .inr ⟨rfl, T, _, _, rfl, .inl (.inl upd_same), .cons (.int _) (.cons (rv.grow (Grow.new hT)) .nil), ?_⟩⟩
  rw [Nat.zero_add]
theorem walk_enumT {K : PySem.W.Frag} {mg : Str → Option Value} {m : List Addr} {H : Hp} {a : Addr} {ds : List D} {vs : List V} (ht : TupS K H a vs) (l : RepL K m H vs ds) : WalkD K mg true (Itet K a) (enD 0 ds) none m H := by
  intro i m' H' h g r hc
  have hq := (g.tupS ht).sqT
  replace l := l.grow g
  refine ⟨fun x hx => ?_, fun hle => ⟨vs, hq, by rw [l.length]; rw [enD_length] at hle; exact hle⟩⟩
  rw [enD_get] at hx
  obtain ⟨d, hd, rfl⟩ := Option.map_eq_some_iff.mp hx
  obtain ⟨v, hv, rv⟩ := l.get hd
  refine ⟨⟨vs, v, hq, hv⟩, fun v' H2 hy => ?_⟩
  obtain ⟨T, w, rfl, hT, rfl, hy⟩ := hy
  have e := hy vs hq
  rw [hv] at e
  cases e
  refine ⟨Grow.new hT, r.tup hT, .inr ⟨rfl, T, _, _, rfl, .inl (.inl upd_same), .cons (.int _) (.cons (rv.grow (Grow.new hT)) .nil), ?_⟩⟩
  rw [Nat.zero_add]
theorem si_enum (hg : Gl X "enumerate") (hm : X.mg "enumerate" = none) (he : SE X W e f) (hs : starEach [e] X.env = [(false, eval e X.env)] := by rfl) (hs2 : starEach [e] X.env = (false, eval e X.env) :: starEach [] X.env := by rfl) :
    SI X W true (.Tuple elts kk tpos) (.Call (.Name "enumerate" p) [e] [] pos) (fiEn f) := by
  refine PI.imp (pi_enumS hg hm (pa_cons he pa_nil hs2) hs) fun σ H Q h => ?_
  obtain ⟨m, s, h, R0, rs, p⟩ := h
  refine ⟨m, s, h, R0, rs, PostE.mono (PostI.ofE p) ?_⟩
  rintro x H1 ⟨m1, dx, h1, g1, R1, rx, p1⟩
  refine ⟨x, rfl, ?_⟩
  unfold iEn at p1
  split at p1
  · obtain ⟨a, vs, rfl, t, l⟩ := rx.tup_inv
    exact ⟨a, rfl, .inr ⟨⟨vs, t.sqT⟩, p1 m1 H1 _ (Grow.refl _ _) R1 (walk_enumT t l)⟩⟩
  · split at p1
    · rename_i ds hi
      obtain ⟨a, rfl, hm⟩ := rx.ref_inv
      obtain ⟨vs, hq, l⟩ := items_ref R1 hm hi
      exact ⟨a, rfl, .inl ⟨⟨vs, hq⟩, p1 m1 H1 _ (Grow.refl _ _) R1 (walk_enumL hm)⟩⟩
    · exact False.elim p1
  · exact False.elim p1
end
end Sh

set_option Elab.async false
set_option linter.all false
set_option maxRecDepth 100000
set_option maxHeartbeats 4000000
namespace Sh
open PySem L2 PyProof.Rows
/-! ### dicts with keys that are ints or texts -/
section
variable {X : Cx} {W : WX} {o i e b c : Expr} {fo fi f fb fc : FE} {pos pos' apos cpos p : Pos}
def eDnew : FE := fun _ h => .ok (.ref h.length) (h ++ [.dk []])
theorem se_dnew : SE X W (.Dict [] [] pos) eDnew := PE.imp pe_dnewK fun σ H Q ⟨m, s, h, r, rs, p⟩ q hq =>
  p _ _ _ (Grow.newr hq) (r.new hq ⟨[], upd_same, .nil⟩) (.ref r.newAt)
def keyD : D → Option Key
  | .int i => some (.inl i)
  | .str x => some (.inr x)
  | _ => none
theorem keyD_rep {K : PySem.W.Frag} {m : List Addr} {H : Hp} {v : V} {d : D} {k : Key} (r : Rep K m H v d) (e : keyD d = some k) : v = kV k := by
  cases r <;> simp [keyD] at e <;> subst e <;> rfl
def valD (kvs : List (Key × D)) (k : Key) : Option D := (kvs.find? fun kv => decide (kv.1 = k)).map (·.2)
def putKD (kvs : List (Key × D)) (k : Key) (v : D) : List (Key × D) :=
  if (kvs.any fun kv => decide (kv.1 = k)) = true then kvs.map (fun kv => if kv.1 = k then (kv.1, v) else kv) else kvs ++ [(k, v)]
section
variable {K : PySem.W.Frag} {m : List Addr} {H : Hp}
theorem RepK.val (k : Key) : ∀ {x : List (Key × V)} {y : List (Key × D)}, RepK K m H x y → (valV x k = none ∧ valD y k = none) ∨ ∃ v d, valV x k = some v ∧ valD y k = some d ∧ Rep K m H v d
  | _, _, .nil => .inl ⟨rfl, rfl⟩
  | (k1, v) :: x, (k2, d) :: y, .cons q t => by
    obtain ⟨e1, q⟩ := q
    simp only at e1
    subst e1
    by_cases e : k1 = k
    · subst e
      exact .inr ⟨v, d, by simp [valV], by simp [valD], q⟩
    · rcases RepK.val k t with ⟨a, b⟩ | ⟨v, d, a, b, r⟩
      · exact .inl ⟨by simpa [valV, List.find?_cons, e] using a, by simpa [valD, List.find?_cons, e] using b⟩
      · exact .inr ⟨v, d, by simpa [valV, List.find?_cons, e] using a, by simpa [valD, List.find?_cons, e] using b, r⟩
theorem RepK.any (k : Key) : ∀ {x : List (Key × V)} {y : List (Key × D)}, RepK K m H x y → (x.any fun kv => decide (kv.1 = k)) = (y.any fun kv => decide (kv.1 = k))
  | _, _, .nil => rfl
  | (k1, v) :: x, (k2, d) :: y, .cons q t => by
    obtain ⟨e1, q⟩ := q
    simp only at e1
    subst e1
    simp only [List.any_cons, RepK.any k t]
theorem RepK.mapP (k : Key) {v : V} {d : D} (r : Rep K m H v d) : ∀ {x : List (Key × V)} {y : List (Key × D)}, RepK K m H x y → RepK K m H (x.map fun kv => if kv.1 = k then (kv.1, v) else kv) (y.map fun kv => if kv.1 = k then (kv.1, d) else kv)
  | _, _, .nil => .nil
  | (k1, v) :: x, (k2, d) :: y, .cons q t => by
    obtain ⟨e1, q⟩ := q
    simp only at e1
    subst e1
    refine .cons ?_ (RepK.mapP k r t)
    by_cases e : k1 = k
    · simp only [e, if_true]; exact ⟨trivial, r⟩
    · simp only [e, if_false]; exact ⟨trivial, q⟩
theorem RepK.app : ∀ {x x' : List (Key × V)} {y y' : List (Key × D)}, RepK K m H x y → RepK K m H x' y' → RepK K m H (x ++ x') (y ++ y')
  | _, _, _, _, .nil, s => s
  | _, _, _, _, .cons r t, s => .cons r (RepK.app t s)
theorem RepK.put (k : Key) {v : V} {d : D} (r : Rep K m H v d) {x : List (Key × V)} {y : List (Key × D)} (t : RepK K m H x y) : RepK K m H (putK x k v) (putKD y k d) := by
  unfold putK putKD
  rw [RepK.any k t]
  split
  · exact t.mapP k r
  · exact t.app (.cons ⟨rfl, r⟩ .nil)
theorem RepK.len {x : List (Key × V)} {y : List (Key × D)} (t : RepK K m H x y) : x.length = y.length := Paired.length t
end
/-- d[k] = v -/
def gDput (fo fi fv : FE) : FS := fun s h => (fv s h).st s fun v h1 => (fo s h1).st s fun d h2 => (fi s h2).st s fun y h3 => match d, keyD y with
  | .ref n, some k => (match h3[n]? with
    | some (.dk kvs) => if kvs.length < big then .nx s (h3.set n (.dk (putKD kvs k v))) else .bad
    | _ => .bad)
  | _, _ => .bad
theorem ss_dput {k : Nat} (hr : Room k X.A) (ho : SE X W o fo) (hi : SE X W i fi) (hv : SE X W e f) (hs : swapsWith e (some (.Subscript o i pos')) pos.line X.env = pure false := by rfl) : SS X W (.Assign [.Subscript o i pos'] e pos) (gDput fo fi f) := by
  have hu := hr.units
  refine PS.imp (ps_dput (by omega) ho hi hv hs) fun D σ H h => ?_
  obtain ⟨m, s, h, R0, rs, p⟩ := h
  refine ⟨m, s, h, R0, rs, PostE.mono (PostS.ofE rs p) ?_⟩
  rintro v H1 ⟨m1, dv, h1, g1, R1, rv, p1⟩
  refine ⟨m1, s, h1, R1, rs.grow g1, PostE.mono (PostS.ofE (rs.grow g1) p1) ?_⟩
  rintro x H2 ⟨m2, dx, h2, g2, R2, rx, p2⟩
  refine ⟨m2, s, h2, R2, (rs.grow g1).grow g2, PostE.mono (PostS.ofE ((rs.grow g1).grow g2) p2) ?_⟩
  rintro y H3 ⟨m3, dy, h3, g3, R3, ry, p3⟩
  split at p3
  · rename_i n k hk
    split at p3
    · rename_i kvs hn
      split at p3
      · rename_i hl
        obtain ⟨a, rfl, hm⟩ := (rx.grow g3).ref_inv
        have xo := R3.ob _ _ _ hm hn
        obtain ⟨kv, q1, q2⟩ := id xo
        have ek := keyD_rep ry hk
        subst ek
        refine ⟨a, _, rfl, DPut.k q1 (by rw [q2.len]; exact Nat.lt_of_lt_of_le hl (big_line (Nat.le_refl _))), ?_⟩
        have g4 : Grow m3 H3 m3 (upd H3 a (.dK (putK kv k v))) := Grow.set xo rfl
        exact p3 m3 _ σ g4 (R3.set hm hn rfl ⟨putK kv k v, upd_same, ((q2.grow g4).put k ((rv.grow (g2.trans g3)).grow g4))⟩) ((rs.grow (g1.trans (g2.trans g3))).grow g4)
      · exact False.elim p3
    · exact False.elim p3
  · exact False.elim p3
/-- d.get(k), d.get(k, x); d[k], k there -/
def dGet (d y z : D) (h : Hm) : RD := match d, keyD y with
  | .ref n, some k => (match h[n]? with
    | some (.dk kvs) => .ok ((valD kvs k).getD z) h
    | _ => .bad)
  | _, _ => .bad
def dHas (d y : D) (h : Hm) : Option (Option D) := match d, keyD y with
  | .ref n, some k => (match h[n]? with
    | some (.dk kvs) => some (valD kvs k)
    | _ => none)
  | _, _ => none
def isDk (d : D) (h : Hm) : Bool := match d with
  | .ref n => (match h[n]? with
    | some (.dk _) => true
    | _ => false)
  | _ => false
theorem isDk_ok {m : List Addr} {H : Hp} {h : Hm} {x : V} {d : D} (R0 : R X.K X.mg m H h) (rx : Rep X.K m H x d) (e : isDk d h = true) : ∃ a, x = .ref a ∧ IsD H a := by
  unfold isDk at e
  split at e
  · split at e
    · rename_i n _ kvs hn
      obtain ⟨a, rfl, hm⟩ := rx.ref_inv
      obtain ⟨kv, q1, q2⟩ := R0.ob _ _ _ hm hn
      exact ⟨a, rfl, .inl ⟨kv, .inl q1⟩⟩
    · cases e
  · cases e
theorem dHas_ok {m : List Addr} {H : Hp} {h : Hm} {x y : V} {d dy : D} {r : Option D} (R0 : R X.K X.mg m H h) (rx : Rep X.K m H x d) (ry : Rep X.K m H y dy) (e : dHas d dy h = some r) :
    ∃ a o, x = .ref a ∧ DGet H a y o ∧ ((o = none ∧ r = none) ∨ ∃ v z, o = some v ∧ r = some z ∧ Rep X.K m H v z) := by
  unfold dHas at e
  split at e
  · rename_i n k hk
    split at e
    · rename_i kvs hn
      cases e
      obtain ⟨a, rfl, hm⟩ := rx.ref_inv
      obtain ⟨kv, q1, q2⟩ := R0.ob _ _ _ hm hn
      have ek := keyD_rep ry hk
      subst ek
      rcases q2.val k with ⟨h1, h2⟩ | ⟨v, z, h1, h2, h3⟩
      · exact ⟨a, none, rfl, by rw [← h1]; exact DGet.k q1, .inl ⟨rfl, h2⟩⟩
      · exact ⟨a, some v, rfl, by rw [← h1]; exact DGet.k q1, .inr ⟨v, z, rfl, h2, h3⟩⟩
    · cases e
  · cases e
def eDget1 (fo fi : FE) : FE := fun s h => (fo s h).bind fun d h1 => if isDk d h1 = true then (fi s h1).bind fun y h2 => match dHas d y h2 with
  | some r => .ok (r.getD .non) h2
  | none => .bad
  else .bad
def eDget2 (fo fi fx : FE) : FE := fun s h => (fo s h).bind fun d h1 => if isDk d h1 = true then (fi s h1).bind fun y h2 => (fx s h2).bind fun z h3 => match dHas d y h3 with
  | some r => .ok (r.getD z) h3
  | none => .bad
  else .bad
def eDix (fo fi : FE) : FE := fun s h => (fo s h).bind fun d h1 => (fi s h1).bind fun y h2 => match dHas d y h2 with
  | some (some v) => .ok v h2
  | _ => .bad
theorem se_dget1 {k : Nat} (hr : Room k X.A) (ho : SE X W o fo) (he : SE X W e fi) (m : M1 X o "get" apos e cpos) : SE X W (.Call (.Attribute o "get" apos) [e] [] cpos) (eDget1 fo fi) := by
  have hu := hr.units
  refine PE.imp (pe_dget1 (by omega) ho he m) fun σ H Q h => ?_
  obtain ⟨m, s, h, R0, rs, p⟩ := h
  refine ⟨m, s, h, R0, rs, PostE.mono (PostE.bind p) ?_⟩
  rintro x H1 ⟨m1, dx, h1, g1, R1, rx, p1⟩
  split at p1
  · rename_i hd
    obtain ⟨a, rfl, hD⟩ := isDk_ok R1 rx hd
    refine ⟨a, rfl, hD, m1, s, h1, R1, rs.grow g1, PostE.mono (PostE.bind p1) ?_⟩
    rintro y H2 ⟨m2, dy, h2, g2, R2, ry, p2⟩
    split at p2
    · rename_i r hr
      obtain ⟨a', o, e, g, q⟩ := dHas_ok R2 (rx.grow g2) ry hr
      cases e
      refine ⟨o, g, ?_⟩
      rcases q with ⟨rfl, rfl⟩ | ⟨v, z, rfl, rfl, rv⟩
      · exact p2.val R2 .non
      · exact p2.val R2 rv
    · exact False.elim p2
  · exact False.elim p1
theorem se_dget2 {k : Nat} (hr : Room k X.A) (ho : SE X W o fo) (he : SE X W e fi) (hf : SE X W b fb) (m : M2 X o "get" apos e b cpos) : SE X W (.Call (.Attribute o "get" apos) [e, b] [] cpos) (eDget2 fo fi fb) := by
  have hu := hr.units
  refine PE.imp (pe_dget2 (by omega) ho he hf m) fun σ H Q h => ?_
  obtain ⟨m, s, h, R0, rs, p⟩ := h
  refine ⟨m, s, h, R0, rs, PostE.mono (PostE.bind p) ?_⟩
  rintro x H1 ⟨m1, dx, h1, g1, R1, rx, p1⟩
  split at p1
  · rename_i hd
    obtain ⟨a, rfl, hD⟩ := isDk_ok R1 rx hd
    refine ⟨a, rfl, hD, m1, s, h1, R1, rs.grow g1, PostE.mono (PostE.bind p1) ?_⟩
    rintro y H2 ⟨m2, dy, h2, g2, R2, ry, p2⟩
    refine ⟨m2, s, h2, R2, (rs.grow g1).grow g2, PostE.mono (PostE.bind p2) ?_⟩
    rintro z H3 ⟨m3, dz, h3, g3, R3, rz, p3⟩
    split at p3
    · rename_i r hr
      obtain ⟨a', o, e, g, q⟩ := dHas_ok R3 (rx.grow (g2.trans g3)) (ry.grow g3) hr
      cases e
      refine ⟨o, g, ?_⟩
      rcases q with ⟨rfl, rfl⟩ | ⟨v, z, rfl, rfl, rv⟩
      · exact p3.val R3 rz
      · exact p3.val R3 rv
    · exact False.elim p3
  · exact False.elim p1
theorem se_dix {k : Nat} (hr : Room k X.A) (ho : SE X W o fo) (hi : SE X W i fi) (hs : NoSl i) : SE X W (.Subscript o i pos) (eDix fo fi) := by
  have hu := hr.units
  refine PE.imp (pe_dget (by omega) ho hi hs) fun σ H Q h => ?_
  obtain ⟨m, s, h, R0, rs, p⟩ := h
  refine ⟨m, s, h, R0, rs, PostE.mono (PostE.bind p) ?_⟩
  rintro x H1 ⟨m1, dx, h1, g1, R1, rx, p1⟩
  refine ⟨m1, s, h1, R1, rs.grow g1, PostE.mono (PostE.bind p1) ?_⟩
  rintro y H2 ⟨m2, dy, h2, g2, R2, ry, p2⟩
  split at p2
  · rename_i r hr
    obtain ⟨a', o, e, g, q⟩ := dHas_ok R2 (rx.grow g2) ry hr
    cases e
    rcases q with ⟨rfl, h0⟩ | ⟨v, z, rfl, h0, rv⟩
    · cases h0
    · cases h0
      exact ⟨a', v, rfl, g, p2.val R2 rv⟩
  · exact False.elim p2
end
end Sh

set_option Elab.async false
set_option linter.all false
set_option maxRecDepth 100000
set_option maxHeartbeats 4000000
namespace Sh
open PySem L2 PyProof.Rows L2.DX
open PySem.W (EachIs AllAlike Sortable dataLe)
/-! ### sorted(d.items()) -/
section
variable {X : Cx}
def rItemsK : V → List V → Hp → VK → Prop := fun x xs H Q => ∃ (a : Addr) (kvs : List (Key × V)), x = .ref a ∧ xs = [] ∧ H a = some (.dK kvs) ∧ ∀ p, H p = none → Q (.ref p) (upd H p (itemsO p a))
theorem mt_itemsK : MtR X "dict.items" rItemsK := by
  intro pins s σ H x xs v us Q I rx rxs h
  obtain ⟨a, kvs, rfl, rfl, ha, q⟩ := h
  cases rx
  cases rxs
  obtain ⟨z, hd, xs', rel, o, es, ep, ho, hx, hdat, _⟩ := dk_rd I.hok (.inl ha)
  refine DT.callItems (es := es) (ep := ep) hd ⟨o, ho, hx, hdat⟩ ?_
  have hf : H s.heap.objs.size = none := I.hok.fresh (Nat.le_refl _)
  exact ⟨.ref s.heap.objs.size, upd H s.heap.objs.size (itemsO s.heap.objs.size a), I.laid (t' := s.toks) (fun b u e => Heap.get?_push_of_some _ e) (Nat.le_refl _) (itemsO_ok (Heap.get?_push_size _ rfl)), rfl, q _ hf⟩
/-- things already laid are tracked -/
theorem takeF {pins : List (Addr × Obj)} {σ : L2.St} {H0 : Hp} {s : Shared} {h' : Heap} {tk : Nat} {P : Addr → HO → Prop} (I0 : Inv X pins σ H0 s) : ∀ (L : List Addr) (H1 : Hp), Inv X pins σ H1 { s with heap := h', toks := tk } → L.Nodup →
    (∀ a ∈ L, s.heap.objs.size ≤ a ∧ H1 a = none ∧ ∃ u, P a u ∧ ∀ H2, ObjOk X.prog X.w H2 h' a u) →
    ∃ H2, Inv X pins σ H2 { s with heap := h', toks := tk } ∧ (∀ b o, H1 b = some o → H2 b = some o) ∧ ∀ a ∈ L, ∃ u, P a u ∧ H2 a = some u
  | [], H1, I1, _, _ => ⟨H1, I1, fun _ _ e => e, fun _ h => nomatch h⟩
  | a :: L, H1, I1, hn, h => by
    obtain ⟨hb, hnone, u, hP, ok⟩ := h a (List.mem_cons_self ..)
    have I2 : Inv X pins σ (upd H1 a u) { s with heap := h', toks := tk } := I1.take (h' := h') (t' := tk) (fun b ob _ e => e) (I0.fpOk hb hnone) (ok _)
    rw [List.nodup_cons] at hn
    obtain ⟨H2, I3, g, q⟩ := takeF I0 L (upd H1 a u) I2 hn.2 fun c hc => by
      obtain ⟨c1, c2, c3⟩ := h c (List.mem_cons_of_mem _ hc)
      exact ⟨c1, by rw [upd_ne (fun z => hn.1 (by rw [← z]; exact hc))]; exact c2, c3⟩
    refine ⟨H2, I3, fun b o e => g b o (by rw [upd_ne (ne_of_none e hnone)]; exact e), fun c hc => ?_⟩
    rcases List.mem_cons.mp hc with rfl | hc
    · exact ⟨u, hP, g _ _ upd_same⟩
    · exact q c hc
def kP : Key → PyData
  | .inl i => .int i
  | .inr x => .str x
theorem pairs_at {prog : Program} {w : World} : ∀ {es : List DictEntry} {kvs : List (Key × Value)} {j : Nat} {e : DictEntry}, Pairs (mixKind prog w) es kvs → es[j]? = some e → ∃ p : Key × Value, kvs[j]? = some p ∧ keyIs p.1 e.key = true ∧ e.val = p.2
  | _, _, j, e, .nil, h => by simp at h
  | _, _, 0, e, .cons (kv := kv) h1 h2 _, h => by
    simp only [List.getElem?_cons_zero] at h
    cases h
    exact ⟨kv, rfl, h1, h2⟩
  | _, _, j + 1, e, .cons _ _ t, h => by
    simp only [List.getElem?_cons_succ] at h ⊢
    exact pairs_at t h
theorem pairs_len {prog : Program} {w : World} {es : List DictEntry} {kvs : List (Key × Value)} (h : Pairs (mixKind prog w) es kvs) : es.length = kvs.length := Pairs.length h
theorem key_reads {h : Heap} {k : Key} {v : Value} (e : keyIs k v = true) : Reads h v (kP k) [] := by
  rcases keyIs_shape e with ⟨i, t, rfl, rfl⟩ | ⟨x, t, rfl, rfl⟩
  · exact .int i t
  · exact .str x t
theorem key_rel {k : Key} {v : Value} (e : keyIs k v = true) : RelV (kV k) v := by
  rcases keyIs_shape e with ⟨i, t, rfl, rfl⟩ | ⟨x, t, rfl, rfl⟩
  · exact ⟨t, rfl⟩
  · exact ⟨t, rfl⟩
theorem each_of {α β : Type} {R : α → β → Prop} : ∀ {as : List α} {bs : List β}, as.length = bs.length → (∀ (j : Nat) a b, as[j]? = some a → bs[j]? = some b → R a b) → EachIs R as bs
  | [], [], _, _ => .nil
  | [], _ :: _, h, _ => by simp at h
  | _ :: _, [], h, _ => by simp at h
  | a :: as, b :: bs, h, k => .cons (k 0 a b rfl rfl) (each_of (by simpa using h) fun j x y h1 h2 => k (j + 1) x y (by simpa using h1) (by simpa using h2))
theorem each_mem' {α β : Type} {R : α → β → Prop} : ∀ {as : List α} {bs : List β}, EachIs R as bs → ∀ a ∈ as, ∃ b ∈ bs, R a b
  | _, _, .nil, a, h => nomatch h
  | _, _, .cons r t, a, h => by
    rcases List.mem_cons.mp h with rfl | h
    · exact ⟨_, List.mem_cons_self .., r⟩
    · obtain ⟨b, hb, q⟩ := each_mem' t a h
      exact ⟨b, List.mem_cons_of_mem _ hb, q⟩
abbrev KVP := (Key × V) × PyData
def rSortIK (K : PySem.W.Frag) : List V → Hp → VK → Prop := fun vs H Q => ∃ (p a : Addr) (bs : List KVP), vs = [.ref p] ∧ H p = some (itemsO p a) ∧ H a = some (.dK (bs.map (·.1))) ∧ bs.length ≤ big ∧
  (∀ b ∈ bs, ∃ d, Dp K H b.1.2 d ∧ b.2 = .tuple [kP b.1.1, d] ∧ b.2.depth ≤ 50) ∧ AllAlike (bs.map (·.2)) ∧
  ∀ (H' : Hp) (l : Addr) (qs : List Addr), (∀ b o, H b = some o → H' b = some o) → H l = none → H' l = some (.lst (qs.map V.ref)) →
    EachIs (fun q b => ∃ o, H' q = some (.frz o (.tup [kV b.1.1, b.1.2])) ∧ o.dict = none) qs (bs.mergeSort (dataLe false (·.2))) → Q (.ref l) H'
theorem reads_in {h : Heap} {v : Value} {d : PyData} {as : List Addr} {l : Addr} (r : Reads h v d as) (hl : h.objs.size ≤ l) : l ∉ as := fun z => by
  obtain ⟨o, ho⟩ := PyProof.On.reads_mem_get r l z
  exact absurd (Heap.lt_size ho) (Nat.not_lt.mpr hl)
theorem cr_sortIK (hc : X.calm = true) (hu : X.A.units + 64 < cLine) : CallR X (.builtin "sorted") (rSortIK X.K) := by
  intro pins s σ H xs us Q I r h
  obtain ⟨p, a, bs, rfl, hp, ha, h64, hbs, hal, q⟩ := h
  obtain rfl := Vals.ref1 r
  have view : s.heap.IsItemsView p a := (show ObjOk X.prog X.w H s.heap p (itemsO p a) from I.hok p _ hp).1
  obtain ⟨z, hd, xs', rel, o, es, ep, ho, hx, hdat, hkeys, hpairs, hnd⟩ := dk_rd I.hok (.inl ha)
  have l1 : bs.length = xs'.length := by have := Paired.length rel; simpa using this
  have l2 : es.size = xs'.length := by have := pairs_len hpairs; simpa using this
  have hh : X.A.handled = none := I.ok.hd hc
  refine DT.sortedI (es := es) (ep := ep) hh view ⟨o, ho, hx, hdat⟩ (by rw [l2, ← l1]; exact big_line h64) fun h' tk as hk hlt hl hG => ?_
  have las : as.length = bs.length := by omega
  have nd : as.Nodup := List.Pairwise.imp (fun h => Nat.ne_of_lt h) hG.rise
  -- the pairs that were made
  have pr : ∀ (j : Nat) (t : Addr), as[j]? = some t → ∃ (b : KVP) (kv vv : Value), bs[j]? = some b ∧ keyIs b.1.1 kv = true ∧ RelV b.1.2 vv ∧ h'.get? t = some { cls := .type "tuple", data := .seq #[kv, vv] } := by
    intro j t hj
    obtain ⟨en, he, hg⟩ := hG.pairs j t hj
    obtain ⟨pq, hpq, hkey, hval⟩ := pairs_at hpairs (j := j) (e := en) (by simpa using he)
    obtain ⟨kv, h0, h1, h2⟩ := pget rel hpq
    rw [List.getElem?_map] at h0
    obtain ⟨b, hb, rfl⟩ := Option.map_eq_some_iff.mp h0
    exact ⟨b, en.key, en.val, hb, by rw [h1]; exact hkey, by rw [hval]; exact h2, hg⟩
  have hob : (h'.push { cls := .type "list", data := .seq (as.map Value.ref).toArray }).get? h'.objs.size = some (seqObj "list" (as.map Value.ref).toArray 0) := Heap.get?_push_size _ rfl
  have kb : ∀ b o, s.heap.get? b = some o → (h'.push { cls := .type "list", data := .seq (as.map Value.ref).toArray }).get? b = some o := fun b o e => Heap.get?_push_of_some _ (hk b o e)
  have ne0 : ∀ b o, h'.get? b = some o → b ≠ h'.objs.size := fun b o e => Nat.ne_of_lt (Heap.lt_size e)
  generalize hh2 : h'.push { cls := .type "list", data := .seq (as.map Value.ref).toArray } = h2 at hob kb ⊢
  have ka : ∀ b o, h'.get? b = some o → h2.get? b = some o := fun b o e => by rw [← hh2]; exact Heap.get?_push_of_some _ e
  refine PySem.W.list_sort_data (s := { s with heap := h2, toks := tk }) (A := X.A.in1) (enc := fun b : KVP => b.2) (bs := bs) (R := fun v b => ∃ (j : Nat) (t : Addr), v = .ref t ∧ as[j]? = some t ∧ bs[j]? = some b)
    hob (each_of (by rw [List.length_map]; exact las) fun j v b h1 h2 => ?_) (each_of (by rw [List.length_map]; exact las) fun j v b h1 h2' => ?_) hal (.inl fun d hd => ?_) (big_line h64) (fun b hb => ?_) fun out hol hout => ?_
  · rw [List.getElem?_map] at h1
    obtain ⟨t, ht, rfl⟩ := Option.map_eq_some_iff.mp h1
    exact ⟨j, t, rfl, ht, h2⟩
  · rw [List.getElem?_map] at h1
    obtain ⟨t, ht, rfl⟩ := Option.map_eq_some_iff.mp h1
    obtain ⟨b', kv, vv, hb', hkey, hval, hg⟩ := pr j t ht
    obtain rfl : b' = b := Option.some.inj (hb'.symm.trans h2')
    obtain ⟨d, hd, e2, e4⟩ := hbs b' (List.mem_of_getElem? hb')
    obtain ⟨ws, hr⟩ := Dp.reads I d b'.1.2 vv hd hval
    have hr2 : Reads h2 vv d ws := Reads.keeps kb hr
    refine ⟨[] ++ (ws ++ []), ?_, ?_⟩
    · show Reads h2 (.ref t) b'.2 _
      rw [e2]
      exact Reads.tuple (ka _ _ hg) rfl rfl (.cons (key_reads hkey) (.cons hr2 .nil))
    · have := reads_in (l := h'.objs.size) hr (Nat.le_of_lt hlt)
      simpa using this
  · obtain ⟨b, hb, rfl⟩ := List.mem_map.mp hd
    obtain ⟨d, _, e2, _⟩ := hbs b hb
    exact ⟨_, _, e2⟩
  · obtain ⟨d, _, e2, e4⟩ := hbs b hb
    have hu2 : X.A.in1.units = X.A.units + 1 := rfl
    rw [hu2]
    show X.A.units + 1 + 1 + b.2.depth < cLine
    omega
  · show EP X pins σ Q (.ref h'.objs.size) { s with heap := sortedHeap h2 h'.objs.size (as.map Value.ref) out.toArray, toks := tk }
    have hln : out.length = bs.length := hol
    have oref : ∃ qs : List Addr, out = qs.map Value.ref ∧ (∀ t ∈ qs, t ∈ as) ∧ EachIs (fun t b => ∃ j : Nat, as[j]? = some t ∧ bs[j]? = some b) qs (bs.mergeSort (dataLe false fun b : KVP => b.2)) := by
      generalize bs.mergeSort (dataLe false fun b : KVP => b.2) = B at hout
      clear hol hln q
      induction hout with
      | nil => exact ⟨[], rfl, (fun _ z => nomatch z), .nil⟩
      | cons h1 t1 ih =>
        obtain ⟨j, t, rfl, h2, h3⟩ := h1
        obtain ⟨qs, rfl, h4, h5⟩ := ih
        refine ⟨t :: qs, rfl, fun x hx => ?_, .cons ⟨j, h2, h3⟩ h5⟩
        rcases List.mem_cons.mp hx with rfl | hx
        · exact List.mem_of_getElem? h2
        · exact h4 x hx
    obtain ⟨qs, rfl, hqs, hE⟩ := oref
    have kF : ∀ b o, b ≠ h'.objs.size → h2.get? b = some o → (sortedHeap h2 h'.objs.size (as.map Value.ref) (qs.map Value.ref).toArray).get? b = some o := fun b o hb e => (PyProof.Rows.sortedHeap_old hb (Heap.lt_size e)).trans e
    have kS : ∀ b o, s.heap.get? b = some o → (sortedHeap h2 h'.objs.size (as.map Value.ref) (qs.map Value.ref).toArray).get? b = some o := fun b o e => kF b o (ne0 _ _ (hk b o e)) (kb b o e)
    obtain ⟨eF, heF⟩ := PyProof.Rows.sortedHeap_at (vs := as.map Value.ref) (out := (qs.map Value.ref).toArray) hob
    have I1 : Inv X pins σ H { s with heap := sortedHeap h2 h'.objs.size (as.map Value.ref) (qs.map Value.ref).toArray, toks := tk } := I.kept (t' := tk) kS
    have hn0 : H h'.objs.size = none := I.hok.fresh (Nat.le_of_lt hlt)
    have hlen : (qs.map V.ref).length ≤ sizeLine := by
      rw [List.length_map] at hln ⊢
      rw [hln]
      exact big_line h64
    have rv : Vals (qs.map V.ref) (qs.map Value.ref) := vals_maps V.ref Value.ref qs fun _ _ => rfl
    have I2 : Inv X pins σ (upd H h'.objs.size (.lst (qs.map V.ref))) { s with heap := sortedHeap h2 h'.objs.size (as.map Value.ref) (qs.map Value.ref).toArray, toks := tk } :=
      I1.take (h' := sortedHeap h2 h'.objs.size (as.map Value.ref) (qs.map Value.ref).toArray) (t' := tk) (fun b ob _ e => e) (I.fpOk (Nat.le_of_lt hlt) hn0) ⟨hlen, _, eF, rv, heF⟩
    obtain ⟨H2, I3, g, qt⟩ := takeF (P := fun t u => ∃ (j : Nat) (b : KVP) (o : Obj), as[j]? = some t ∧ bs[j]? = some b ∧ u = .frz o (.tup [kV b.1.1, b.1.2]) ∧ o.dict = none) I as _ I2 nd fun t ht => by
      obtain ⟨j, hj⟩ := List.mem_iff_getElem?.mp ht
      obtain ⟨b, kv, vv, hb, hkey, hval, hg⟩ := pr j t hj
      have hbl : s.heap.objs.size ≤ t := Nat.le_of_lt (hG.above t ht)
      refine ⟨hbl, ?_, _, ⟨j, b, _, hj, hb, rfl, rfl⟩, fun H3 => ⟨kF _ _ (ne0 _ _ hg) (ka _ _ hg), (by rw [sizeLine_eq]; show 2 ≤ 16777216; omega), [kv, vv], .cons (key_rel hkey) (.cons hval .nil), ⟨_, kF _ _ (ne0 _ _ hg) (ka _ _ hg), rfl, 0, rfl⟩⟩⟩
      rw [upd_ne (ne0 _ _ hg)]
      exact I.hok.fresh hbl
    refine ⟨.ref h'.objs.size, H2, I3, rfl, q H2 h'.objs.size qs (fun b o e => g b o (by rw [upd_ne (ne_of_none e hn0)]; exact e)) hn0 (g _ _ upd_same) ?_⟩
    have hq := fun t ht => qt t (hqs t ht)
    clear q rv hlen I1 I2 kF kS eF heF hqs hn0
    generalize bs.mergeSort (dataLe false fun b : KVP => b.2) = B at hE
    refine hE.mono fun t b hb => ?_
    obtain ⟨j, j1, j2⟩ := hb
    obtain ⟨u, ⟨i, b', o, i1, i2, eu, eo⟩, hH⟩ := qt t (List.mem_of_getElem? j1)
    have eij : i = j := (List.getElem?_inj (List.getElem?_eq_some_iff.mp i1).1 nd).mp (i1.trans j1.symm)
    subst eij
    obtain rfl : b' = b := Option.some.inj (i2.symm.trans j2)
    exact ⟨o, by rw [hH, eu], eo⟩
theorem Grow.pts {m : List Addr} {H H' : Hp} (g : ∀ b o, H b = some o → H' b = some o) : Grow m H m H' := ⟨fun _ _ h => h, fun a o u h => g a _ h⟩
/-- a new thing, and more that is not among the named ones -/
theorem R.new2 {K : PySem.W.Frag} {mg : Str → Option Value} {m : List Addr} {H H' : Hp} {h : Hm} {p : Addr} {o : O} (r : R K mg m H h) (g : ∀ b o, H b = some o → H' b = some o) (hp : H p = none) (x : ObjR K mg (m ++ [p]) H' p o) : R K mg (m ++ [p]) H' (h ++ [o]) := by
  have np : p ∉ m := fun z => by
    obtain ⟨n, hn, e⟩ := List.mem_iff_getElem.mp z
    exact r.there (n := n) (a := p) (by rw [List.getElem?_eq_getElem hn, e]) hp
  have gg : Grow m H (m ++ [p]) H' := (Grow.pts g).trans (Grow.more _)
  refine ⟨by simp [r.len], ?_, fun n a o' e1 e2 => ?_⟩
  · rw [List.nodup_append]
    refine ⟨r.nd, by simp, fun a ha b hb => ?_⟩
    have : b = p := by simpa using hb
    subst this
    rintro rfl
    exact np ha
  · by_cases hn : n < m.length
    · rw [List.getElem?_append_left hn] at e1
      rw [List.getElem?_append_left (by rw [← r.len]; exact hn)] at e2
      have th := r.there e1
      have eq : H' a = H a := by
        cases q : H a with
        | none => exact absurd q th
        | some u => exact g _ _ q
      exact (r.ob n a o' e1 e2).grow gg eq
    · have hn' : ¬ n < h.length := by rw [← r.len]; exact hn
      rw [List.getElem?_append_right (by omega)] at e1 e2
      have e : n - m.length = 0 := by
        have := (List.getElem?_eq_some_iff.mp e1).1
        simp at this
        omega
      rw [e] at e1
      rw [← r.len, e] at e2
      simp at e1 e2
      subst e1 e2
      exact x
def kD : Key → D
  | .inl i => .int i
  | .inr x => .str x
theorem kD_rep {K : PySem.W.Frag} {m : List Addr} {H : Hp} (k : Key) : Rep K m H (kV k) (kD k) := by
  cases k with
  | inl i => exact .int i
  | inr x => exact .str x
abbrev KDP := (Key × D) × PyData
def prepK (h : Hm) : List (Key × D) → Option (List KDP)
  | [] => some []
  | kv :: r => match toPy 20 h kv.2, prepK h r with
    | some d, some l => some ((kv, .tuple [kP kv.1, d]) :: l)
    | _, _ => none
def sortOk (l : List KDP) : Bool := decide (l.length ≤ big) && l.all (fun x => decide (x.2.depth ≤ 50)) && l.all fun x => l.all fun y => PySem.W.alike x.2 y.2
def dSortIt (d : D) (h : Hm) : RD := match d with
  | .ref n => match h[n]? with
    | some (.dk kvs) => match prepK h kvs with
      | some l => if sortOk l = true then .ok (.ref h.length) (h ++ [.lst ((l.mergeSort (dataLe false (·.2))).map fun x => .tup [kD x.1.1, x.1.2])]) else .bad
      | none => .bad
    | _ => .bad
  | _ => .bad
def eSortIt (f : FE) : FE := fun s h => (f s h).bind dSortIt
theorem prepK_ok {m : List Addr} {H : Hp} {h : Hm} (R0 : R X.K X.mg m H h) : ∀ {kv : List (Key × V)} {kvs : List (Key × D)} {l : List KDP}, RepK X.K m H kv kvs → prepK h kvs = some l →
    ∃ zs : List ((Key × V) × KDP), zs.map (·.1) = kv ∧ zs.map (·.2) = l ∧ ∀ z ∈ zs, z.1.1 = z.2.1.1 ∧ Rep X.K m H z.1.2 z.2.1.2 ∧ ∃ d, Dp X.K H z.1.2 d ∧ z.2.2 = .tuple [kP z.1.1, d]
  | _, _, l, .nil, e => by
    simp only [prepK] at e
    cases e
    exact ⟨[], rfl, rfl, fun _ z => nomatch z⟩
  | a :: kv, b :: kvs, l, .cons q t, e => by
    unfold prepK at e
    split at e
    · rename_i d l' h1 h2
      cases e
      obtain ⟨zs, e1, e2, e3⟩ := prepK_ok R0 t h2
      refine ⟨(a, (b, .tuple [kP b.1, d])) :: zs, by simp [e1], by simp [e2], fun z hz => ?_⟩
      rcases List.mem_cons.mp hz with rfl | hz
      · exact ⟨q.1, q.2, d, toPy_dp R0 _ _ _ _ q.2 h1, by rw [q.1]⟩
      · exact e3 z hz
    · cases e
theorem each_map' {α β γ : Type} {R : α → γ → Prop} (f : β → γ) : ∀ {as : List α} {bs : List β}, EachIs R as (bs.map f) → EachIs (fun a b => R a (f b)) as bs
  | [], [], _ => .nil
  | [], _ :: _, h => by cases h
  | _ :: _, [], h => by cases h
  | _ :: _, _ :: _, .cons h t => .cons h (each_map' f t)
theorem se_sortIt {W : WX} {e : Expr} {f : FE} {p apos cpos pos : Pos} {k : Nat} (hc : X.calm = true) (hr : Room k X.A) (hg : Gl X "sorted") (hm : X.mg "sorted" = none) (he : SE X W e f)
    (hbase : attributeBase e "items" X.env (eval e X.env) = eval e X.env := by rfl) (hline : (apos.endLine == cpos.line) = true := by rfl)
    (hst : starEach [.Call (.Attribute e "items" apos) [] [] cpos] X.env = (false, eval (.Call (.Attribute e "items" apos) [] [] cpos) X.env) :: starEach [] X.env := by rfl)
    (hpl : (backTo pos (starEach [.Call (.Attribute e "items" apos) [] [] cpos] X.env)).any (·.1) = false := by rfl) :
    SE X W (.Call (.Name "sorted" p) [.Call (.Attribute e "items" apos) [] [] cpos] [] pos) (eSortIt f) := by
  refine PE.imp (pe_callB (cr_sortIK hc hr.units) hg hm rfl (pa_cons (pe_bm0 PySem.F.plainAttrs_dict PySem.F.slot_dict_items PySem.F.type_dict_items mt_itemsK he hbase hline) pa_nil hst) (by decide) (by decide) hst hpl) fun σ H Q h => ?_
  obtain ⟨m, s, h, R0, rs, p⟩ := h
  refine ⟨m, s, h, R0, rs, PostE.mono (PostE.bind p) ?_⟩
  rintro x H1 ⟨m1, dx, h1, g1, R1, rx, p1⟩
  unfold dSortIt at p1
  split at p1
  · rename_i n
    split at p1
    · rename_i kvs hn
      split at p1
      · rename_i l hl
        split at p1
        · rename_i hok
          obtain ⟨a, rfl, hma⟩ := rx.ref_inv
          have xo := R1.ob _ _ _ hma hn
          obtain ⟨kv, q1, q2⟩ := id xo
          unfold sortOk at hok
          simp only [Bool.and_eq_true, decide_eq_true_eq, List.all_eq_true] at hok
          obtain ⟨⟨o1, o2⟩, o3⟩ := hok
          refine ⟨.inr (.inr (.inl ⟨rfl, .inl ⟨kv, q1⟩⟩)), a, kv, rfl, rfl, q1, fun q hq => ?_⟩
          have gq : ∀ b o, H1 b = some o → upd H1 q (itemsO q a) b = some o := fun b o e => by rw [upd_ne (ne_of_none e hq)]; exact e
          have g2 : Grow m1 H1 m1 (upd H1 q (itemsO q a)) := Grow.pts gq
          have R2 : R X.K X.mg m1 (upd H1 q (itemsO q a)) h1 := R1.tup hq
          obtain ⟨zs, e1, e2, e3⟩ := prepK_ok R2 (q2.grow g2) hl
          subst e2
          refine ⟨q, a, zs.map fun z => (z.1, z.2.2), rfl, upd_same, ?_, by simpa using o1, fun b hb => ?_, ?_, fun H3 l qs g3 hl3 hH3 hE => ?_⟩
          · rw [List.map_map]
            show upd H1 q (itemsO q a) a = some (.dK (zs.map fun z => z.1))
            rw [gq _ _ q1, e1]
          · obtain ⟨z, hz, rfl⟩ := List.mem_map.mp hb
            obtain ⟨_, _, d, k1, k2⟩ := e3 z hz
            exact ⟨d, k1, k2, o2 _ (List.mem_map.mpr ⟨z, hz, rfl⟩)⟩
          · intro d hd d' hd'
            rw [List.map_map] at hd hd'
            obtain ⟨z, hz, rfl⟩ := List.mem_map.mp hd
            obtain ⟨z', hz', rfl⟩ := List.mem_map.mp hd'
            exact o3 _ (List.mem_map.mpr ⟨z, hz, rfl⟩) _ (List.mem_map.mpr ⟨z', hz', rfl⟩)
          · have hs1 : (zs.map fun z => (z.1, z.2.2)).mergeSort (dataLe false fun b : KVP => b.2) = (zs.mergeSort (dataLe false fun z => z.2.2)).map fun z => (z.1, z.2.2) :=
              (List.map_mergeSort (f := fun z : (Key × V) × KDP => (z.1, z.2.2)) (r := dataLe false fun z => z.2.2) (fun _ _ _ _ => rfl)).symm
            have hs2 : (zs.map (·.2)).mergeSort (dataLe false fun b : KDP => b.2) = (zs.mergeSort (dataLe false fun z => z.2.2)).map (·.2) :=
              (List.map_mergeSort (f := fun z : (Key × V) × KDP => z.2) (r := dataLe false fun z => z.2.2) (fun _ _ _ _ => rfl)).symm
            rw [hs1] at hE
            rw [hs2] at p1
            have hmem : ∀ z ∈ zs.mergeSort (dataLe false fun z => z.2.2), z ∈ zs := fun z hz => (List.mergeSort_perm zs _).mem_iff.mp hz
            generalize zs.mergeSort (dataLe false fun z => z.2.2) = B at hE p1 hmem
            have hE' := each_map' _ hE
            have gg : ∀ b o, H1 b = some o → H3 b = some o := fun b o e => g3 b o (gq b o e)
            have g4 : Grow m1 H1 (m1 ++ [l]) H3 := (Grow.pts gg).trans (Grow.more _)
            have hlH1 : H1 l = none := by
              cases q : H1 l with
              | none => rfl
              | some u => rw [gq _ _ q] at hl3; cases hl3
            have rl : RepL X.K (m1 ++ [l]) H3 (qs.map V.ref) ((B.map (·.2)).map fun x => .tup [kD x.1.1, x.1.2]) := by
              clear hE hH3 p1
              induction hE' with
              | nil => exact .nil
              | @cons t b ts bs h1 t1 ih =>
                obtain ⟨o, h2, h3⟩ := h1
                obtain ⟨k1, k2, _⟩ := e3 b (hmem b (List.mem_cons_self ..))
                refine .cons (.tup (.inl ⟨o, h2, h3⟩) (.cons ?_ (.cons ?_ .nil))) (ih fun z hz => hmem z (List.mem_cons_of_mem _ hz))
                · show Rep _ _ _ (kV b.1.1) (kD b.2.1.1)
                  rw [k1]
                  exact kD_rep _
                · exact (k2.grow (Grow.pts g3)).grow (Grow.more _)
            have R4 : R X.K X.mg (m1 ++ [l]) H3 (h1 ++ [.lst ((B.map (·.2)).map fun x => .tup [kD x.1.1, x.1.2])]) := R1.new2 gg hlH1 ⟨_, hH3, rl⟩
            exact p1 _ H3 _ g4 R4 (.ref R1.newAt)
        · exact False.elim p1
      · exact False.elim p1
    · exact False.elim p1
  · exact False.elim p1
end
end Sh

set_option Elab.async false
set_option linter.all false
set_option maxRecDepth 100000
set_option maxHeartbeats 4000000
namespace Sh
open PySem L2 PyProof.Rows
/-! ### len(set(a list of ints)), unary minus -/
def intsD : List D → Option (List Int)
  | [] => some []
  | .int i :: ds => (intsD ds).map (i :: ·)
  | _ => none
theorem intsD_rep {K : PySem.W.Frag} {m : List Addr} {H : Hp} : ∀ {ds : List D} {ns : List Int} {vs : List V}, RepL K m H vs ds → intsD ds = some ns → vs = ns.map V.int
  | [], ns, vs, r, e => by
    cases r
    simp only [intsD] at e
    cases e
    rfl
  | d :: ds, ns, vs, r, e => by
    cases d with
    | int i =>
      simp only [intsD] at e
      obtain ⟨ms, h1, rfl⟩ := Option.map_eq_some_iff.mp e
      cases r with
      | cons r1 r2 =>
        cases r1
        rw [intsD_rep r2 h1]
        rfl
    | _ => simp [intsD] at e
def metI (ns : List Int) : List Int := PyProof.Rows.firstMet (fun i => ns.getD i 0) ns.length
section
variable {X : Cx} {W : WX} {e a : Expr} {f : FE} {pos p p2 q : Pos}
theorem pe_lenSet {ta : TE} (hg : Gl X "len") (hm : X.mg "len" = none) (hg2 : Gl X "set") (hm2 : X.mg "set" = none) (hc : X.calm = true) (ha : PE X a ta)
    (na : starEach [a] X.env = (false, eval a X.env) :: starEach [] X.env := by rfl) : PE X (.Call (.Name "len" p) [.Call (.Name "set" p2) [a] [] q] [] pos) (fun σ H Q => ta σ H fun x H1 => ∃ (l : Addr) (ns : List Int), x = .ref l ∧ SqL X.K H1 l (ns.map V.int) ∧ ns.length ≤ 4000 ∧ Q (.int ((metI ns).length : Nat)) H1) := by
  refine ⟨fun pins s σ H Q I h => ?_⟩
  refine Call_ (ld_blt I hg hm boot_len ?_)
  refine PyProof.Rows.callWith_builtin1 (PyProof.Rows.args_cons ?_ rfl) rfl rfl
  refine Call_ (ld_blt I hg2 hm2 boot_set ?_)
  refine PyProof.Rows.callWith_type1 (PyProof.Rows.args_cons (thn (ha.run pins s σ H _ I h) fun v s1 ⟨x, H1, I1, r1, q1⟩ => PyProof.Rows.args_nil ?_) na) na rfl
  obtain ⟨l, ns, rfl, hq, hl, q1⟩ := q1
  cases r1
  obtain ⟨its, r, pl, hz⟩ := I1.list hq
  have hlen : its.toArray.size = ns.length := by rw [List.size_toArray, ← r.length, List.length_map]
  refine call_set_list (I1.ok.hd hc) pl.isList (by simpa using RZ.intsAre_vals r) (by rw [hlen]; unfold scanBound; omega) fun h' tk hS hk => ?_
  refine PyProof.Rows.args_nil ?_
  rw [hlen] at hS
  obtain ⟨o, es, ep, t, ho, hex, hd, _, _, _, hf, hn⟩ := hS
  have I2 : Inv X pins σ H1 { s1 with heap := h', toks := tk } := I1.kept fun b o e => hk b o (Heap.lt_size e) e
  have hle : (metI ns).length ≤ ns.length := by
    exact PyProof.Rows.firstMet_length_le _ _
  exact call_len_set ho hex hd hf (by rw [hn]; unfold metI at hle; omega) ⟨.int (metI ns).length, H1, I2.tok _, ⟨_, by rw [hn]; rfl⟩, q1⟩
def eLenSet (f : FE) : FE := fun s h => (f s h).bind fun d h1 => match d with
  | .ref n => match items h1 (.ref n) with
    | some ds => match intsD ds with
      | some ns => if ns.length ≤ 4000 then .ok (.int ((metI ns).length : Nat)) h1 else .bad
      | none => .bad
    | none => .bad
  | _ => .bad
theorem se_lenSet (hg : Gl X "len") (hm : X.mg "len" = none) (hg2 : Gl X "set") (hm2 : X.mg "set" = none) (hc : X.calm = true) (ha : SE X W a f)
    (na : starEach [a] X.env = (false, eval a X.env) :: starEach [] X.env := by rfl) : SE X W (.Call (.Name "len" p) [.Call (.Name "set" p2) [a] [] q] [] pos) (eLenSet f) := by
  refine PE.imp (pe_lenSet hg hm hg2 hm2 hc ha na) fun σ H Q h => ?_
  obtain ⟨m, s, h, R0, rs, p⟩ := h
  refine ⟨m, s, h, R0, rs, PostE.mono (PostE.bind p) ?_⟩
  rintro x H1 ⟨m1, dx, h1, g1, R1, rx, p1⟩
  split at p1
  · split at p1
    · rename_i ds hi
      split at p1
      · rename_i ns hn
        split at p1
        · rename_i hl
          obtain ⟨a, rfl, hm⟩ := rx.ref_inv
          obtain ⟨vs, hq, l⟩ := items_ref R1 hm hi
          have e := intsD_rep l hn
          subst e
          exact ⟨a, ns, rfl, hq, hl, p1.val R1 (.int _)⟩
        · exact False.elim p1
      · exact False.elim p1
    · exact False.elim p1
  · exact False.elim p1
def eNeg (f : FE) : FE := fun s h => (f s h).bind fun d h1 => match d with
  | .int i => .ok (.int (-i)) h1
  | _ => .bad
theorem se_neg (ha : SE X W a f) : SE X W (.UnaryOp .USub a pos) (eNeg f) := by
  refine PE.imp (pe_un un_neg ha) fun σ H Q h => ?_
  obtain ⟨m, s, h, R0, rs, p⟩ := h
  refine ⟨m, s, h, R0, rs, PostE.mono (PostE.bind p) ?_⟩
  rintro x H1 ⟨m1, dx, h1, g1, R1, rx, p1⟩
  split at p1
  · exact ⟨_, rx.int_inv, p1.val R1 (.int _)⟩
  · exact False.elim p1
end
end Sh

set_option Elab.async false
set_option linter.all false
set_option maxRecDepth 100000
set_option maxHeartbeats 4000000
namespace Sh
open PySem L2 PyProof.Rows
/-! ### the text's things, bundled -/
section
variable {P : Program} {w : World} {K : PySem.W.Frag} {mg : Str → Option Value} {base : Heap}
structure FnAt (K : PySem.W.Frag) (mg : Str → Option Value) (x qual : Str) (st : Stmt) (ps : List Str) where
  f : Addr
  fd : FuncData
  fn : Fun K x qual st f fd
  g : mg x = some (.ref f)
  bi : Binds K fd ps []
structure MeAt (K : PySem.W.Frag) (C : Addr) (x qual : Str) (st : Stmt) (ps : List Str) where
  f : Addr
  fd : FuncData
  fn : Fun K x qual st f fd
  me : Meth K C x f
  bi : Binds K fd ps []
structure InAt (K : PySem.W.Frag) (C : Addr) (qual : Str) (st : Stmt) (ps : List Str) (n : Nat) (ks : List Str) where
  f : Addr
  fd : FuncData
  fn : Fun K "__init__" qual st f fd
  mak : Mk K C f
  bi : ∀ (s : Shared) (us ws : List Value), us.length = n + 1 → ws.length = ks.length → BindsTo s fd ⟨us, ks.zip ws⟩ (ps.zip (us ++ ws))
structure ClAt (K : PySem.W.Frag) (mg : Str → Option Value) (c : Str) where
  C : Addr
  g : mg c = some (.ref C)
  cl : Cls K C
structure ExAt (K : PySem.W.Frag) (mg : Str → Option Value) (c : Str) where
  C : Addr
  g : mg c = some (.ref C)
  xC : PySem.W.excIn K C [.type "ValueError", .type "Exception", .type "BaseException", .type "object"] "ValueError.__new__" = true
  kC : PySem.W.keepIn K (.ref C) = true
  bC : PySem.W.subIn K (.ref C) (.type "BaseException") = some true
  tC : PySem.W.typeIn K (.ref C) = some (.type "type")
  hC : PySem.W.hasDictIn K C = true
theorem ExAt.t {X : Cx} {c : Str} (T : ExAt X.K X.mg c) : ExcT X c T.C := ⟨T.g, T.xC, T.kC, T.bC, T.tC⟩
abbrev OkF (P : Program) (w : World) (K : PySem.W.Frag) (mg : Str → Option Value) (base : Heap) (k : Nat) (f : Addr) (fd : FuncData) (ps : List Str) (F : FF) : Prop := FnOk P w K mg base (L2.CX P w) k f fd ps (spF K mg ps.length F)
theorem takesW0 {X : Cx} : Takes X W0 := fun u s' ⟨a, B, sI, pins, σ, H, cls, d, e, I, nb, up, sky, na, os, ag, w⟩ => w.elim
theorem sss_bad {X : Cx} {W : WX} {sts : List Stmt} : SSs X W sts gBad := ⟨fun pins s σ H D I q => by
  obtain ⟨m, s, h, R0, rs, p⟩ := q
  exact p.elim⟩
theorem units65 {k : Nat} {A : Around} (hr : Room k A) : A.units + 65 < cLine := by have := hr.un; omega
theorem sub_nil : SubOk K mg [] := fun _ h => nomatch h
theorem sub_cons {c x : Str} {b : Bool} {C Cx : Addr} {l : SubT} (h1 : mg c = some (.ref C)) (h2 : mg x = some (.ref Cx)) (e : PySem.W.exmOne K (.ref C) (.ref Cx) = some b) (r : SubOk K mg l) : SubOk K mg (((c, x), b) :: l) := by
  intro p hp D Dx g1 g2
  rcases List.mem_cons.mp hp with rfl | hp
  · rw [h1] at g1
    rw [h2] at g2
    cases g1
    cases g2
    exact e
  · exact r p hp D Dx g1 g2
theorem bindsK {x qual : Str} {st : Stmt} {f : Addr} {fd : FuncData} {ps ks : List Str} {n : Nat} (F : Fun K x qual st f fd)
    (h : ∀ (kV doc pm : Value) (an : Option Addr) (cdv ct : Value) (us ws : List Value), us.length = n → ws.length = ks.length → bindArgs (PySem.W.fnOf x qual (defArgs st) (defBody st) (defScope st) .none kV doc pm an cdv ct) ⟨us, ks.zip ws⟩ = pure (ps.zip (us ++ ws))) :
    ∀ (s : Shared) (us ws : List Value), us.length = n → ws.length = ks.length → BindsTo s fd ⟨us, ks.zip ws⟩ (ps.zip (us ++ ws)) := by
  obtain ⟨oc, od, kV, doc, pm, an, cdv, ct, osl, rfl, lk, hcd⟩ := F.ex
  exact fun s us ws h1 h2 => .of_eq (h kV doc pm an cdv ct us ws h1 h2)
variable {X : Cx} {W : WX} {e o : Expr} {es : List Expr} {fs fk : List FE} {fo : FE} {kws : List Keyword} {x qual cn mn : Str} {st : Stmt} {ps ks : List Str} {F : FF} {p pos apos : Pos} {k n : Nat}
/-- f(e, ..) -/
theorem se_callA (A : FnAt X.K X.mg x qual st ps) (G : FnS X k A.f A.fd ps F) (tk : Takes X W) (hr : Room k X.A) (hg : Gl X x) (ha : SA X W (e :: es) (evalL fs))
    (hl : decide (fs.length = ps.length) = true := by rfl) (hdb : (x == ("__debug__" : Str)) = false := by decide) (he : starEach (e :: es) X.env = (false, eval e X.env) :: starEach es X.env := by rfl) (hpl : (backTo pos (starEach es X.env)).any (·.1) = false := by rfl) :
    SE X W (.Call (.Name x p) (e :: es) [] pos) (eArgs F fs) := se_call G tk hr hg A.g A.fn.kp A.bi ha hl hdb he hpl
theorem se_methA {C : ClAt X.K X.mg cn} {pl : Sem Bool} (A : MeAt X.K C.C mn qual st ps) (G : FnS X k A.f A.fd ps F) (tk : Takes X W) (hr : Room k X.A) (ho : SE X W o fo) (ha : SA X W (e :: es) (evalL fs)) (hl : decide (fs.length + 1 = ps.length) = true := by rfl)
    (hst : starEach (e :: es) X.env = (false, eval e X.env) :: starEach es X.env := by rfl) (hpl : (backTo pos (starEach es X.env)).any (·.1) = false := by rfl)
    (ht : eval (.Call (.Attribute o mn apos) (e :: es) [] pos) X.env = (do
      let ov ← eval o X.env
      standAt apos.atName
      let (f, first) ← holding [ov] (getMethod ov mn pl)
      callWith pos f first (backTo pos (starEach (e :: es) X.env)) (backToKw pos (keywordEach [] X.env))) := by rfl) : SE X W (.Call (.Attribute o mn apos) (e :: es) [] pos) (eMeth cn mn F fo fs) :=
  se_meth G tk hr C.g C.cl A.me A.bi ho ha hl hst hpl ht
theorem se_methA0 {C : ClAt X.K X.mg cn} {pl : Sem Bool} (A : MeAt X.K C.C mn qual st ps) (G : FnS X k A.f A.fd ps F) (tk : Takes X W) (hr : Room k X.A) (ho : SE X W o fo) (hl : decide (1 = ps.length) = true := by rfl)
    (ht : eval (.Call (.Attribute o mn apos) [] [] pos) X.env = (do
      let ov ← eval o X.env
      standAt apos.atName
      let (f, first) ← holding [ov] (getMethod ov mn pl)
      callWith pos f first (backTo pos (starEach [] X.env)) (backToKw pos (keywordEach [] X.env))) := by rfl) : SE X W (.Call (.Attribute o mn apos) [] [] pos) (eMeth cn mn F fo []) :=
  se_meth0 G tk hr C.g C.cl A.me A.bi ho hl ht
theorem se_makeA {C : ClAt X.K X.mg x} (A : InAt X.K C.C qual st ps n ks) (G : FnS X k A.f A.fd ps F) (tk : Takes X W) (hr : Room (k + 1) X.A) (hg : Gl X x)
    (ha : SA X W (e :: es) (evalL fs)) (hkw : SK X W kws fk) (hn : decide (fs.length = n) = true := by rfl) (hk2 : decide (fk.length = ks.length) = true := by rfl) (hps : decide (n + ks.length + 1 = ps.length) = true := by rfl)
    (hall : (backToKw pos (keywordEach kws X.env)).all (·.1.isSome) = true := by rfl) (hks : (backToKw pos (keywordEach kws X.env)).filterMap (·.1) = ks := by rfl)
    (hdb : (x == ("__debug__" : Str)) = false := by decide) (he : starEach (e :: es) X.env = (false, eval e X.env) :: starEach es X.env := by rfl)
    (hpl : ((backTo pos (starEach (e :: es) X.env)).any (·.1) || (backToKw pos (keywordEach kws X.env)).any (·.1.isNone)) = false := by rfl) :
    SE X W (.Call (.Name x p) (e :: es) kws pos) (eMake x F fs fk) := se_make A.mak G tk hr hg C.g A.bi ha hkw hn hk2 hps hall hks hdb he hpl
end
/-! ### the end -/
section
variable {K : PySem.W.Frag} {mg : Str → Option Value}
theorem fnFact {x qual : Str} {st : Stmt} {f : Addr} {oc : Value} {od an : Option Addr} {osl : Array (Option Value)} {kV doc pm cdv ct : Value} (l : K.lookup f = some ⟨oc, od, .func (PySem.W.fnOf x qual (defArgs st) (defBody st) (defScope st) .none kV doc pm an cdv ct), osl⟩)
    (c : PySem.W.codeIn K cdv qual = true) (k : PySem.W.keepIn K (.ref f) = true) : ∃ fd, Fun K x qual st f fd := ⟨_, fun_mk l c k⟩
theorem bind1 {x qual p : Str} {st : Stmt} {f : Addr} {fd : FuncData} (F : Fun K x qual st f fd)
    (h : ∀ (kV doc pm : Value) (an : Option Addr) (cdv ct : Value) (v : Value), bindArgs (PySem.W.fnOf x qual (defArgs st) (defBody st) (defScope st) .none kV doc pm an cdv ct) ⟨[v], []⟩ = pure [(p, v)]) (s : Shared) (v : Value) : BindsTo s fd ⟨[v], []⟩ [(p, v)] := by
  obtain ⟨oc, od, kV, doc, pm, an, cdv, ct, osl, rfl, lk, hcd⟩ := F.ex
  exact .of_eq (h kV doc pm an cdv ct v)
theorem ex_sub {c x : Str} {b : Bool} (A : ExAt K mg c) (B : ExAt K mg x) (h : PySem.W.subIn K (.ref A.C) (.ref B.C) = some b) : PySem.W.exmOne K (.ref A.C) (.ref B.C) = some b := PySem.W.exm_ref B.bC B.hC B.tC h
def spLaw (K : PySem.W.Frag) : Sp := fun vs H Q E => ∃ (a : Addr) (ns : List Int), vs = [.ref a] ∧ SclS K H a (ns.map V.int) ∧ ns.length ≤ 63 ∧ ∀ H', Q (.bl true) H'
theorem repInts {m : List Addr} {H : Hp} : ∀ ns : List Int, RepL K m H (ns.map V.int) (ns.map D.int)
  | [] => .nil
  | i :: ns => .cons (.int i) (repInts ns)
theorem law_imp {F : FF} (h : ∀ ns : List Int, ns.length ≤ 63 → ∃ h', F [.scl (ns.map D.int)] [] = .ok (.bl true) h') : ∀ vs H Q E, spLaw K vs H Q E → spF K mg 1 F vs H Q E := by
  rintro vs H Q E ⟨a, ns, rfl, hs, hl, q⟩
  obtain ⟨h', e⟩ := h ns hl
  refine ⟨rfl, [], [.scl (ns.map D.int)], [], ⟨rfl, List.nodup_nil, fun n a o e1 e2 => by simp at e1⟩, .cons (.scl hs (repInts ns)) .nil, ?_⟩
  rw [e]
  intro m' H' v g r rep
  rw [rep.bl_inv]
  exact q H'
theorem walkS {l : PySem.W.OpenLaw} {q : Program} {loose : List Str} {XP : (Str → Option Value) → Heap → Prop} {YP : World → Heap → Prop} {d : DefRec} {K : Params → PySem.W.Frag} {k : Nat} (hn : l.most = some 63) (hdf : d.params.defaults = []) (hr : Room k callerA)
    (hY : ∀ (w : World) (h : Heap), YP w h → (K w.params).In h)
    (F : ∀ (w : World) (mg : Str → Option Value) (fa : Addr) (h : Heap), (K w.params).In h → h.Ns mainGlobals mg → mg d.name = some (.ref fa) →
      ∃ fd : FuncData, (∀ (s : Shared) (u : Value), BindsTo s fd ⟨[u], []⟩ [("script", u)]) ∧ ∀ base : Heap, (K w.params).In base → base.Ns mainGlobals mg → FnOk l.prog w (K w.params) mg base (L2.CX l.prog w) k fa fd ["script"] (spLaw (K w.params))) :
    PySem.W.WalkO q loose XP YP l.row.toRowW d [] (fun f vs => PySem.call f vs) := by
  refine L2.walk_of (n := 63) (k := k) (x := "script") (CX := fun w => L2.CX l.prog w) (sp := fun w => spLaw (K w.params)) hn (by decide) hdf hr hY F (fun w H a ns hl hO hS => ?_) fun w H s e s' z => ?_
  · refine ⟨a, ns, rfl, ?_, hl, fun _ => rfl⟩
    rcases hS with hS | hS
    · rcases hS with hS | hS
      · rcases hO a with e | ⟨o, xs, e⟩
        · rw [hS] at e; cases e
        · rw [hS] at e; cases e
      · exact .inl hS
    · exact .inr hS
  · obtain ⟨a, B, H', cls, d, _, _, _, _, _, _, _, h⟩ := z
    exact h
end
end Sh

set_option Elab.async false
set_option linter.all false
set_option maxRecDepth 100000
set_option maxHeartbeats 4000000
namespace Sh
open PySem L2 PyProof.Rows
/-! ### reckoning with mirrors: each combinator by an eliminator, the eliminators by constructors and through if -/
def RT.seq (r : RT) (k : FS) : RT := match r with
  | .nx s h => k s h
  | r => r
def RD.tst (r : RD) (s : DS) (k : Bool → Hm → RT) : RT := match r with
  | .ok (.bl p) h => k p h
  | .ok _ _ => .bad
  | .exc c fs h => .exc c fs s h
  | .bad => .bad
def RD.tb (r : RD) (k : Bool → Hm → RD) : RD := match r with
  | .ok (.bl p) h => k p h
  | .ok _ _ => .bad
  | .exc c fs h => .exc c fs h
  | .bad => .bad
def ofO (o : Option (Option D)) (h : Hm) : RD := match o with
  | some (some d) => .ok d h
  | _ => .bad
section
variable {s : DS} {h h1 : Hm} {k : FS} {kb : Bool → Hm → RT} {ke : Bool → Hm → RD} {kd : D → Hm → RD} {ks : D → Hm → RT} {d : D} {p q : Bool} {c : Str} {fs : List (Str × D)} {P : Prop} [Decidable P]
@[simp] theorem seq_nx : (RT.nx s h).seq k = k s h := rfl
@[simp] theorem seq_rt : (RT.rt d h).seq k = .rt d h := rfl
@[simp] theorem seq_ct : (RT.ct s h).seq k = .ct s h := rfl
@[simp] theorem seq_bk : (RT.bk s h).seq k = .bk s h := rfl
@[simp] theorem seq_bad : RT.bad.seq k = .bad := rfl
@[simp] theorem seq_exc : (RT.exc c fs s h).seq k = .exc c fs s h := rfl
@[simp] theorem seq_ite {a b : RT} : (if P then a else b).seq k = if P then a.seq k else b.seq k := by split <;> rfl
@[simp] theorem tst_ok : (RD.ok (.bl p) h).tst s kb = kb p h := rfl
@[simp] theorem tst_bad : RD.bad.tst s kb = .bad := rfl
@[simp] theorem tst_exc : (RD.exc c fs h).tst s kb = .exc c fs s h := rfl
@[simp] theorem tst_ite {a b : RD} : (if P then a else b).tst s kb = if P then a.tst s kb else b.tst s kb := by split <;> rfl
@[simp] theorem tb_ok : (RD.ok (.bl p) h).tb ke = ke p h := rfl
@[simp] theorem tb_bad : RD.bad.tb ke = .bad := rfl
@[simp] theorem tb_exc : (RD.exc c fs h).tb ke = .exc c fs h := rfl
@[simp] theorem tb_ite {a b : RD} : (if P then a else b).tb ke = if P then a.tb ke else b.tb ke := by split <;> rfl
@[simp] theorem bind_ite {a b : RD} : (if P then a else b).bind kd = if P then a.bind kd else b.bind kd := by split <;> rfl
@[simp] theorem st_ite {a b : RD} : (if P then a else b).st s ks = if P then a.st s ks else b.st s ks := by split <;> rfl
@[simp] theorem ofO_some : ofO (some (some d)) h = .ok d h := rfl
@[simp] theorem ite_bl : (if P then RD.ok (.bl p) h else RD.ok (.bl q) h) = .ok (.bl (if P then p else q)) h := by split <;> rfl
variable {a b : FS} {f fa fb fc : FE} {g : List D → Hm → RD} {fop f1 f2 : D → D → Hm → RD} {x y z : FE}
@[simp] theorem x_seq : gSeq a b s h = (a s h).seq b := by unfold gSeq; cases a s h <;> rfl
@[simp] theorem x_next : gNext s h = .nx s h := rfl
@[simp] theorem x_cont : gCont s h = .ct s h := rfl
@[simp] theorem x_break : gBreak s h = .bk s h := rfl
@[simp] theorem x_retN : gRetN s h = .rt .non h := rfl
@[simp] theorem x_bad : gBad s h = .bad := rfl
@[simp] theorem x_drop : gDrop f s h = (f s h).st s fun _ h1 => .nx s h1 := rfl
@[simp] theorem x_ret : gRet f s h = (f s h).st s fun d h1 => .rt d h1 := rfl
@[simp] theorem x_set {i : Nat} : gSet i f s h = (f s h).st s fun d h1 => .nx (s.set i (some d)) h1 := rfl
@[simp] theorem x_if : gIf f a b s h = (f s h).tst s fun p h1 => if p then a s h1 else b s h1 := by
  unfold gIf
  cases f s h with
  | ok d h => cases d <;> first | rfl | (rename_i p; cases p <;> rfl)
  | _ => rfl
@[simp] theorem x_var {i : Nat} : eVar i s h = ofO s[i]? h := by unfold eVar ofO; rfl
@[simp] theorem x_c : eC d s h = .ok d h := rfl
@[simp] theorem x_bin : eBin fop fa fb s h = (fa s h).bind fun x h1 => (fb s h1).bind fun y h2 => fop x y h2 := rfl
@[simp] theorem x_and : eAnd fa fb s h = (fa s h).tb fun p h1 => if p then fb s h1 else .ok (.bl false) h1 := by
  unfold eAnd
  cases fa s h with
  | ok d h => cases d <;> first | rfl | (rename_i p; cases p <;> rfl)
  | _ => rfl
@[simp] theorem x_or : eOr fa fb s h = (fa s h).tb fun p h1 => if p then .ok (.bl true) h1 else fb s h1 := by
  unfold eOr
  cases fa s h with
  | ok d h => cases d <;> first | rfl | (rename_i p; cases p <;> rfl)
  | _ => rfl
@[simp] theorem x_not : eNot fa s h = (fa s h).tb fun p h1 => .ok (.bl (!p)) h1 := by
  unfold eNot
  cases fa s h with
  | ok d h => cases d <;> rfl
  | _ => rfl
@[simp] theorem x_eif : eIf fc fa fb s h = (fc s h).tb fun p h1 => if p then fa s h1 else fb s h1 := by
  unfold eIf
  cases fc s h with
  | ok d h => cases d <;> first | rfl | (rename_i p; cases p <;> rfl)
  | _ => rfl
@[simp] theorem x_chain : eChain f1 f2 fa fb fc s h = (fa s h).bind fun x h1 => (fb s h1).bind fun y h2 => (f1 x y h2).tb fun p h3 => if p then (fc s h3).bind fun z h4 => f2 y z h4 else .ok (.bl false) h3 := by
  unfold eChain
  congr 1
  funext x h1
  congr 1
  funext y h2
  cases f1 x y h2 with
  | ok d h => cases d <;> first | rfl | (rename_i p; cases p <;> rfl)
  | _ => rfl
@[simp] theorem x_neg : eNeg f s h = (f s h).bind fun d h1 => match d with
  | .int i => .ok (.int (-i)) h1
  | _ => .bad := rfl
/-- argument lists -/
def evR : List FE → DS → Hm → (List D → Hm → RD) → RD
  | [], s, h, k => k [] h
  | f :: fs, s, h, k => (f s h).bind fun d h1 => evR fs s h1 fun ds h2 => k (d :: ds) h2
theorem evR_eq {s : DS} : ∀ {fs : List FE} {h : Hm} {k : List D → Hm → RD}, evR fs s h k = match evalL fs s h with
    | .ok ds h1 => k ds h1
    | .exc c x h1 => .exc c x h1
    | .bad => .bad
  | [], h, k => rfl
  | f :: fs, h, k => by
    simp only [evR, evalL]
    cases f s h with
    | ok d h1 =>
      simp only [RD.bind_ok, evR_eq]
      cases evalL fs s h1 <;> rfl
    | exc c x h1 => rfl
    | bad => rfl
@[simp] theorem x_args {l : List FE} : eArgs g l s h = evR l s h g := by rw [evR_eq]; rfl
@[simp] theorem evR_nil {k : List D → Hm → RD} : evR [] s h k = k [] h := rfl
@[simp] theorem evR_cons {l : List FE} {k : List D → Hm → RD} : evR (f :: l) s h k = (f s h).bind fun d h1 => evR l s h1 fun ds h2 => k (d :: ds) h2 := rfl
@[simp] theorem x_tup {l : List FE} : eTup l s h = evR l s h fun ds h => .ok (.tup ds) h := x_args
@[simp] theorem x_lst {l : List FE} : eLst l s h = evR l s h fun ds h => .ok (.ref h.length) (h ++ [.lst ds]) := x_args
/-- operations on ints -/
@[simp] theorem o_cmp {t : Int → Int → Bool} {i j : Int} : dCmp t (.int i) (.int j) h = .ok (.bl (t i j)) h := rfl
@[simp] theorem o_sub {i j : Int} : dSub (.int i) (.int j) h = .ok (.int (i - j)) h := rfl
@[simp] theorem o_add {i j : Int} : dAdd (.int i) (.int j) h = .ok (.int (i + j)) h := rfl
@[simp] theorem o_mod {i j : Int} : dMod (.int i) (.int j) h = if 0 < j then .ok (.int (i % j)) h else .bad := by
  simp [dMod, dInt2]
theorem o_div {i j : Int} (h1 : 0 < j) (h2 : j < 18446744073709551616) : dDiv (.int i) (.int j) h = .ok (.int (i / j)) h := by
  have h3 : j < 1606938044258990275541962092341162602522202993782792835301376 := Int.lt_trans h2 (by decide)
  simp [dDiv, dInt2, h1, h3]
@[simp] theorem o_div1009 {i : Int} : dDiv (.int i) (.int 1009) h = .ok (.int (i / 1009)) h := o_div (by decide) (by decide)
@[simp] theorem o_div2003 {i : Int} : dDiv (.int i) (.int 2003) h = .ok (.int (i / 2003)) h := o_div (by decide) (by decide)
@[simp] theorem o_div16 {i : Int} : dDiv (.int i) (.int 16) h = .ok (.int (i / 16)) h := o_div (by decide) (by decide)
@[simp] theorem o_div3 {i : Int} : dDiv (.int i) (.int 3) h = .ok (.int (i / 3)) h := o_div (by decide) (by decide)
theorem o_pow18 : dPow (.int 10) (.int 18) h = .ok (.int 1000000000000000000) h := by rfl
theorem o_pow25 : dPow (.int 10) (.int 25) h = .ok (.int 10000000000000000000000000) h := by rfl
theorem o_mulL {i j : Int} (h1 : -18446744073709551616 < i) (h2 : i < 18446744073709551616) : dMul (.int i) (.int j) h = .ok (.int (i * j)) h := by
  have : cM i j = true := decide_eq_true (.inl ⟨by rw [show (-(2 ^ 64) : Int) = -18446744073709551616 from rfl]; exact h1, by rw [show ((2 : Int) ^ 64) = 18446744073709551616 from rfl]; exact h2⟩)
  simp [dMul, this]
theorem o_mulR {i j : Int} (h1 : -18446744073709551616 < j) (h2 : j < 18446744073709551616) : dMul (.int i) (.int j) h = .ok (.int (i * j)) h := by
  have : cM i j = true := decide_eq_true (.inr ⟨by rw [show (-(2 ^ 64) : Int) = -18446744073709551616 from rfl]; exact h1, by rw [show ((2 : Int) ^ 64) = 18446744073709551616 from rfl]; exact h2⟩)
  simp [dMul, this]
@[simp] theorem o_mul7919 {j : Int} : dMul (.int 7919) (.int j) h = .ok (.int (7919 * j)) h := o_mulL (by decide) (by decide)
@[simp] theorem o_mul48271 {j : Int} : dMul (.int j) (.int 48271) h = .ok (.int (j * 48271)) h := o_mulR (by decide) (by decide)
@[simp] theorem o_int {i : Int} : bInt [.int i] h = .ok (.int i) h := rfl
@[simp] theorem o_is_n {x : D} : dIs x .non h = .ok (.bl (decide (x = .non))) h := by simp [dIs]
@[simp] theorem o_is_b {x : D} {b : Bool} : dIs x (.bl b) h = .ok (.bl (decide (x = .bl b))) h := by simp [dIs]
@[simp] theorem o_isN_n {x : D} : dIsNot x .non h = .ok (.bl (!decide (x = .non))) h := by simp [dIsNot]
@[simp] theorem o_isN_b {x : D} {b : Bool} : dIsNot x (.bl b) h = .ok (.bl (!decide (x = .bl b))) h := by simp [dIsNot]
@[simp] theorem o_len_t {ds : List D} : bLen [.tup ds] h = .ok (.int ds.length) h := rfl
@[simp] theorem o_len_s {ds : List D} : bLen [.scl ds] h = .ok (.int ds.length) h := rfl
theorem o_len_r {n : Nat} {ds : List D} (e : h[n]? = some (.lst ds)) : bLen [.ref n] h = .ok (.int ds.length) h := by simp [bLen, items, e]
def RT.out (r : RT) : RD := match r with
  | .nx _ h => .ok .non h
  | .rt d h => .ok d h
  | .exc c fs _ h => .exc c fs h
  | _ => .bad
@[simp] theorem out_nx : (RT.nx s h).out = .ok .non h := rfl
@[simp] theorem out_rt : (RT.rt d h).out = .ok d h := rfl
@[simp] theorem out_exc : (RT.exc c fs s h).out = .exc c fs h := rfl
@[simp] theorem out_bad : RT.bad.out = .bad := rfl
@[simp] theorem out_ite {a b : RT} : (if P then a else b).out = if P then a.out else b.out := by split <;> rfl
theorem x_run {n : Nat} {g : FS} {ds : List D} : runB n g ds h = (g (ds.map some ++ List.replicate (n - ds.length) none) h).out := by
  unfold runB
  cases g (ds.map some ++ List.replicate (n - ds.length) none) h <;> rfl
@[simp] theorem ite_ok {a b : D} : (if P then RD.ok a h else RD.ok b h) = .ok (if P then a else b) h := by split <;> rfl
@[simp] theorem ite_dbl {a b : Bool} : (if P then D.bl a else D.bl b) = D.bl (if P then a else b) := by split <;> rfl
@[simp] theorem x_isi {T : String} : eIsi T f s h = (f s h).bind fun d h1 => match isiB T h1 d with
  | some b => .ok (.bl b) h1
  | none => .bad := rfl
@[simp] theorem t_int {T : String} {i : Int} : isiB T h (.int i) = kitB "int" T := rfl
@[simp] theorem t_bl {T : String} {i : Bool} : isiB T h (.bl i) = kitB "bool" T := rfl
@[simp] theorem t_str {T : String} {i : Str} : isiB T h (.str i) = kitB "str" T := rfl
@[simp] theorem t_tup {T : String} {i : List D} : isiB T h (.tup i) = kitB "tuple" T := rfl
@[simp] theorem t_non {T : String} : isiB T h .non = kitB "NoneType" T := rfl
theorem kit_table : (kitB "int" "int" = some true ∧ kitB "int" "bool" = some false ∧ kitB "int" "str" = some false ∧ kitB "int" "tuple" = some false ∧ kitB "int" "list" = some false) ∧
    (kitB "bool" "int" = some true ∧ kitB "bool" "bool" = some true ∧ kitB "bool" "str" = some false ∧ kitB "bool" "tuple" = some false ∧ kitB "bool" "list" = some false) ∧
    (kitB "str" "int" = some false ∧ kitB "str" "bool" = some false ∧ kitB "str" "str" = some true ∧ kitB "str" "tuple" = some false ∧ kitB "str" "list" = some false) ∧
    (kitB "tuple" "int" = some false ∧ kitB "tuple" "bool" = some false ∧ kitB "tuple" "str" = some false ∧ kitB "tuple" "tuple" = some true ∧ kitB "tuple" "list" = some false) ∧
    (kitB "list" "int" = some false ∧ kitB "list" "bool" = some false ∧ kitB "list" "str" = some false ∧ kitB "list" "tuple" = some false ∧ kitB "list" "list" = some true) ∧
    (kitB "NoneType" "int" = some false ∧ kitB "NoneType" "bool" = some false ∧ kitB "NoneType" "str" = some false ∧ kitB "NoneType" "tuple" = some false ∧ kitB "NoneType" "list" = some false) := by
  decide +kernel
/-! ### lists in the heap -/
def lmC (g : Nat → List D → List D → Hm → RD) (n : Nat) (ds : List D) (h2 : Hm) : RD := match h2[n]? with
  | some (.lst xs) => g n xs ds h2
  | _ => .bad
def lmB (g : Nat → List D → List D → Hm → RD) (d : D) (l : List FE) (s : DS) (h1 : Hm) : RD := match d with
  | .ref n => match h1[n]? with
    | some (.lst _) => evR l s h1 fun ds h2 => lmC g n ds h2
    | _ => .bad
  | _ => .bad
variable {gl : Nat → List D → List D → Hm → RD} {l : List FE} {n : Nat} {xs ys : List D}
@[simp] theorem x_lm {fo : FE} : eLm gl fo l s h = (fo s h).bind fun d h1 => lmB gl d l s h1 := by
  unfold eLm lmB
  congr 1
  funext d h1
  cases d with
  | ref n =>
    dsimp only
    cases h1[n]? with
    | none => rfl
    | some o =>
      cases o with
      | lst zs => exact x_args
      | _ => rfl
  | _ => rfl
theorem lmB_ref (e : h[n]? = some (.lst ys)) : lmB gl (.ref n) l s h = evR l s h fun ds h2 => lmC gl n ds h2 := by simp [lmB, e]
theorem lmC_ok (e : h[n]? = some (.lst ys)) : lmC gl n xs h = gl n ys xs h := by simp [lmC, e]
theorem app_ok (e : xs.length < 1000000) : lAppend n xs [d] h = .ok .non (h.set n (.lst (xs ++ [d]))) := by
  have e' : xs.length < big := e
  simp [lAppend, e']
theorem get_last {o : O} : (h ++ [o])[h.length]? = some o := by simp
theorem set_last {o o' : O} : (h ++ [o]).set h.length o' = h ++ [o'] := by simp
theorem get_old {o : O} {n : Nat} (e : n < h.length) : (h ++ [o])[n]? = h[n]? := List.getElem?_append_left e
theorem lt_of_get {o : O} {n : Nat} (e : h[n]? = some o) : n < h.length := (List.getElem?_eq_some_iff.mp e).1
/-- appending to the newest list -/
theorem app_last {fo : FE} {e : FE} (hf : fo s (h ++ [.lst xs]) = .ok (.ref h.length) (h ++ [.lst xs])) (he : e s (h ++ [.lst xs]) = .ok d (h ++ [.lst xs])) (hl : xs.length < 1000000) :
    eLm lAppend fo [e] s (h ++ [.lst xs]) = .ok .non (h ++ [.lst (xs ++ [d])]) := by
  simp only [x_lm, hf, RD.bind_ok, lmB_ref (gl := lAppend) (get_last (h := h) (o := .lst xs)), evR_cons, evR_nil, he, lmC_ok (gl := lAppend) (get_last (h := h) (o := .lst xs)), app_ok hl, set_last]
theorem atI_nat {α : Type} {l : List α} {k : Nat} {x : α} (e : l[k]? = some x) : atI l (k : Int) = some x := by
  have hk := (List.getElem?_eq_some_iff.mp e).1
  have h0 : (0 : Int) ≤ (k : Int) := Int.natCast_nonneg k
  have h1 : (k : Int) < (l.length : Int) := Int.ofNat_lt.mpr hk
  unfold atI ixN
  rw [if_pos h0, if_pos h1]
  exact e
theorem ix_tup {k : Nat} {x : D} (e : xs[k]? = some x) : dIx (.tup xs) (.int k) h = .ok x h := by simp [dIx, items, atI_nat e]
theorem ix_ref {k : Nat} {x : D} (e0 : h[n]? = some (.lst xs)) (e : xs[k]? = some x) : dIx (.ref n) (.int k) h = .ok x h := by simp [dIx, items, e0, atI_nat e]
theorem len_ref (e : h[n]? = some (.lst xs)) : bLen [.ref n] h = .ok (.int xs.length) h := by simp [bLen, items, e]
/-! ### loops -/
variable {ck : Option (Nat × List D)} {gt : GT} {gb : FS} {fi : FI}
theorem loop_nil (hc : chkB ck h = true) : loopG ck gt gb [] s h = .nx s h := by simp [loopG, hc]
def RT.lp (r : RT) (k : FS) : RT := match r with
  | .nx s h => k s h
  | .ct s h => k s h
  | .bk s h => .nx s h
  | r => r
@[simp] theorem lp_nx : (RT.nx s h).lp k = k s h := rfl
@[simp] theorem lp_ct : (RT.ct s h).lp k = k s h := rfl
@[simp] theorem lp_bk : (RT.bk s h).lp k = .nx s h := rfl
@[simp] theorem lp_rt : (RT.rt d h).lp k = .rt d h := rfl
@[simp] theorem lp_ite {a b : RT} : (if P then a else b).lp k = if P then a.lp k else b.lp k := by split <;> rfl
theorem loop_cons {x : D} {s1 : DS} {h1 : Hm} (hc : chkB ck h = true) (ht : gt x s h = .nx s1 h1) : loopG ck gt gb (x :: xs) s h = (gb s1 h1).lp fun s2 h2 => loopG ck gt gb xs s2 h2 := by
  rw [loopG, if_pos hc, ht]
  dsimp only
  cases gb s1 h1 <;> rfl
theorem for_ok {h1 : Hm} (e : fi s h = .ok xs ck h1) : gFor fi gt gb s h = loopG ck gt gb xs s h1 := by simp [gFor, e]
theorem fi_ref {f : FE} {h1 : Hm} (e : f s h = .ok (.ref n) h1) (e1 : h1[n]? = some (.lst xs)) : fiSeq f s h = .ok xs (some (n, xs)) h1 := by simp [fiSeq, e, RD.it, iSeq, items, e1]
theorem fi_tup {f : FE} {h1 : Hm} (e : f s h = .ok (.tup xs) h1) : fiSeq f s h = .ok xs none h1 := by simp [fiSeq, e, RD.it, iSeq]
theorem fi_rg {f : FE} {h1 : Hm} {j : Int} (e : f s h = .ok (.int j) h1) (h0 : 0 ≤ j) (h2 : j < 1000000) : fiRg [f] s h = .ok ((List.range j.toNat).map fun i => .int (i : Nat)) none h1 := by
  have b : -4611686018427387904 ≤ j ∧ j < 4611686018427387904 := ⟨by omega, by omega⟩
  simp [fiRg, evalL, e, iRg, b, rgD]
theorem chk_ref (e : h[n]? = some (.lst xs)) : chkB (some (n, xs)) h = true := by
  simp [chkB, items, e, D.beqL_self]
theorem chk_none : chkB none h = true := rfl
@[simp] theorem q_int {i j : Int} : dEq (.int i) (.int j) h = .ok (.bl (decide (i = j))) h := by simp [dEq, eqB, eqSc]
@[simp] theorem q_str {i j : Str} : dEq (.str i) (.str j) h = .ok (.bl (decide (i = j))) h := by simp [dEq, eqB, eqSc]
@[simp] theorem q_is {i : Int} {j : Str} : dEq (.int i) (.str j) h = .ok (.bl false) h := by simp [dEq, eqB, eqSc]
@[simp] theorem q_si {i : Int} {j : Str} : dEq (.str j) (.int i) h = .ok (.bl false) h := by simp [dEq, eqB, eqSc]
@[simp] theorem q_ns {j : Str} : dEq .non (.str j) h = .ok (.bl false) h := by simp [dEq, eqB, eqSc]
@[simp] theorem q_ni {j : Int} : dEq .non (.int j) h = .ok (.bl false) h := by simp [dEq, eqB, eqSc]
@[simp] theorem nq_int {i j : Int} : dNe (.int i) (.int j) h = .ok (.bl (!decide (i = j))) h := by simp [dNe, eqB, eqSc]
@[simp] theorem nq_str {i j : Str} : dNe (.str i) (.str j) h = .ok (.bl (!decide (i = j))) h := by simp [dNe, eqB, eqSc]
@[simp] theorem nq_is {i : Int} {j : Str} : dNe (.int i) (.str j) h = .ok (.bl true) h := by simp [dNe, eqB, eqSc]
theorem pop_ok {i : Int} {x : D} (h0 : 0 ≤ i) (h1 : i < 1000000) (e : xs[i.toNat]? = some x) : lPopAt n xs [.int i] h = .ok x (h.set n (.lst (xs.eraseIdx i.toNat))) := by
  have hk := (List.getElem?_eq_some_iff.mp e).1
  have hs : seqIndex? i xs.length = some i.toNat := by
    unfold seqIndex?
    have : ¬ i < 0 := by omega
    simp [this, hk]
    omega
  have b : -9223372036854775808 ≤ i ∧ i < 9223372036854775808 := ⟨by omega, by omega⟩
  simp [lPopAt, b, hs, e]
/-! ### comprehensions whose items leave the heap but for new things -/
theorem lcv_ok {ft fe : FE} {s0 : DS} {val : D → D} {tt : D → Bool} (hck : ∀ u : Hm, chkB ck (h ++ u) = true) : ∀ (xs acc : List D) (t : Hm),
    (∀ x ∈ xs, ∀ u : Hm, ∃ (s1 : DS) (t' : Hm), gt x s0 (h ++ u) = .nx s1 (h ++ u) ∧ ft s1 (h ++ u) = .ok (.bl (tt x)) (h ++ u) ∧ (tt x = true → fe s1 (h ++ u) = .ok (val x) (h ++ u ++ t'))) → acc.length + xs.length < 1000000 →
    ∃ t2, lcLoop ck gt ft fe h.length s0 xs (h ++ .lst acc :: t) = .ok (.ref h.length) (h ++ .lst (acc ++ (xs.filter tt).map val) :: t2)
  | [], acc, t, _, _ => ⟨t, by
      unfold lcLoop
      rw [if_pos (hck _)]
      simp⟩
  | x :: xs, acc, t, k, hl => by
    simp only [List.length_cons] at hl
    obtain ⟨s1, t', e1, e2, e3⟩ := k x (List.mem_cons_self ..) (.lst acc :: t)
    unfold lcLoop
    rw [if_pos (hck _), e1]
    dsimp only
    rw [e2]
    cases ht : tt x with
    | false =>
      dsimp only
      obtain ⟨t2, r⟩ := lcv_ok hck xs acc t (fun y hy => k y (List.mem_cons_of_mem _ hy)) (by omega)
      exact ⟨t2, by rw [r, List.filter_cons_of_neg (by rw [ht]; exact Bool.false_ne_true)]⟩
    | true =>
      dsimp only
      rw [e3 ht]
      dsimp only
      have g : (h ++ .lst acc :: t ++ t')[h.length]? = some (.lst acc) := by simp
      rw [g]
      dsimp only
      have hb : acc.length < big := by show acc.length < 1000000; omega
      rw [if_pos hb]
      have es : (h ++ .lst acc :: t ++ t').set h.length (.lst (acc ++ [val x])) = h ++ .lst (acc ++ [val x]) :: (t ++ t') := by simp
      rw [es]
      obtain ⟨t2, r⟩ := lcv_ok hck xs (acc ++ [val x]) (t ++ t') (fun y hy => k y (List.mem_cons_of_mem _ hy)) (by simp; omega)
      exact ⟨t2, by rw [r, List.filter_cons_of_pos ht, List.map_cons, List.append_assoc]; rfl⟩
theorem elc_ok {ft fe : FE} {own : List Nat} {val : D → D} {tt : D → Bool} {xs : List D} (ef : fi s h = .ok xs ck h) (hck : ∀ u : Hm, chkB ck (h ++ u) = true)
    (k : ∀ x ∈ xs, ∀ u : Hm, ∃ (s1 : DS) (t' : Hm), gt x (wipeD s own) (h ++ u) = .nx s1 (h ++ u) ∧ ft s1 (h ++ u) = .ok (.bl (tt x)) (h ++ u) ∧ (tt x = true → fe s1 (h ++ u) = .ok (val x) (h ++ u ++ t'))) (hl : xs.length < 1000000) :
    ∃ t2, eLc fi gt ft fe own s h = .ok (.ref h.length) (h ++ .lst ((xs.filter tt).map val) :: t2) := by
  obtain ⟨t2, r⟩ := lcv_ok (s0 := wipeD s own) hck xs [] [] k (by simpa using hl)
  refine ⟨t2, ?_⟩
  unfold eLc
  rw [ef]
  dsimp only
  rw [r, List.nil_append]
theorem chk_old {n : Nat} {xs : List D} (e : h[n]? = some (.lst xs)) (u : Hm) : chkB (some (n, xs)) (h ++ u) = true := chk_ref (by rw [List.getElem?_append_left (lt_of_get e)]; exact e)
theorem bls_of : ∀ {ds : List D} {bs : List Bool}, ds = bs.map D.bl → bls ds = some bs
  | _, [], e => by subst e; rfl
  | _, b :: bs, e => by
    subst e
    simp only [List.map_cons, bls, bls_of rfl, Option.map_some]
theorem quant_ok {g : List Bool → Bool} {bs : List Bool} (e : h[n]? = some (.lst (bs.map D.bl))) : bQuant g [.ref n] h = .ok (.bl (g bs)) h := by
  simp [bQuant, e, bls_of rfl]
theorem lcIn_ok {ft fe : FE} {s0 : DS} {val : D → D} {tt : D → Bool} (hck : ∀ u : Hm, chkB ck (h ++ u) = true) : ∀ (xs acc : List D) (t : Hm),
    (∀ x ∈ xs, ∀ u : Hm, ∃ (s1 : DS) (t' : Hm), gt x s0 (h ++ u) = .nx s1 (h ++ u) ∧ ft s1 (h ++ u) = .ok (.bl (tt x)) (h ++ u) ∧ (tt x = true → fe s1 (h ++ u) = .ok (val x) (h ++ u ++ t'))) → acc.length + xs.length < 1000000 →
    ∃ t2, lcIn ck gt ft fe h.length s0 xs (h ++ .lst acc :: t) = some (h ++ .lst (acc ++ (xs.filter tt).map val) :: t2)
  | [], acc, t, _, _ => ⟨t, by
      unfold lcIn
      rw [if_pos (hck _)]
      simp⟩
  | x :: xs, acc, t, k, hl => by
    simp only [List.length_cons] at hl
    obtain ⟨s1, t', e1, e2, e3⟩ := k x (List.mem_cons_self ..) (.lst acc :: t)
    unfold lcIn
    rw [if_pos (hck _), e1]
    dsimp only
    rw [e2]
    cases ht : tt x with
    | false =>
      dsimp only
      obtain ⟨t2, r⟩ := lcIn_ok hck xs acc t (fun y hy => k y (List.mem_cons_of_mem _ hy)) (by omega)
      exact ⟨t2, by rw [r, List.filter_cons_of_neg (by rw [ht]; exact Bool.false_ne_true)]⟩
    | true =>
      dsimp only
      rw [e3 ht]
      dsimp only
      have g : (h ++ .lst acc :: t ++ t')[h.length]? = some (.lst acc) := by simp
      rw [g]
      dsimp only
      have hb : acc.length < big := by show acc.length < 1000000; omega
      rw [if_pos hb]
      have es : (h ++ .lst acc :: t ++ t').set h.length (.lst (acc ++ [val x])) = h ++ .lst (acc ++ [val x]) :: (t ++ t') := by simp
      rw [es]
      obtain ⟨t2, r⟩ := lcIn_ok hck xs (acc ++ [val x]) (t ++ t') (fun y hy => k y (List.mem_cons_of_mem _ hy)) (by simp; omega)
      exact ⟨t2, by rw [r, List.filter_cons_of_pos ht, List.map_cons, List.append_assoc]; rfl⟩
/-- two fors: of each x the items ys x, a tuple -/
theorem lc2_okv {fi1 : FI} {gt1 : GT} {ft1 fe : FE} {s0 : DS} {vs1 : List Nat} {ys : D → List D} {val : D → D → D} {tt : D → D → Bool} (hck : ∀ u : Hm, chkB ck (h ++ u) = true) : ∀ (xs acc : List D) (t : Hm),
    (∀ x ∈ xs, ∃ s1 : DS, (∀ u : Hm, gt x s0 (h ++ u) = .nx s1 (h ++ u) ∧ fi1 s1 (h ++ u) = .ok (ys x) none (h ++ u)) ∧
      ∀ y ∈ ys x, ∀ u : Hm, ∃ (s2 : DS) (t' : Hm), gt1 y (wipeD s1 vs1) (h ++ u) = .nx s2 (h ++ u) ∧ ft1 s2 (h ++ u) = .ok (.bl (tt x y)) (h ++ u) ∧ (tt x y = true → fe s2 (h ++ u) = .ok (val x y) (h ++ u ++ t'))) →
    acc.length + (xs.map fun x => (ys x).length).sum < 1000000 →
    ∃ t2, lc2Loop ck gt (eC (.bl true)) fi1 gt1 ft1 fe h.length s0 vs1 xs (h ++ .lst acc :: t) = .ok (.ref h.length) (h ++ .lst (acc ++ (xs.map fun x => ((ys x).filter (tt x)).map (val x)).flatten) :: t2)
  | [], acc, t, _, _ => ⟨t, by
      unfold lc2Loop
      rw [if_pos (hck _)]
      simp⟩
  | x :: xs, acc, t, k, hl => by
    simp only [List.map_cons, List.sum_cons] at hl
    obtain ⟨s1, e1, e2⟩ := k x (List.mem_cons_self ..)
    obtain ⟨t1, r1⟩ := lcIn_ok (ck := none) (gt := gt1) (ft := ft1) (fe := fe) (s0 := wipeD s1 vs1) (val := val x) (tt := tt x) (fun _ => rfl) (ys x) acc t e2 (by omega)
    have hfl : (((ys x).filter (tt x)).map (val x)).length ≤ (ys x).length := by rw [List.length_map]; exact List.length_filter_le ..
    obtain ⟨t2, r⟩ := lc2_okv hck xs (acc ++ ((ys x).filter (tt x)).map (val x)) t1 (fun y hy => k y (List.mem_cons_of_mem _ hy)) (by rw [List.length_append]; omega)
    refine ⟨t2, ?_⟩
    unfold lc2Loop
    rw [if_pos (hck _), (e1 _).1]
    dsimp only
    rw [x_c]
    dsimp only
    rw [(e1 _).2]
    dsimp only
    rw [r1]
    dsimp only
    rw [r, List.map_cons, List.flatten_cons, List.append_assoc]
theorem elc2_ok {fi1 : FI} {gt1 : GT} {ft1 fe : FE} {own vs1 : List Nat} {ys : D → List D} {val : D → D → D} {tt : D → D → Bool} {xs : List D} (ef : fi s h = .ok xs ck h) (hck : ∀ u : Hm, chkB ck (h ++ u) = true)
    (k : ∀ x ∈ xs, ∃ s1 : DS, (∀ u : Hm, gt x (wipeD s own) (h ++ u) = .nx s1 (h ++ u) ∧ fi1 s1 (h ++ u) = .ok (ys x) none (h ++ u)) ∧
      ∀ y ∈ ys x, ∀ u : Hm, ∃ (s2 : DS) (t' : Hm), gt1 y (wipeD s1 vs1) (h ++ u) = .nx s2 (h ++ u) ∧ ft1 s2 (h ++ u) = .ok (.bl (tt x y)) (h ++ u) ∧ (tt x y = true → fe s2 (h ++ u) = .ok (val x y) (h ++ u ++ t')))
    (hl : (xs.map fun x => (ys x).length).sum < 1000000) :
    ∃ t2, eLc2 fi gt (eC (.bl true)) fi1 gt1 ft1 fe own vs1 s h = .ok (.ref h.length) (h ++ .lst ((xs.map fun x => ((ys x).filter (tt x)).map (val x)).flatten) :: t2) := by
  obtain ⟨t2, r⟩ := lc2_okv (s0 := wipeD s own) hck xs [] [] k (by simpa using hl)
  refine ⟨t2, ?_⟩
  unfold eLc2
  rw [ef]
  dsimp only
  rw [r, List.nil_append]
end
end Sh

set_option Elab.async false
set_option linter.all false
set_option maxRecDepth 100000
set_option maxHeartbeats 4000000
/-! Lists of ints: sum, max, min, count; index of flat things; l[i] = e. -/
namespace Sh
open PySem L2 PyProof.Rows
theorem intsD_map (ns : List Int) : intsD (ns.map D.int) = some ns := by
  induction ns with
  | nil => rfl
  | cons a l ih => simp [intsD, ih]
/-- a function of a list of ints -/
def bInts (g : List Int → Option Int) (ds : List D) (h : Hm) : RD := match ds with
  | [.ref k] => match h[k]? with
    | some (.lst xs) => match intsD xs with
      | some ns => match g ns with
        | some i => .ok (.int i) h
        | none => .bad
      | none => .bad
    | _ => .bad
  | _ => .bad
def mxI : List Int → Int
  | [] => 0
  | a :: r => r.foldr max a
def mnI : List Int → Int
  | [] => 0
  | a :: r => r.foldr min a
theorem mxI_mem : ∀ {l : List Int}, l ≠ [] → mxI l ∈ l ∧ ∀ y ∈ l, y ≤ mxI l
  | [], h => absurd rfl h
  | a :: r, _ => by
    show r.foldr max a ∈ a :: r ∧ _
    have hh : r.foldr max a ∈ a :: r ∧ ∀ y ∈ a :: r, y ≤ r.foldr max a := by
      induction r with
      | nil => simp
      | cons b t ih =>
        rw [List.foldr_cons]
        obtain ⟨h1, h2⟩ := ih (List.cons_ne_nil _ _)
        refine ⟨?_, fun y hy => ?_⟩
        · rcases Int.le_total b (t.foldr max a) with h | h
          · rw [Int.max_eq_right h]
            rcases List.mem_cons.mp h1 with h1 | h1
            · rw [h1]; exact List.mem_cons_self
            · exact List.mem_cons_of_mem _ (List.mem_cons_of_mem _ h1)
          · rw [Int.max_eq_left h]
            exact List.mem_cons_of_mem _ List.mem_cons_self
        · rcases List.mem_cons.mp hy with rfl | hy
          · exact Int.le_trans (h2 y List.mem_cons_self) (Int.le_max_right _ _)
          · rcases List.mem_cons.mp hy with rfl | hy
            · exact Int.le_max_left _ _
            · exact Int.le_trans (h2 y (List.mem_cons_of_mem _ hy)) (Int.le_max_right _ _)
    exact hh
theorem mnI_mem : ∀ {l : List Int}, l ≠ [] → mnI l ∈ l ∧ ∀ y ∈ l, mnI l ≤ y
  | [], h => absurd rfl h
  | a :: r, _ => by
    show r.foldr min a ∈ a :: r ∧ _
    have hh : r.foldr min a ∈ a :: r ∧ ∀ y ∈ a :: r, r.foldr min a ≤ y := by
      induction r with
      | nil => simp
      | cons b t ih =>
        rw [List.foldr_cons]
        obtain ⟨h1, h2⟩ := ih (List.cons_ne_nil _ _)
        refine ⟨?_, fun y hy => ?_⟩
        · rcases Int.le_total (t.foldr min a) b with h | h
          · rw [Int.min_eq_right h]
            rcases List.mem_cons.mp h1 with h1 | h1
            · rw [h1]; exact List.mem_cons_self
            · exact List.mem_cons_of_mem _ (List.mem_cons_of_mem _ h1)
          · rw [Int.min_eq_left h]
            exact List.mem_cons_of_mem _ List.mem_cons_self
        · rcases List.mem_cons.mp hy with rfl | hy
          · exact Int.le_trans (Int.min_le_right _ _) (h2 y List.mem_cons_self)
          · rcases List.mem_cons.mp hy with rfl | hy
            · exact Int.min_le_left _ _
            · exact Int.le_trans (Int.min_le_right _ _) (h2 y (List.mem_cons_of_mem _ hy))
    exact hh
abbrev bSum := bInts fun ns => some ns.sum
abbrev bMax := bInts fun ns => if ns = [] then none else some (mxI ns)
abbrev bMin := bInts fun ns => if ns = [] then none else some (mnI ns)
section
variable {X : Cx}
theorem cs_ints {r : List V → Hp → VK → Prop} (g : List Int → Option Int) (k : ∀ (a : Addr) (ns : List Int) (i : Int) (H : Hp) (Q : VK), SqL X.K H a (ns.map V.int) → g ns = some i → Q (.int i) H → r [V.ref a] H Q) : CallS X r (bInts g) := by
  intro W m H h vs ds Q r rv p
  unfold bInts at p
  split at p
  · split at p
    · rename_i k' xs hk
      split at p
      · rename_i bs hb
        split at p
        · rename_i i hi
          cases rv with
          | cons r1 r2 =>
            cases r2
            obtain ⟨a, rfl, hm⟩ := r1.ref_inv
            obtain ⟨ws, q1, q2⟩ := r.ob _ _ _ hm hk
            exact k a bs i H Q (.inl (.inl (by rw [q1, intsD_rep q2 hb]))) hi (p.val r (.int _))
        · exact False.elim p
      · exact False.elim p
    · exact False.elim p
  · exact False.elim p
theorem cs_sum : CallS X (rSum X.K) bSum := cs_ints _ fun a ns i H Q h e q => ⟨a, ns, rfl, h, by cases e; exact q⟩
theorem cs_max : CallS X (rMax X.K) bMax := cs_ints _ fun a ns i H Q h e q => by
  by_cases z : ns = []
  · rw [if_pos z] at e; cases e
  · rw [if_neg z] at e
    cases e
    refine ⟨a, ns, rfl, h, List.length_pos_iff.mpr z, fun m h1 h2 => ?_⟩
    have e : m = mxI ns := Int.le_antisymm ((mxI_mem z).2 m h1) (h2 _ (mxI_mem z).1)
    rw [e]
    exact q
theorem cs_min : CallS X (rMin X.K) bMin := cs_ints _ fun a ns i H Q h e q => by
  by_cases z : ns = []
  · rw [if_pos z] at e; cases e
  · rw [if_neg z] at e
    cases e
    refine ⟨a, ns, rfl, h, List.length_pos_iff.mpr z, fun m h1 h2 => ?_⟩
    have e : m = mnI ns := Int.le_antisymm (h2 _ (mnI_mem z).1) ((mnI_mem z).2 m h1)
    rw [e]
    exact q
/-- max(i, j), min(i, j) -/
def bTwo (g : Int → Int → Int) (ds : List D) (h : Hm) : RD := match ds with
  | [.int i, .int j] => .ok (.int (g i j)) h
  | _ => .bad
theorem cs_two (g : Int → Int → Int) : CallS X (fun xs H Q => ∃ i j, xs = [.int i, .int j] ∧ Q (.int (g i j)) H) (bTwo g) := by
  intro W m H h vs ds Q r rv p
  unfold bTwo at p
  split at p
  · cases rv with | cons r1 r2 => cases r2 with | cons r2 r3 => cases r3; cases r1; cases r2; exact ⟨_, _, rfl, p.val r (.int _)⟩
  · exact False.elim p
abbrev bMax2 := bTwo fun i j => if j > i then j else i
abbrev bMin2 := bTwo fun i j => if j < i then j else i
/-- xs.index(x), flat things, x there -/
def lIndex (n : Nat) (xs ds : List D) (h : Hm) : RD := match ds with
  | [d] => if flatD d = true ∧ xs.all flatD = true then (match xs.findIdx? (fun z => eqF z d) with
    | some j => .ok (.int j) h
    | none => .bad) else .bad
  | _ => .bad
theorem ls_index : LmS X (rIndex X.K) lIndex := by
  intro W m H h n a xs us vs ds Q r hm hk hu l1 l2 p
  unfold lIndex at p
  split at p
  · rename_i d
    split at p
    · rename_i hf
      split at p
      · rename_i j hj
        cases l2 with
        | cons rv rn =>
          cases rn
          rename_i y
          obtain ⟨h1, h2, h3⟩ := List.findIdx?_eq_some_iff_getElem.mp hj
          obtain ⟨z, e1, e2⟩ := l1.get (List.getElem?_eq_getElem h1)
          refine ⟨a, us, y, j, z, rfl, rfl, .inl (.inl hu), flat_rep rv hf.1, flat_repL l1 hf.2, e1, by rw [eqF_rep e2 rv]; exact h2, fun i z' hi hz' => ?_, p.val r (.int _)⟩
          obtain ⟨d', e3, e4⟩ := l1.get' hz'
          rw [eqF_rep e4 rv]
          obtain ⟨h5, h6⟩ := List.getElem?_eq_some_iff.mp e3
          rw [← h6]
          simpa using h3 i hi
      · exact False.elim p
    · exact False.elim p
  · exact False.elim p
/-- xs.count(k) of ints -/
def lCount (n : Nat) (xs ds : List D) (h : Hm) : RD := match ds with
  | [.int k] => match intsD xs with
    | some ns => .ok (.int (ns.count k : Nat)) h
    | none => .bad
  | _ => .bad
theorem ls_count : LmS X (rCntI X.K) lCount := by
  intro W m H h n a xs us vs ds Q r hm hk hu l1 l2 p
  unfold lCount at p
  split at p
  · split at p
    · rename_i ns hn
      cases l2 with
      | cons rv rn =>
        cases rn
        cases rv
        exact ⟨a, ns, _, rfl, rfl, .inl (.inl (by rw [hu, intsD_rep l1 hn])), p.val r (.int _)⟩
    · exact False.elim p
  · exact False.elim p
variable {W : WX} {o i e : Expr} {fo fi f : FE} {pos pos' : Pos}
/-- l[i] = v, l a list -/
def gLput (fo fi fv : FE) : FS := fun s h => (fv s h).st s fun v h1 => (fo s h1).st s fun d h2 => (fi s h2).st s fun y h3 => match d, y with
  | .ref n, .int k => (match h3[n]? with
    | some (.lst xs) => (match ixN xs.length k with
      | some j => .nx s (h3.set n (.lst (xs.set j v)))
      | none => .bad)
    | _ => .bad)
  | _, _ => .bad
theorem ss_lput (ho : SE X W o fo) (hi : SE X W i fi) (hv : SE X W e f) (hs : swapsWithSole [.Subscript o i pos'] e pos.line X.env = pure false := by rfl) (hw : swappedStores [.Subscript o i pos'] e X.env = pure none := by rfl)
    (h1 : (assignEach [.Subscript o i pos'] X.env).map (·.2) = [assign (.Subscript o i pos') X.env] := by rfl)
    (ha : ∀ v, assign (.Subscript o i pos') X.env v = (do
      let ov ← holding [v] (eval o X.env)
      let iv ← holding [v, ov] (eval i X.env)
      standAt pos'
      holding [v, ov, iv] (setItem ov iv v)
      release [v, ov, iv] []) := by intro _; rfl) : SS X W (.Assign [.Subscript o i pos'] e pos) (gLput fo fi f) := by
  refine PS.imp (ps_asg hv (pg_sub ho hi set_list ha) hs hw h1) fun D σ H h => ?_
  obtain ⟨m, s, h, R0, rs, p⟩ := h
  refine ⟨m, s, h, R0, rs, PostE.mono (PostS.ofE rs p) ?_⟩
  rintro v H1 ⟨m1, dv, h1, g1, R1, rv, p1⟩
  refine ⟨m1, s, h1, R1, rs.grow g1, PostE.mono (PostS.ofE (rs.grow g1) p1) ?_⟩
  rintro x H2 ⟨m2, dx, h2, g2, R2, rx, p2⟩
  refine ⟨m2, s, h2, R2, (rs.grow g1).grow g2, PostE.mono (PostS.ofE ((rs.grow g1).grow g2) p2) ?_⟩
  rintro y H3 ⟨m3, dy, h3, g3, R3, ry, p3⟩
  split at p3
  · split at p3
    · rename_i n k xs hn
      split at p3
      · rename_i j hj
        obtain ⟨a, rfl, hm⟩ := (rx.grow g3).ref_inv
        obtain ⟨us, q1, q2⟩ := R3.ob _ _ _ hm hn
        cases ry
        refine ⟨a, us, _, j, rfl, rfl, q1, by rw [q2.length]; exact hj, ?_⟩
        obtain ⟨g4, R4⟩ := R3.lset hm hn (q2.set (rv.grow (g2.trans g3)) j)
        exact p3 m3 _ σ g4 R4 ((rs.grow (g1.trans (g2.trans g3))).grow g4)
      · exact False.elim p3
    · exact False.elim p3
  · exact False.elim p3
/-- a, b = x, y: both ahead, then both names -/
def gPar (i j : Nat) (fa fb : FE) : FS := fun s h => (fa s h).st s fun x h1 => (fb s h1).st s fun y h2 => .nx ((s.set i (some x)).set j (some y)) h2
theorem ss_par {i j : Nat} {x y : Str} {a b : Expr} {fa fb : FE} {px py pt : Pos} {kt k2 pt2} (hc : X.calm = true) (hN : X.N.Nodup) (hi : X.N[i]? = some x) (hj : X.N[j]? = some y) (hij : i ≠ j)
    (hx : X.env.scope.names.lookup x = some .local) (hy : X.env.scope.names.lookup y = some .local) (ha : SE X W a fa) (hb : SE X W b fb)
    (hw : swappedStores [.Tuple [.Name x px, .Name y py] kt pt] (.Tuple [a, b] k2 pt2) X.env = pure (some [x, y]))
    (hs : swapsWithSole [.Tuple [.Name x px, .Name y py] kt pt] (.Tuple [a, b] k2 pt2) pos.line X.env = pure false := by rfl)
    (h1 : starEach [a, b] X.env = (false, eval a X.env) :: starEach [b] X.env := by rfl) (h2 : starEach [b] X.env = (false, eval b X.env) :: starEach [] X.env := by rfl) :
    SS X W (.Assign [.Tuple [.Name x px, .Name y py] kt pt] (.Tuple [a, b] k2 pt2) pos) (gPar i j fa fb) := by
  refine PS.imp (ps_par hc hN hi hj hij hx hy (sa_cons ha (sa_cons hb sa_nil h2) h1) hw hs) fun D σ H h => ?_
  obtain ⟨m, s, h, R0, rs, p⟩ := h
  refine ⟨m, s, h, R0, rs, ?_⟩
  unfold gPar at p
  simp only [evalL]
  generalize fa s h = r1 at p
  cases r1 with
  | ok x h1 =>
    simp only [RD.st_ok] at p
    dsimp only
    generalize fb s h1 = r2 at p
    cases r2 with
    | ok y h2 =>
      intro m1 H1 vs g1 R1 rvs
      cases rvs with
      | cons rv t =>
        cases t with
        | cons rw t =>
          cases t
          exact ⟨_, _, rfl, p m1 H1 _ g1 R1 (((rs.grow g1).set i rv).set j rw)⟩
    | exc c fs h2 => exact fun m1 H1 cls dx g1 R1 ex => p m1 H1 σ cls dx g1 R1 (rs.grow g1) ex
    | bad => exact p
  | exc c fs h2 => exact fun m1 H1 cls dx g1 R1 ex => p m1 H1 σ cls dx g1 R1 (rs.grow g1) ex
  | bad => exact p
end
end Sh

set_option Elab.async false
set_option linter.all false
set_option maxRecDepth 100000
set_option maxHeartbeats 4000000
/-! What a mirror comes to, statement by statement: OK of expressions, NX of statements. -/
namespace Sh
open PySem L2 PyProof.Rows
inductive OK : RD → (D → Hm → Prop) → Prop
  | mk {d : D} {h : Hm} {Q : D → Hm → Prop} (q : Q d h) : OK (.ok d h) Q
def BL (d : D) (P : Bool → Prop) : Prop := match d with
  | .bl p => P p
  | _ => False
inductive NX : RT → (DS → Hm → Prop) → (D → Hm → Prop) → Prop
  | nx {s : DS} {h : Hm} {N : DS → Hm → Prop} {T : D → Hm → Prop} (q : N s h) : NX (.nx s h) N T
  | rt {d : D} {h : Hm} {N : DS → Hm → Prop} {T : D → Hm → Prop} (q : T d h) : NX (.rt d h) N T
section
variable {r : RD} {Q Q' : D → Hm → Prop} {d : D} {h h1 : Hm} {k : D → Hm → RD} {kb : Bool → Hm → RD} {P : Prop} [Decidable P] {a b : RD} {N N' : DS → Hm → Prop} {T T' : D → Hm → Prop} {s : DS}
theorem ok_ok : OK (.ok d h) Q = Q d h := propext ⟨fun x => (by cases x with | mk q => exact q), .mk⟩
theorem ok_bind : OK (r.bind k) Q = OK r fun d h => OK (k d h) Q := by
  cases r with
  | ok d h => rw [RD.bind_ok, ok_ok]
  | exc c fs h => exact propext ⟨fun x => (by cases x), fun x => (by cases x)⟩
  | bad => exact propext ⟨fun x => (by cases x), fun x => (by cases x)⟩
theorem ok_tb : OK (r.tb kb) Q = OK r fun d h => BL d fun p => OK (kb p h) Q := by
  cases r with
  | ok d h =>
    rw [ok_ok]
    cases d with
    | bl p => rfl
    | _ => exact propext ⟨fun x => (by cases x), fun x => False.elim x⟩
  | exc c fs h => exact propext ⟨fun x => (by cases x), fun x => (by cases x)⟩
  | bad => exact propext ⟨fun x => (by cases x), fun x => (by cases x)⟩
theorem bl_bl {p : Bool} {P : Bool → Prop} : BL (.bl p) P = P p := rfl
theorem ok_ite : OK (if P then a else b) Q = ((P → OK a Q) ∧ (¬ P → OK b Q)) := by
  by_cases h : P <;> simp [h]
theorem OK.mono (x : OK r Q) (k : ∀ d h, Q d h → Q' d h) : OK r Q' := by
  cases x with
  | mk q => exact .mk (k _ _ q)
theorem OK.get (x : OK r Q) : ∃ d h, r = .ok d h ∧ Q d h := by
  cases x with
  | mk q => exact ⟨_, _, rfl, q⟩
theorem OK.of (e : r = .ok d h) (q : Q d h) : OK r Q := by
  rw [e]
  exact .mk q
theorem NX.mono {r : RT} (x : NX r N T) (k : ∀ s h, N s h → N' s h) (k' : ∀ d h, T d h → T' d h) : NX r N' T' := by
  cases x with
  | nx q => exact .nx (k _ _ q)
  | rt q => exact .rt (k' _ _ q)
variable {f c fo fi : FE} {g ga gb : FS} {i : Nat}
theorem nx_seq (x : NX (ga s h) (fun s1 h1 => NX (gb s1 h1) N T) T) : NX (gSeq ga gb s h) N T := by
  rw [x_seq]
  generalize ga s h = r at x
  cases x with
  | nx q => exact q
  | rt q => exact .rt q
theorem nx_set (x : OK (f s h) fun d h1 => N (s.set i (some d)) h1) : NX (gSet i f s h) N T := by
  rw [x_set]
  obtain ⟨d, h1, e, q⟩ := x.get
  rw [e]
  exact .nx q
theorem nx_ret (x : OK (f s h) T) : NX (gRet f s h) N T := by
  rw [x_ret]
  obtain ⟨d, h1, e, q⟩ := x.get
  rw [e]
  exact .rt q
theorem nx_drop (x : OK (f s h) fun _ h1 => N s h1) : NX (gDrop f s h) N T := by
  rw [x_drop]
  obtain ⟨d, h1, e, q⟩ := x.get
  rw [e]
  exact .nx q
theorem nx_next (x : N s h) : NX (gNext s h) N T := .nx x
theorem nx_if (x : OK (c s h) fun d h1 => BL d fun p => (p = true → NX (ga s h1) N T) ∧ (p = false → NX (gb s h1) N T)) : NX (gIf c ga gb s h) N T := by
  rw [x_if]
  obtain ⟨d, h1, e, q⟩ := x.get
  rw [e]
  cases d with
  | bl p =>
    cases p with
    | true => exact q.1 rfl
    | false => exact q.2 rfl
  | _ => exact False.elim q
/-- the condition's value is known -/
theorem nx_ifT (e : c s h = .ok (.bl true) h1) (x : NX (ga s h1) N T) : NX (gIf c ga gb s h) N T := by
  rw [x_if, e]
  exact x
theorem nx_ifF (e : c s h = .ok (.bl false) h1) (x : NX (gb s h1) N T) : NX (gIf c ga gb s h) N T := by
  rw [x_if, e]
  exact x
theorem nx_ifP {p : Prop} [Decidable p] (e : c s h = .ok (.bl (decide p)) h1) (x : p → NX (ga s h1) N T) (y : ¬ p → NX (gb s h1) N T) : NX (gIf c ga gb s h) N T := by
  by_cases hp : p
  · exact nx_ifT (by rw [e, decide_eq_true hp]) (x hp)
  · exact nx_ifF (by rw [e, decide_eq_false hp]) (y hp)
def lputK (d y v : D) (s : DS) (h3 : Hm) : RT := match d, y with
  | .ref n, .int k => (match h3[n]? with
    | some (.lst xs) => (match ixN xs.length k with
      | some j => .nx s (h3.set n (.lst (xs.set j v)))
      | none => .bad)
    | _ => .bad)
  | _, _ => .bad
theorem ixN_nat {n j : Nat} (e : j < n) : ixN n (j : Int) = some j := by
  unfold ixN
  have h0 : (0 : Int) ≤ (j : Int) := Int.natCast_nonneg j
  have h1 : (j : Int) < (n : Int) := Int.ofNat_lt.mpr e
  rw [if_pos h0, if_pos h1]
  rfl
theorem nx_lput {fv : FE} (x : OK (fv s h) fun v h1 => OK (fo s h1) fun d h2 => OK (fi s h2) fun y h3 => ∃ (n j : Nat) (xs : List D), d = .ref n ∧ y = .int j ∧ h3[n]? = some (.lst xs) ∧ j < xs.length ∧ N s (h3.set n (.lst (xs.set j v)))) : NX (gLput fo fi fv s h) N T := by
  unfold gLput
  obtain ⟨v, h1, e1, q⟩ := x.get
  obtain ⟨d, h2, e2, q⟩ := q.get
  obtain ⟨y, h3, e3, n, j, xs, rfl, rfl, e4, e5, q⟩ := q.get
  rw [e1, RD.st_ok, e2, RD.st_ok, e3, RD.st_ok]
  dsimp only
  rw [e4]
  dsimp only
  rw [ixN_nat e5]
  exact .nx q
/-- a def -/
theorem ok_run {n : Nat} {g : FS} {ds : List D} (x : NX (g (ds.map some ++ List.replicate (n - ds.length) none) h) (fun _ h1 => Q .non h1) Q) : OK (runB n g ds h) Q := by
  rw [x_run]
  generalize g (ds.map some ++ List.replicate (n - ds.length) none) h = r at x
  cases x with
  | nx q => exact .mk q
  | rt q => exact .mk q
/-- for i in range(n): an invariant I i s h before the turn i -/
theorem nx_loopR {gt : GT} {ck : Option (Nat × List D)} (I : Nat → DS → Hm → Prop) {n : Nat} (val : Nat → D) (hck : ∀ j s h, I j s h → chkB ck h = true)
    (turn : ∀ j s h, j < n → I j s h → ∃ s1, gt (val j) s h = .nx s1 h ∧ NX (gb s1 h) (I (j + 1)) T) : ∀ (m j : Nat) (s : DS) (h : Hm), j + m = n → I j s h → (∀ s h, I n s h → N s h) → NX (loopG ck gt gb ((List.range' j m).map val) s h) N T
  | 0, j, s, h, e, i0, fin => by
    rw [List.range'_zero, List.map_nil, loop_nil (hck _ _ _ i0)]
    have : j = n := by omega
    subst this
    exact .nx (fin _ _ i0)
  | m + 1, j, s, h, e, i0, fin => by
    obtain ⟨s1, e1, x⟩ := turn j s h (by omega) i0
    rw [List.range'_succ, List.map_cons, loop_cons (hck _ _ _ i0) e1]
    generalize gb s1 h = r at x
    cases x with
    | nx q => exact nx_loopR I val hck turn m (j + 1) _ _ (by omega) q fin
    | rt q => exact .rt q
theorem nx_forR {v : Nat} (I : Nat → DS → Hm → Prop) {n : Nat} (hn : n < 1000000) (e : f s h = .ok (.int (n : Int)) h1) (i0 : I 0 s h1)
    (turn : ∀ j s h, j < n → I j s h → NX (gb (s.set v (some (.int (j : Nat)))) h) (I (j + 1)) T) (fin : ∀ s h, I n s h → N s h) : NX (gFor (fiRg [f]) (tName v) gb s h) N T := by
  rw [for_ok (fi_rg e (by omega) (by omega)), Int.toNat_natCast, List.range_eq_range']
  exact nx_loopR I (fun i => D.int (i : Nat)) (fun _ _ _ _ => rfl) (fun j s h hj hi => ⟨_, rfl, turn j s h hj hi⟩) n 0 s h1 (by omega) i0 fin
/-- [e for i in range(n)], e with effects -/
theorem ok_lcR {gt : GT} {ft fe : FE} {p n : Nat} {s0 : DS} (I : Nat → List D → Hm → Prop) (hb : n < 1000000) (hl : ∀ j acc h, I j acc h → acc.length = j ∧ h[p]? = some (.lst acc))
    (turn : ∀ j acc h, j < n → I j acc h → ∃ s1, gt (.int (j : Nat)) s0 h = .nx s1 h ∧ ft s1 h = .ok (.bl true) h ∧ OK (fe s1 h) fun d h3 => h3[p]? = some (.lst acc) ∧ I (j + 1) (acc ++ [d]) (h3.set p (.lst (acc ++ [d])))) :
    ∀ (m j : Nat) (acc : List D) (h : Hm), j + m = n → I j acc h → (∀ acc h, I n acc h → Q (.ref p) h) → OK (lcLoop none gt ft fe p s0 ((List.range' j m).map fun i => D.int (i : Nat)) h) Q
  | 0, j, acc, h, e, i0, fin => by
    rw [List.range'_zero, List.map_nil]
    unfold lcLoop
    rw [if_pos chk_none]
    have : j = n := by omega
    subst this
    exact .mk (fin _ _ i0)
  | m + 1, j, acc, h, e, i0, fin => by
    obtain ⟨s1, e1, e2, x⟩ := turn j acc h (by omega) i0
    obtain ⟨d, h3, e3, e4, q⟩ := x.get
    rw [List.range'_succ, List.map_cons]
    unfold lcLoop
    rw [if_pos chk_none, e1]
    dsimp only
    rw [e2]
    dsimp only
    rw [e3]
    dsimp only
    rw [e4]
    dsimp only
    have hlt : acc.length < big := by
      have := (hl _ _ _ i0).1
      show acc.length < 1000000
      omega
    rw [if_pos hlt]
    exact ok_lcR I hb hl turn m (j + 1) _ _ (by omega) q fin
theorem ok_elcR {v n : Nat} {ft fe : FE} {own : List Nat} (I : Nat → List D → Hm → Prop) (hb : n < 1000000) (e : f s h = .ok (.int (n : Int)) h1) (i0 : I 0 [] (h1 ++ [.lst []])) (hl : ∀ j acc h, I j acc h → acc.length = j ∧ h[h1.length]? = some (.lst acc))
    (turn : ∀ j acc h, j < n → I j acc h → ft ((wipeD s own).set v (some (.int (j : Nat)))) h = .ok (.bl true) h ∧ OK (fe ((wipeD s own).set v (some (.int (j : Nat)))) h) fun d h3 => h3[h1.length]? = some (.lst acc) ∧ I (j + 1) (acc ++ [d]) (h3.set h1.length (.lst (acc ++ [d]))))
    (fin : ∀ acc h, I n acc h → Q (.ref h1.length) h) : OK (eLc (fiRg [f]) (tName v) ft fe own s h) Q := by
  unfold eLc
  rw [fi_rg e (by omega) (by omega)]
  dsimp only
  rw [Int.toNat_natCast, List.range_eq_range']
  exact ok_lcR I hb hl (fun j acc h hj hi => ⟨_, rfl, turn j acc h hj hi⟩) n 0 [] _ (by omega) i0 fin
end
/-! two lists of ints -/
theorem mapO_ints (n : Nat) (h : Hm) : ∀ l : List Int, mapO (toPy n h) (l.map D.int) = some (l.map PyData.int)
  | [] => rfl
  | p :: ps => by
    have e : toPy n h (.int p) = some (.int p) := by cases n <;> rfl
    simp only [List.map_cons, mapO, e, mapO_ints n h ps]
theorem toPy_ints {n : Nat} {h : Hm} {l : List Int} (e : h[n]? = some (.lst (l.map D.int))) : toPy 20 h (.ref n) = some (.list (l.map PyData.int)) := by
  show (match h[n]? with
    | some (.lst ds) => (mapO (toPy 19 h) ds).map PyData.list
    | some (.scr ds) => (mapO (toPy 19 h) ds).map PyData.list
    | _ => none) = _
  rw [e]
  dsimp only
  rw [mapO_ints]
  rfl
theorem lay_ints : ∀ l : List Int, PyData.canLayAll0 (l.map PyData.int) = true
  | [] => rfl
  | p :: ps => by
    rw [List.map_cons, PyData.canLayAll0, lay_ints ps, Bool.and_true]
    rfl
theorem dep_ints : ∀ l : List Int, PyData.depthAll (l.map PyData.int) = 0
  | [] => rfl
  | p :: ps => by
    rw [List.map_cons, PyData.depthAll, dep_ints ps]
    rfl
theorem shaped_ints (l : List Int) : SeqAt.shaped (.list (l.map PyData.int)) = true := by
  have e1 : PyData.canLay0 (.list (l.map PyData.int)) = true := lay_ints l
  have e2 : PyData.depth (.list (l.map PyData.int)) = 1 := by
    show PyData.depthAll (l.map PyData.int) + 1 = 1
    rw [dep_ints]
  simp only [SeqAt.shaped, e1, e2]
  decide
theorem eqv_ints : ∀ l r : List Int, PyData.eqvAll (l.map PyData.int) (r.map PyData.int) = decide (l = r)
  | [], [] => rfl
  | [], b :: r => rfl
  | a :: l, [] => rfl
  | a :: l, b :: r => by
    rw [List.map_cons, List.map_cons, PyData.eqvAll, eqv_ints l r]
    show ((a == b) && decide (l = r)) = _
    by_cases h1 : a = b
    · subst h1
      simp
    · simp [h1]
theorem eqB_ints {a b : Nat} {h : Hm} {l r : List Int} (ea : h[a]? = some (.lst (l.map D.int))) (eb : h[b]? = some (.lst (r.map D.int))) : eqB h (.ref a) (.ref b) = some (decide (l = r)) := by
  have h1 := toPy_ints ea
  have h2 := toPy_ints eb
  have h3 : SeqAt.shaped (.list (l.map PyData.int)) = true ∧ SeqAt.shaped (.list (r.map PyData.int)) = true := ⟨shaped_ints _, shaped_ints _⟩
  unfold eqB
  simp only [eqSc, h1, h2]
  rw [if_pos h3]
  show some (PyData.eqvAll _ _) = _
  rw [eqv_ints]
theorem eq_ints {a b : Nat} {h : Hm} {l r : List Int} (ea : h[a]? = some (.lst (l.map D.int))) (eb : h[b]? = some (.lst (r.map D.int))) : dEq (.ref a) (.ref b) h = .ok (.bl (decide (l = r))) h := by
  simp only [dEq, eqB_ints ea eb]
theorem ne_ints {a b : Nat} {h : Hm} {l r : List Int} (ea : h[a]? = some (.lst (l.map D.int))) (eb : h[b]? = some (.lst (r.map D.int))) : dNe (.ref a) (.ref b) h = .ok (.bl (!decide (l = r))) h := by
  simp only [dNe, eqB_ints ea eb]
theorem ints_ok {g : List Int → Option Int} {n : Nat} {h : Hm} {l : List Int} {i : Int} (e : h[n]? = some (.lst (l.map D.int))) (eg : g l = some i) : bInts g [.ref n] h = .ok (.int i) h := by
  simp only [bInts, e, intsD_map, eg]
end Sh

set_option Elab.async false
set_option linter.all false
set_option maxRecDepth 100000
set_option maxHeartbeats 4000000
namespace Sh.k48
open PySem L2 PyProof.Rows Sh
def top (i : Nat) : Stmt := PySem.Challenge.pw_spentblocks_k48_whole_lone_life_by_first.main.body.getD i (.Pass ⟨0, 0, 0, 0⟩)
abbrev s__law_digit : Stmt := top 12
abbrev s__law_room : Stmt := top 14
abbrev s__law_great : Stmt := top 15
abbrev s_is_whole : Stmt := top 5
abbrev s_are_rooms : Stmt := top 10
abbrev s_lone_life : Stmt := top 9
abbrev s__law_longest : Stmt := top 16
abbrev s__law_is_life : Stmt := top 13
abbrev s__law_best_first : Stmt := top 17
abbrev s_law : Stmt := top 18
structure Txt (K : PySem.W.Frag) (mg : Str → Option Value) where
  b_all : mg "all" = none
  b_bool : mg "bool" = none
  b_int : mg "int" = none
  b_isinstance : mg "isinstance" = none
  b_len : mg "len" = none
  b_list : mg "list" = none
  b_max : mg "max" = none
  b_min : mg "min" = none
  b_range : mg "range" = none
  b_sum : mg "sum" = none
  c_MOST_ROOM : ∃ t, mg "MOST_ROOM" = some (.int 1000000000 t)
  c_MOST_ROOMS : ∃ t, mg "MOST_ROOMS" = some (.int 100 t)
  e_NoIndex : ExAt K mg "NoIndex"
  e_NoRooms : ExAt K mg "NoRooms"
  f__law_digit : FnAt K mg "_law_digit" "_law_digit" s__law_digit ["pool", "many"]
  f__law_room : FnAt K mg "_law_room" "_law_room" s__law_room ["pool", "kind"]
  f__law_great : FnAt K mg "_law_great" "_law_great" s__law_great ["pool"]
  f_is_whole : FnAt K mg "is_whole" "is_whole" s_is_whole ["thing", "low", "high"]
  f_are_rooms : FnAt K mg "are_rooms" "are_rooms" s_are_rooms ["rooms"]
  f_lone_life : FnAt K mg "lone_life" "lone_life" s_lone_life ["rooms", "at"]
  f__law_longest : FnAt K mg "_law_longest" "_law_longest" s__law_longest ["rooms", "at"]
  f__law_is_life : FnAt K mg "_law_is_life" "_law_is_life" s__law_is_life ["found", "due"]
  f__law_best_first : FnAt K mg "_law_best_first" "_law_best_first" s__law_best_first ["rooms", "at"]
  f_law : FnAt K mg "law" "law" s_law ["script"]
section
variable {P : Program} {w : World} {K : PySem.W.Frag} {mg : Str → Option Value} {base : Heap}
theorem sc__law_digit : FnScope ["pool", "many", "rest", "cells", "at", "cell", "mixed"] ["pool", "many"] (defScope s__law_digit) := ⟨rfl, rfl, rfl, by decide +kernel, rfl, by decide +kernel, by decide +kernel⟩
def g__law_digit : FS := (gSeq (gIf (eBin (dCmp fun i j => decide (j < i)) (eBin dIx (eVar 0) (eC (.int 2))) (eC (.int 0))) (gSeq (gSet 2 (eBin dIx (eVar 0) (eC (.int 2))))
    (gSeq (gLput (eVar 0) (eC (.int 2)) (eBin dDiv (eVar 2) (eVar 1)))
    (gRet (eBin dMod (eArgs bInt [(eVar 2)]) (eVar 1))))) gNext)
    (gSeq (gSet 3 (eBin dIx (eVar 0) (eC (.int 0))))
    (gSeq (gSet 4 (eBin dIx (eVar 0) (eC (.int 1))))
    (gSeq (gLput (eVar 0) (eC (.int 1)) (eBin dAdd (eVar 4) (eC (.int 1))))
    (gSeq (gSet 5 (eBin dAdd (eBin dMul (eC (.int 7)) (eVar 4)) (eC (.int 2))))
    (gSeq (gIf (eBin (dCmp fun i j => decide (i < j)) (eVar 4) (eArgs bLen [(eVar 3)])) (gSet 5 (eBin dIx (eVar 3) (eVar 4))) (gIf (eBin dNe (eVar 3) (eLst [])) (gSet 5 (eBin dAdd (eBin dAdd (eBin dMul (eBin dMod (eArgs bInt [(eBin dIx (eVar 3) (eC (.int 0)))]) (eC (.int 1000003))) (eC (.int 13))) (eBin dMul (eC (.int 7)) (eVar 4))) (eC (.int 2)))) gNext))
    (gSeq (gIf (eBin (dCmp fun i j => decide (j ≤ i)) (eVar 5) (eBin dPow (eC (.int 10)) (eC (.int 18)))) (gSeq (gLput (eVar 0) (eC (.int 2)) (eBin dDiv (eVar 5) (eVar 1)))
    (gRet (eBin dMod (eArgs bInt [(eVar 5)]) (eVar 1)))) gNext)
    (gSeq (gSet 6 (eBin dMod (eArgs bInt [(eBin dAdd (eBin dAdd (eBin dMul (eVar 5) (eC (.int 48271))) (eBin dMul (eVar 4) (eC (.int 7919)))) (eC (.int 30103)))]) (eC (.int 2147483647))))
    (gSeq (gSet 6 (eBin dMod (eArgs bInt [(eBin dMul (eVar 6) (eBin dAdd (eBin dDiv (eVar 6) (eC (.int 1013))) (eC (.int 69623))))]) (eC (.int 2147483629))))
    (gSeq (gSet 6 (eBin dMod (eArgs bInt [(eBin dMul (eVar 6) (eBin dAdd (eBin dDiv (eVar 6) (eC (.int 2011))) (eC (.int 40699))))]) (eC (.int 2147483587))))
    (gRet (eBin dMod (eArgs bInt [(eBin dDiv (eVar 6) (eC (.int 32)))]) (eVar 1)))))))))))))
def m__law_digit : FF := runB 7 g__law_digit
theorem ok__law_digit (T : Txt K mg) : OkF P w K mg base 1 T.f__law_digit.f T.f__law_digit.fd ["pool", "many"] m__law_digit := by
  refine @okS P w K mg base "_law_digit" "_law_digit" s__law_digit T.f__law_digit.f T.f__law_digit.fd ["pool", "many", "rest", "cells", "at", "cell", "mixed"] ["pool", "many"]  0 g__law_digit T.f__law_digit.fn sc__law_digit ?_
  intro cdv A outer s H E hr tk PO
  unfold g__law_digit
  refine sss_cons ?_ ?_
  · refine ss_if ?_ ?_ ?_
    · refine st_cmp op_gt os_cmp ?_ ?_ (nomark _)
      · refine se_ix ?_ ?_
        · exact se_var 0
        · exact se_int
      · exact se_int
    · refine sss_cons ?_ ?_
      · refine ss_set sc__law_digit.nd rfl (by first | exact Or.inl rfl | exact Or.inr rfl) ?_
        refine se_ix ?_ ?_
        · exact se_var 0
        · exact se_int
      · refine sss_cons ?_ ?_
        · refine ss_lput ?_ ?_ ?_
          · exact se_var 0
          · exact se_int
          · refine se_op op_fdivW os_div ?_ ?_
            · exact se_var 2
            · exact se_var 1
        · refine sss_one ?_
          refine ss_ret ?_
          refine se_op op_mod os_mod ?_ ?_
          · refine se_callTy (call_int1) (cs_int) rfl T.b_int rfl ?_
            refine sa_cons ?_ ?_
            · exact se_var 2
            · exact sa_nil
          · exact se_var 1
    · exact sss_nil
  · refine sss_cons ?_ ?_
    · refine ss_set sc__law_digit.nd rfl (by first | exact Or.inl rfl | exact Or.inr rfl) ?_
      refine se_ix ?_ ?_
      · exact se_var 0
      · exact se_int
    · refine sss_cons ?_ ?_
      · refine ss_set sc__law_digit.nd rfl (by first | exact Or.inl rfl | exact Or.inr rfl) ?_
        refine se_ix ?_ ?_
        · exact se_var 0
        · exact se_int
      · refine sss_cons ?_ ?_
        · refine ss_lput ?_ ?_ ?_
          · exact se_var 0
          · exact se_int
          · refine se_op op_add4 os_add ?_ ?_
            · exact se_var 4
            · exact se_int
        · refine sss_cons ?_ ?_
          · refine ss_set sc__law_digit.nd rfl (by first | exact Or.inl rfl | exact Or.inr rfl) ?_
            refine se_op op_add4 os_add ?_ ?_
            · refine se_op op_mul2 os_mul ?_ ?_
              · exact se_int
              · exact se_var 4
            · exact se_int
          · refine sss_cons ?_ ?_
            · refine ss_if ?_ ?_ ?_
              · refine st_cmp op_lt os_cmp ?_ ?_ (nomark _)
                · exact se_var 4
                · refine se_callB (call_len) (cs_len) rfl T.b_len rfl ?_
                  refine sa_cons ?_ ?_
                  · exact se_var 3
                  · exact sa_nil
              · refine sss_one ?_
                refine ss_set sc__law_digit.nd rfl (by first | exact Or.inl rfl | exact Or.inr rfl) ?_
                refine se_ix ?_ ?_
                · exact se_var 3
                · exact se_var 4
              · refine sss_one ?_
                refine ss_if ?_ ?_ ?_
                · refine st_cmp (op_ne2 hr.units) os_ne ?_ ?_ (nomark _)
                  · exact se_var 3
                  · refine se_lst ?_
                    exact sa_nil
                · refine sss_one ?_
                  refine ss_set sc__law_digit.nd rfl (by first | exact Or.inl rfl | exact Or.inr rfl) ?_
                  refine se_op op_add4 os_add ?_ ?_
                  · refine se_op op_add4 os_add ?_ ?_
                    · refine se_op op_mul2 os_mul ?_ ?_
                      · refine se_op op_mod os_mod ?_ ?_
                        · refine se_callTy (call_int1) (cs_int) rfl T.b_int rfl ?_
                          refine sa_cons ?_ ?_
                          · refine se_ix ?_ ?_
                            · exact se_var 3
                            · exact se_int
                          · exact sa_nil
                        · exact se_int
                      · exact se_int
                    · refine se_op op_mul2 os_mul ?_ ?_
                      · exact se_int
                      · exact se_var 4
                  · exact se_int
                · exact sss_nil
            · refine sss_cons ?_ ?_
              · refine ss_if ?_ ?_ ?_
                · refine st_cmp op_ge os_cmp ?_ ?_ (nomark _)
                  · exact se_var 5
                  · refine se_op op_pow os_pow ?_ ?_
                    · exact se_int
                    · exact se_int
                · refine sss_cons ?_ ?_
                  · refine ss_lput ?_ ?_ ?_
                    · exact se_var 0
                    · exact se_int
                    · refine se_op op_fdivW os_div ?_ ?_
                      · exact se_var 5
                      · exact se_var 1
                  · refine sss_one ?_
                    refine ss_ret ?_
                    refine se_op op_mod os_mod ?_ ?_
                    · refine se_callTy (call_int1) (cs_int) rfl T.b_int rfl ?_
                      refine sa_cons ?_ ?_
                      · exact se_var 5
                      · exact sa_nil
                    · exact se_var 1
                · exact sss_nil
              · refine sss_cons ?_ ?_
                · refine ss_set sc__law_digit.nd rfl (by first | exact Or.inl rfl | exact Or.inr rfl) ?_
                  refine se_op op_mod os_mod ?_ ?_
                  · refine se_callTy (call_int1) (cs_int) rfl T.b_int rfl ?_
                    refine sa_cons ?_ ?_
                    · refine se_op op_add4 os_add ?_ ?_
                      · refine se_op op_add4 os_add ?_ ?_
                        · refine se_op op_mul2 os_mul ?_ ?_
                          · exact se_var 5
                          · exact se_int
                        · refine se_op op_mul2 os_mul ?_ ?_
                          · exact se_var 4
                          · exact se_int
                      · exact se_int
                    · exact sa_nil
                  · exact se_int
                · refine sss_cons ?_ ?_
                  · refine ss_set sc__law_digit.nd rfl (by first | exact Or.inl rfl | exact Or.inr rfl) ?_
                    refine se_op op_mod os_mod ?_ ?_
                    · refine se_callTy (call_int1) (cs_int) rfl T.b_int rfl ?_
                      refine sa_cons ?_ ?_
                      · refine se_op op_mul2 os_mul ?_ ?_
                        · exact se_var 6
                        · refine se_op op_add4 os_add ?_ ?_
                          · refine se_op op_fdivW os_div ?_ ?_
                            · exact se_var 6
                            · exact se_int
                          · exact se_int
                      · exact sa_nil
                    · exact se_int
                  · refine sss_cons ?_ ?_
                    · refine ss_set sc__law_digit.nd rfl (by first | exact Or.inl rfl | exact Or.inr rfl) ?_
                      refine se_op op_mod os_mod ?_ ?_
                      · refine se_callTy (call_int1) (cs_int) rfl T.b_int rfl ?_
                        refine sa_cons ?_ ?_
                        · refine se_op op_mul2 os_mul ?_ ?_
                          · exact se_var 6
                          · refine se_op op_add4 os_add ?_ ?_
                            · refine se_op op_fdivW os_div ?_ ?_
                              · exact se_var 6
                              · exact se_int
                            · exact se_int
                        · exact sa_nil
                      · exact se_int
                    · refine sss_one ?_
                      refine ss_ret ?_
                      refine se_op op_mod os_mod ?_ ?_
                      · refine se_callTy (call_int1) (cs_int) rfl T.b_int rfl ?_
                        refine sa_cons ?_ ?_
                        · refine se_op op_fdivW os_div ?_ ?_
                          · exact se_var 6
                          · exact se_int
                        · exact sa_nil
                      · exact se_var 1

theorem sc__law_room : FnScope ["pool", "kind"] ["pool", "kind"] (defScope s__law_room) := ⟨rfl, rfl, rfl, by decide +kernel, rfl, by decide +kernel, by decide +kernel⟩
def g__law_room : FS := (gSeq (gIf (eBin dEq (eVar 1) (eC (.int 1))) (gRet (eArgs m__law_digit [(eVar 0), (eC (.int 10))])) gNext)
    (gSeq (gIf (eBin dEq (eVar 1) (eC (.int 2))) (gRet (eArgs m__law_digit [(eVar 0), (eBin dAdd (eBin dPow (eC (.int 10)) (eC (.int 6))) (eC (.int 1)))])) gNext)
    (gSeq (gIf (eBin dEq (eVar 1) (eC (.int 3))) (gRet (eBin dSub (eBin dPow (eC (.int 10)) (eC (.int 9))) (eArgs m__law_digit [(eVar 0), (eC (.int 40))]))) gNext)
    (gRet (eArgs bInt [(eArgs m__law_digit [(eVar 0), (eBin dAdd (eBin dPow (eC (.int 10)) (eC (.int 9))) (eC (.int 1)))])])))))
def m__law_room : FF := runB 2 g__law_room
theorem ok__law_room (T : Txt K mg) : OkF P w K mg base 2 T.f__law_room.f T.f__law_room.fd ["pool", "kind"] m__law_room := by
  refine @okS P w K mg base "_law_room" "_law_room" s__law_room T.f__law_room.f T.f__law_room.fd ["pool", "kind"] ["pool", "kind"]  1 g__law_room T.f__law_room.fn sc__law_room ?_
  intro cdv A outer s H E hr tk PO
  unfold g__law_room
  refine sss_cons ?_ ?_
  · refine ss_if ?_ ?_ ?_
    · refine st_cmp (op_eq2 hr.units) os_eq ?_ ?_ (nomark _)
      · exact se_var 1
      · exact se_int
    · refine sss_one ?_
      refine ss_ret ?_
      refine se_callA T.f__law_digit (ok__law_digit T) tk (hr.mono (by decide)) rfl ?_
      refine sa_cons ?_ ?_
      · exact se_var 0
      · refine sa_cons ?_ ?_
        · exact se_int
        · exact sa_nil
    · exact sss_nil
  · refine sss_cons ?_ ?_
    · refine ss_if ?_ ?_ ?_
      · refine st_cmp (op_eq2 hr.units) os_eq ?_ ?_ (nomark _)
        · exact se_var 1
        · exact se_int
      · refine sss_one ?_
        refine ss_ret ?_
        refine se_callA T.f__law_digit (ok__law_digit T) tk (hr.mono (by decide)) rfl ?_
        refine sa_cons ?_ ?_
        · exact se_var 0
        · refine sa_cons ?_ ?_
          · refine se_op op_add4 os_add ?_ ?_
            · refine se_op op_pow os_pow ?_ ?_
              · exact se_int
              · exact se_int
            · exact se_int
          · exact sa_nil
      · exact sss_nil
    · refine sss_cons ?_ ?_
      · refine ss_if ?_ ?_ ?_
        · refine st_cmp (op_eq2 hr.units) os_eq ?_ ?_ (nomark _)
          · exact se_var 1
          · exact se_int
        · refine sss_one ?_
          refine ss_ret ?_
          refine se_op op_sub os_sub ?_ ?_
          · refine se_op op_pow os_pow ?_ ?_
            · exact se_int
            · exact se_int
          · refine se_callA T.f__law_digit (ok__law_digit T) tk (hr.mono (by decide)) rfl ?_
            refine sa_cons ?_ ?_
            · exact se_var 0
            · refine sa_cons ?_ ?_
              · exact se_int
              · exact sa_nil
        · exact sss_nil
      · refine sss_one ?_
        refine ss_ret ?_
        refine se_callTy (call_int1) (cs_int) rfl T.b_int rfl ?_
        refine sa_cons ?_ ?_
        · refine se_callA T.f__law_digit (ok__law_digit T) tk (hr.mono (by decide)) rfl ?_
          refine sa_cons ?_ ?_
          · exact se_var 0
          · refine sa_cons ?_ ?_
            · refine se_op op_add4 os_add ?_ ?_
              · refine se_op op_pow os_pow ?_ ?_
                · exact se_int
                · exact se_int
              · exact se_int
            · exact sa_nil
        · exact sa_nil

theorem sc__law_great : FnScope ["pool", "many", "kind", "even", "more", "place", "rooms", "k", "others"] ["pool"] (defScope s__law_great) := ⟨rfl, rfl, rfl, by decide +kernel, rfl, by decide +kernel, by decide +kernel⟩
def g__law_great : FS := (gSeq (gSet 1 (eBin dAdd (eC (.int 1)) (eArgs m__law_digit [(eVar 0), (eC (.int 100))])))
    (gSeq (gIf (eBin dEq (eArgs m__law_digit [(eVar 0), (eC (.int 2))]) (eC (.int 1))) (gSet 1 (eBin dAdd (eC (.int 1)) (eBin dMod (eVar 1) (eC (.int 6))))) gNext)
    (gSeq (gSet 2 (eBin dAdd (eC (.int 1)) (eArgs m__law_digit [(eVar 0), (eC (.int 4))])))
    (gSeq (gSet 3 (eArgs m__law_digit [(eVar 0), (eC (.int 2))]))
    (gSeq (gSet 4 (eArgs m__law_digit [(eVar 0), (eC (.int 7))]))
    (gSeq (gSet 5 (eArgs m__law_digit [(eVar 0), (eVar 1)]))
    (gSeq (gSet 6 (eLst []))
    (gSeq (gFor (fiRg [(eVar 1)]) (tName 7) (gIf (eBin (dCmp fun i j => decide (i < j)) (eVar 7) (eC (.int 12))) (gDrop (eLm lAppend (eVar 6) [(eArgs m__law_room [(eVar 0), (eVar 2)])])) (gDrop (eLm lAppend (eVar 6) [(eBin dMod (eBin dAdd (eBin dMul (eVar 7) (eVar 7)) (eVar 4)) (eC (.int 3)))]))))
    (gSeq (gIf (eBin dEq (eVar 3) (eC (.int 1))) (gSeq (gSet 8 (eBin dSub (eBin dAdd (eBin dSub (eArgs bSum [(eVar 6)]) (eBin dIx (eVar 6) (eVar 5))) (eVar 4)) (eC (.int 3))))
    (gIf (eAnd (eBin (dCmp fun i j => decide (j ≤ i)) (eVar 8) (eC (.int 0))) (eBin (dCmp fun i j => decide (i ≤ j)) (eVar 8) (eBin dPow (eC (.int 10)) (eC (.int 9))))) (gLput (eVar 6) (eVar 5) (eVar 8)) gNext)) gNext)
    (gRet (eVar 6)))))))))))
def m__law_great : FF := runB 9 g__law_great
theorem ok__law_great (T : Txt K mg) : OkF P w K mg base 3 T.f__law_great.f T.f__law_great.fd ["pool"] m__law_great := by
  refine @okS P w K mg base "_law_great" "_law_great" s__law_great T.f__law_great.f T.f__law_great.fd ["pool", "many", "kind", "even", "more", "place", "rooms", "k", "others"] ["pool"]  2 g__law_great T.f__law_great.fn sc__law_great ?_
  intro cdv A outer s H E hr tk PO
  unfold g__law_great
  refine sss_cons ?_ ?_
  · refine ss_set sc__law_great.nd rfl (by first | exact Or.inl rfl | exact Or.inr rfl) ?_
    refine se_op op_add4 os_add ?_ ?_
    · exact se_int
    · refine se_callA T.f__law_digit (ok__law_digit T) tk (hr.mono (by decide)) rfl ?_
      refine sa_cons ?_ ?_
      · exact se_var 0
      · refine sa_cons ?_ ?_
        · exact se_int
        · exact sa_nil
  · refine sss_cons ?_ ?_
    · refine ss_if ?_ ?_ ?_
      · refine st_cmp (op_eq2 hr.units) os_eq ?_ ?_ (nomark _)
        · refine se_callA T.f__law_digit (ok__law_digit T) tk (hr.mono (by decide)) rfl ?_
          refine sa_cons ?_ ?_
          · exact se_var 0
          · refine sa_cons ?_ ?_
            · exact se_int
            · exact sa_nil
        · exact se_int
      · refine sss_one ?_
        refine ss_set sc__law_great.nd rfl (by first | exact Or.inl rfl | exact Or.inr rfl) ?_
        refine se_op op_add4 os_add ?_ ?_
        · exact se_int
        · refine se_op op_mod os_mod ?_ ?_
          · exact se_var 1
          · exact se_int
      · exact sss_nil
    · refine sss_cons ?_ ?_
      · refine ss_set sc__law_great.nd rfl (by first | exact Or.inl rfl | exact Or.inr rfl) ?_
        refine se_op op_add4 os_add ?_ ?_
        · exact se_int
        · refine se_callA T.f__law_digit (ok__law_digit T) tk (hr.mono (by decide)) rfl ?_
          refine sa_cons ?_ ?_
          · exact se_var 0
          · refine sa_cons ?_ ?_
            · exact se_int
            · exact sa_nil
      · refine sss_cons ?_ ?_
        · refine ss_set sc__law_great.nd rfl (by first | exact Or.inl rfl | exact Or.inr rfl) ?_
          refine se_callA T.f__law_digit (ok__law_digit T) tk (hr.mono (by decide)) rfl ?_
          refine sa_cons ?_ ?_
          · exact se_var 0
          · refine sa_cons ?_ ?_
            · exact se_int
            · exact sa_nil
        · refine sss_cons ?_ ?_
          · refine ss_set sc__law_great.nd rfl (by first | exact Or.inl rfl | exact Or.inr rfl) ?_
            refine se_callA T.f__law_digit (ok__law_digit T) tk (hr.mono (by decide)) rfl ?_
            refine sa_cons ?_ ?_
            · exact se_var 0
            · refine sa_cons ?_ ?_
              · exact se_int
              · exact sa_nil
          · refine sss_cons ?_ ?_
            · refine ss_set sc__law_great.nd rfl (by first | exact Or.inl rfl | exact Or.inr rfl) ?_
              refine se_callA T.f__law_digit (ok__law_digit T) tk (hr.mono (by decide)) rfl ?_
              refine sa_cons ?_ ?_
              · exact se_var 0
              · refine sa_cons ?_ ?_
                · exact se_var 1
                · exact sa_nil
            · refine sss_cons ?_ ?_
              · refine ss_set sc__law_great.nd rfl (by first | exact Or.inl rfl | exact Or.inr rfl) ?_
                refine se_lst ?_
                exact sa_nil
              · refine sss_cons ?_ ?_
                · refine ss_for (vs := [7]) (wk := false) PO rfl ?_ ?_ ?_
                  · refine si_rg1 rfl T.b_range ?_
                    refine sa_cons ?_ ?_
                    · exact se_var 1
                    · exact sa_nil
                  · exact sg_name sc__law_great.nd rfl (by first | exact Or.inl rfl | exact Or.inr rfl)
                  · refine sss_one ?_
                    refine ss_if ?_ ?_ ?_
                    · refine st_cmp op_lt os_cmp ?_ ?_ (nomark _)
                      · exact se_var 7
                      · exact se_int
                    · refine sss_one ?_
                      refine ss_expr ?_
                      refine se_lm PySem.F.plainAttrs_list PySem.F.slot_list_append PySem.F.type_list_append mt_append ls_append ?_ ?_
                      · exact se_var 6
                      · refine sa_cons ?_ ?_
                        · refine se_callA T.f__law_room (ok__law_room T) tk (hr.mono (by decide)) rfl ?_
                          refine sa_cons ?_ ?_
                          · exact se_var 0
                          · refine sa_cons ?_ ?_
                            · exact se_var 2
                            · exact sa_nil
                        · exact sa_nil
                    · refine sss_one ?_
                      refine ss_expr ?_
                      refine se_lm PySem.F.plainAttrs_list PySem.F.slot_list_append PySem.F.type_list_append mt_append ls_append ?_ ?_
                      · exact se_var 6
                      · refine sa_cons ?_ ?_
                        · refine se_op op_mod os_mod ?_ ?_
                          · refine se_op op_add4 os_add ?_ ?_
                            · refine se_op op_mul2 os_mul ?_ ?_
                              · exact se_var 7
                              · exact se_var 7
                            · exact se_var 4
                          · exact se_int
                        · exact sa_nil
                · refine sss_cons ?_ ?_
                  · refine ss_if ?_ ?_ ?_
                    · refine st_cmp (op_eq2 hr.units) os_eq ?_ ?_ (nomark _)
                      · exact se_var 3
                      · exact se_int
                    · refine sss_cons ?_ ?_
                      · refine ss_set sc__law_great.nd rfl (by first | exact Or.inl rfl | exact Or.inr rfl) ?_
                        refine se_op op_sub os_sub ?_ ?_
                        · refine se_op op_add4 os_add ?_ ?_
                          · refine se_op op_sub os_sub ?_ ?_
                            · refine se_callB (cr_sum rfl) (cs_sum) rfl T.b_sum rfl ?_
                              refine sa_cons ?_ ?_
                              · exact se_var 6
                              · exact sa_nil
                            · refine se_ix ?_ ?_
                              · exact se_var 6
                              · exact se_var 5
                          · exact se_var 4
                        · exact se_int
                      · refine sss_one ?_
                        refine ss_if ?_ ?_ ?_
                        · refine SW.st ?_
                          refine sw_and ?_ ?_
                          · refine st_cmp op_ge os_cmp ?_ ?_ (nomark _)
                            · exact se_var 8
                            · exact se_int
                          · refine sw_and1 ?_
                            refine st_cmp op_le os_cmp ?_ ?_ (nomark _)
                            · exact se_var 8
                            · refine se_op op_pow os_pow ?_ ?_
                              · exact se_int
                              · exact se_int
                        · refine sss_one ?_
                          refine ss_lput ?_ ?_ ?_
                          · exact se_var 6
                          · exact se_var 5
                          · exact se_var 8
                        · exact sss_nil
                    · exact sss_nil
                  · refine sss_one ?_
                    refine ss_ret ?_
                    exact se_var 6

theorem sc_is_whole : FnScope ["thing", "low", "high"] ["thing", "low", "high"] (defScope s_is_whole) := ⟨rfl, rfl, rfl, by decide +kernel, rfl, by decide +kernel, by decide +kernel⟩
def g_is_whole : FS := (gRet (eAnd (eIsi "int" (eVar 0)) (eAnd (eNot (eIsi "bool" (eVar 0))) (eChain (dCmp fun i j => decide (i ≤ j)) (dCmp fun i j => decide (i ≤ j)) (eVar 1) (eVar 0) (eVar 2)))))
def m_is_whole : FF := runB 3 g_is_whole
theorem ok_is_whole (T : Txt K mg) : OkF P w K mg base 1 T.f_is_whole.f T.f_is_whole.fd ["thing", "low", "high"] m_is_whole := by
  refine @okS P w K mg base "is_whole" "is_whole" s_is_whole T.f_is_whole.f T.f_is_whole.fd ["thing", "low", "high"] ["thing", "low", "high"]  0 g_is_whole T.f_is_whole.fn sc_is_whole ?_
  intro cdv A outer s H E hr tk PO
  unfold g_is_whole
  refine sss_one ?_
  refine ss_ret ?_
  refine se_and ?_ ?_
  · refine se_isi ?_ rfl T.b_isinstance rfl rfl T.b_int rfl
    exact se_var 0
  · refine se_and ?_ ?_
    · refine se_not ?_
      refine se_isi ?_ rfl T.b_isinstance rfl rfl T.b_bool rfl
      exact se_var 0
    · refine se_one ?_
      refine se_chain op_le op_le os_cmp os_cmp ?_ ?_ ?_
      · exact se_var 1
      · exact se_var 0
      · exact se_var 2

theorem sc_are_rooms : FnScope ["rooms", "room"] ["rooms"] (defScope s_are_rooms) := ⟨rfl, rfl, rfl, by decide +kernel, rfl, by decide +kernel, by decide +kernel⟩
def g_are_rooms : FS := (gSeq (gIf (eOr (eNot (eIsi "list" (eVar 0))) (eNot (eChain (dCmp fun i j => decide (i ≤ j)) (dCmp fun i j => decide (i ≤ j)) (eC (.int 1)) (eArgs bLen [(eVar 0)]) (eC (.int 100))))) (gRet (eC (.bl false))) gNext)
    (gRet (eArgs bAll [(eLc (fiSeq (eVar 0)) (tName 1) (eC (.bl true)) (eArgs m_is_whole [(eVar 1), (eC (.int 0)), (eC (.int 1000000000))]) [1])])))
def m_are_rooms : FF := runB 2 g_are_rooms
theorem ok_are_rooms (T : Txt K mg) : OkF P w K mg base 2 T.f_are_rooms.f T.f_are_rooms.fd ["rooms"] m_are_rooms := by
  refine @okS P w K mg base "are_rooms" "are_rooms" s_are_rooms T.f_are_rooms.f T.f_are_rooms.fd ["rooms", "room"] ["rooms"]  1 g_are_rooms T.f_are_rooms.fn sc_are_rooms ?_
  intro cdv A outer s H E hr tk PO
  unfold g_are_rooms
  refine sss_cons ?_ ?_
  · refine ss_if ?_ ?_ ?_
    · refine SW.st ?_
      refine sw_or ?_ ?_
      · refine st_not ?_
        refine st_val ?_
        refine se_isi ?_ rfl T.b_isinstance rfl rfl T.b_list rfl
        exact se_var 0
      · refine sw_or1 ?_
        refine st_not ?_
        refine st_chain op_le op_le os_cmp os_cmp ?_ ?_ ?_
        · exact se_int
        · refine se_callB (call_len) (cs_len) rfl T.b_len rfl ?_
          refine sa_cons ?_ ?_
          · exact se_var 0
          · exact sa_nil
        · exact se_gint (t := T.c_MOST_ROOMS.choose) rfl T.c_MOST_ROOMS.choose_spec
    · refine sss_one ?_
      refine ss_ret ?_
      exact se_bl
    · exact sss_nil
  · refine sss_one ?_
    refine ss_ret ?_
    refine se_callB (cr_all rfl) (cs_quant _) rfl T.b_all rfl ?_
    refine sa_cons ?_ ?_
    · refine se_lc (own := [("room", 1)]) (vs := [1]) (wk := false) rfl sc_are_rooms.nd ?_ (show BlkOk ["rooms", "room"] (defScope s_are_rooms) _ _ from ⟨rfl, by decide +kernel, by decide +kernel, by decide +kernel, by decide +kernel⟩) (fun _ _ _ _ _ => ?_) (fun _ _ _ _ _ => ?_) (fun _ _ _ _ _ => ?_)
      · refine si_seq ?_
        exact se_var 0
      · exact sg_name sc_are_rooms.nd rfl (by first | exact Or.inl rfl | exact Or.inr rfl)
      · exact sts_nil
      · refine se_callA T.f_is_whole (ok_is_whole T) takesW0 (hr.mono (by decide)) rfl ?_
        refine sa_cons ?_ ?_
        · exact se_var 1
        · refine sa_cons ?_ ?_
          · exact se_int
          · refine sa_cons ?_ ?_
            · exact se_gint (t := T.c_MOST_ROOM.choose) rfl T.c_MOST_ROOM.choose_spec
            · exact sa_nil
    · exact sa_nil

theorem sc_lone_life : FnScope ["rooms", "at", "every", "most", "between"] ["rooms", "at"] (defScope s_lone_life) := ⟨rfl, rfl, rfl, by decide +kernel, rfl, by decide +kernel, by decide +kernel⟩
def g_lone_life : FS := (gSeq (gIf (eNot (eArgs m_are_rooms [(eVar 0)])) (gRaise "NoRooms") gNext)
    (gSeq (gIf (eAnd (eBin dIsNot (eVar 1) (eC .non)) (eNot (eArgs m_is_whole [(eVar 1), (eC (.int 0)), (eBin dSub (eArgs bLen [(eVar 0)]) (eC (.int 1)))]))) (gRaise "NoIndex") gNext)
    (gSeq (gPar 2 3 (eArgs bSum [(eVar 0)]) (eArgs bMax [(eVar 0)]))
    (gSeq (gSet 4 (eBin dMul (eC (.int 2)) (eBin dSub (eVar 2) (eVar 3))))
    (gSeq (gIf (eAnd (eBin dIsNot (eVar 1) (eC .non)) (eAnd (eBin dEq (eBin dIx (eVar 0) (eVar 1)) (eVar 3)) (eBin dEq (eLm lCount (eVar 0) [(eVar 3)]) (eC (.int 1))))) (gRet (eArgs bMin2 [(eVar 2), (eVar 4)])) gNext)
    (gRet (eArgs bMin2 [(eVar 2), (eBin dAdd (eVar 4) (eC (.int 1)))])))))))
def m_lone_life : FF := runB 5 g_lone_life
theorem ok_lone_life (T : Txt K mg) : OkF P w K mg base 3 T.f_lone_life.f T.f_lone_life.fd ["rooms", "at"] m_lone_life := by
  refine @okS P w K mg base "lone_life" "lone_life" s_lone_life T.f_lone_life.f T.f_lone_life.fd ["rooms", "at", "every", "most", "between"] ["rooms", "at"]  2 g_lone_life T.f_lone_life.fn sc_lone_life ?_
  intro cdv A outer s H E hr tk PO
  unfold g_lone_life
  refine sss_cons ?_ ?_
  · refine ss_if ?_ ?_ ?_
    · refine st_not ?_
      refine st_val ?_
      refine se_callA T.f_are_rooms (ok_are_rooms T) tk (hr.mono (by decide)) rfl ?_
      refine sa_cons ?_ ?_
      · exact se_var 0
      · exact sa_nil
    · refine sss_one ?_
      exact ss_raise rfl tk T.e_NoRooms.t rfl
    · exact sss_nil
  · refine sss_cons ?_ ?_
    · refine ss_if ?_ ?_ ?_
      · refine SW.st ?_
        refine sw_and ?_ ?_
        · refine st_cmp op_isNot3 os_isNot ?_ ?_ (nomark _)
          · exact se_var 1
          · exact se_non
        · refine sw_and1 ?_
          refine st_not ?_
          refine st_val ?_
          refine se_callA T.f_is_whole (ok_is_whole T) tk (hr.mono (by decide)) rfl ?_
          refine sa_cons ?_ ?_
          · exact se_var 1
          · refine sa_cons ?_ ?_
            · exact se_int
            · refine sa_cons ?_ ?_
              · refine se_op op_sub os_sub ?_ ?_
                · refine se_callB (call_len) (cs_len) rfl T.b_len rfl ?_
                  refine sa_cons ?_ ?_
                  · exact se_var 0
                  · exact sa_nil
                · exact se_int
              · exact sa_nil
      · refine sss_one ?_
        exact ss_raise rfl tk T.e_NoIndex.t rfl
      · exact sss_nil
    · refine sss_cons ?_ ?_
      · refine ss_par (i := 2) (j := 3) rfl sc_lone_life.nd rfl rfl (by decide) rfl rfl ?_ ?_ rfl
        · refine se_callB (cr_sum rfl) (cs_sum) rfl T.b_sum rfl ?_
          refine sa_cons ?_ ?_
          · exact se_var 0
          · exact sa_nil
        · refine se_callB (cr_max rfl) (cs_max) rfl T.b_max rfl ?_
          refine sa_cons ?_ ?_
          · exact se_var 0
          · exact sa_nil
      · refine sss_cons ?_ ?_
        · refine ss_set sc_lone_life.nd rfl (by first | exact Or.inl rfl | exact Or.inr rfl) ?_
          refine se_op op_mul2 os_mul ?_ ?_
          · exact se_int
          · refine se_op op_sub os_sub ?_ ?_
            · exact se_var 2
            · exact se_var 3
        · refine sss_cons ?_ ?_
          · refine ss_if ?_ ?_ ?_
            · refine SW.st ?_
              refine sw_and ?_ ?_
              · refine st_cmp op_isNot3 os_isNot ?_ ?_ (nomark _)
                · exact se_var 1
                · exact se_non
              · refine sw_and ?_ ?_
                · refine st_cmp (op_eq2 hr.units) os_eq ?_ ?_ (nomark _)
                  · refine se_ix ?_ ?_
                    · exact se_var 0
                    · exact se_var 1
                  · exact se_var 3
                · refine sw_and1 ?_
                  refine st_cmp (op_eq2 hr.units) os_eq ?_ ?_ (nomark _)
                  · refine se_lm PySem.F.plainAttrs_list PySem.F.slot_list_count PySem.F.type_list_count mt_lcount ls_count ?_ ?_
                    · exact se_var 0
                    · refine sa_cons ?_ ?_
                      · exact se_var 3
                      · exact sa_nil
                  · exact se_int
            · refine sss_one ?_
              refine ss_ret ?_
              refine se_callB (call_min2 rfl) (cs_two _) rfl T.b_min rfl ?_
              refine sa_cons ?_ ?_
              · exact se_var 2
              · refine sa_cons ?_ ?_
                · exact se_var 4
                · exact sa_nil
            · exact sss_nil
          · refine sss_one ?_
            refine ss_ret ?_
            refine se_callB (call_min2 rfl) (cs_two _) rfl T.b_min rfl ?_
            refine sa_cons ?_ ?_
            · exact se_var 2
            · refine sa_cons ?_ ?_
              · refine se_op op_add4 os_add ?_ ?_
                · exact se_var 4
                · exact se_int
              · exact sa_nil

theorem sc__law_longest : FnScope ["rooms", "at", "room", "last", "length", "step", "best", "b"] ["rooms", "at"] (defScope s__law_longest) := ⟨rfl, rfl, rfl, by decide +kernel, rfl, by decide +kernel, by decide +kernel⟩
def g__law_longest : FS := (gSeq (gSet 2 (eArgs bList [(eVar 0)]))
    (gSeq (gSet 3 (eVar 1))
    (gSeq (gSet 4 (eC (.int 0)))
    (gSeq (gFor (fiRg [(eArgs bSum [(eVar 0)])]) (tName 5) (gSeq (gSet 6 (eC .non))
    (gSeq (gFor (fiRg [(eArgs bLen [(eVar 2)])]) (tName 7) (gIf (eAnd (eBin dNe (eVar 7) (eVar 3)) (eAnd (eBin (dCmp fun i j => decide (j < i)) (eBin dIx (eVar 2) (eVar 7)) (eC (.int 0))) (eOr (eBin dIs (eVar 6) (eC .non)) (eBin (dCmp fun i j => decide (j < i)) (eBin dIx (eVar 2) (eVar 7)) (eBin dIx (eVar 2) (eVar 6)))))) (gSet 6 (eVar 7)) gNext))
    (gSeq (gIf (eBin dIs (eVar 6) (eC .non)) (gRet (eVar 4)) gNext)
    (gSeq (gLput (eVar 2) (eVar 6) (eBin dSub (eBin dIx (eVar 2) (eVar 6)) (eC (.int 1))))
    (gSeq (gSet 3 (eVar 6))
    (gSet 4 (eBin dAdd (eVar 4) (eC (.int 1))))))))))
    (gRet (eVar 4))))))
def m__law_longest : FF := runB 8 g__law_longest
theorem ok__law_longest (T : Txt K mg) : OkF P w K mg base 1 T.f__law_longest.f T.f__law_longest.fd ["rooms", "at"] m__law_longest := by
  refine @okS P w K mg base "_law_longest" "_law_longest" s__law_longest T.f__law_longest.f T.f__law_longest.fd ["rooms", "at", "room", "last", "length", "step", "best", "b"] ["rooms", "at"]  0 g__law_longest T.f__law_longest.fn sc__law_longest ?_
  intro cdv A outer s H E hr tk PO
  unfold g__law_longest
  refine sss_cons ?_ ?_
  · refine ss_set sc__law_longest.nd rfl (by first | exact Or.inl rfl | exact Or.inr rfl) ?_
    refine se_callTy (call_list_of) (cs_list) rfl T.b_list rfl ?_
    refine sa_cons ?_ ?_
    · exact se_var 0
    · exact sa_nil
  · refine sss_cons ?_ ?_
    · refine ss_set sc__law_longest.nd rfl (by first | exact Or.inl rfl | exact Or.inr rfl) ?_
      exact se_var 1
    · refine sss_cons ?_ ?_
      · refine ss_set sc__law_longest.nd rfl (by first | exact Or.inl rfl | exact Or.inr rfl) ?_
        exact se_int
      · refine sss_cons ?_ ?_
        · refine ss_for (vs := [5]) (wk := false) PO rfl ?_ ?_ ?_
          · refine si_rg1 rfl T.b_range ?_
            refine sa_cons ?_ ?_
            · refine se_callB (cr_sum rfl) (cs_sum) rfl T.b_sum rfl ?_
              refine sa_cons ?_ ?_
              · exact se_var 0
              · exact sa_nil
            · exact sa_nil
          · exact sg_name sc__law_longest.nd rfl (by first | exact Or.inl rfl | exact Or.inr rfl)
          · refine sss_cons ?_ ?_
            · refine ss_set sc__law_longest.nd rfl (by first | exact Or.inl rfl | exact Or.inr rfl) ?_
              exact se_non
            · refine sss_cons ?_ ?_
              · refine ss_for (vs := [7]) (wk := false) PO rfl ?_ ?_ ?_
                · refine si_rg1 rfl T.b_range ?_
                  refine sa_cons ?_ ?_
                  · refine se_callB (call_len) (cs_len) rfl T.b_len rfl ?_
                    refine sa_cons ?_ ?_
                    · exact se_var 2
                    · exact sa_nil
                  · exact sa_nil
                · exact sg_name sc__law_longest.nd rfl (by first | exact Or.inl rfl | exact Or.inr rfl)
                · refine sss_one ?_
                  refine ss_if ?_ ?_ ?_
                  · refine SW.st ?_
                    refine sw_and ?_ ?_
                    · refine st_cmp (op_ne2 hr.units) os_ne ?_ ?_ (nomark _)
                      · exact se_var 7
                      · exact se_var 3
                    · refine sw_and ?_ ?_
                      · refine st_cmp op_gt os_cmp ?_ ?_ (nomark _)
                        · refine se_ix ?_ ?_
                          · exact se_var 2
                          · exact se_var 7
                        · exact se_int
                      · refine sw_and1 ?_
                        refine SW.st ?_
                        refine sw_or ?_ ?_
                        · refine st_cmp op_is3 os_is ?_ ?_ (nomark _)
                          · exact se_var 6
                          · exact se_non
                        · refine sw_or1 ?_
                          refine st_cmp op_gt os_cmp ?_ ?_ (nomark _)
                          · refine se_ix ?_ ?_
                            · exact se_var 2
                            · exact se_var 7
                          · refine se_ix ?_ ?_
                            · exact se_var 2
                            · exact se_var 6
                  · refine sss_one ?_
                    refine ss_set sc__law_longest.nd rfl (by first | exact Or.inl rfl | exact Or.inr rfl) ?_
                    exact se_var 7
                  · exact sss_nil
              · refine sss_cons ?_ ?_
                · refine ss_if ?_ ?_ ?_
                  · refine st_cmp op_is3 os_is ?_ ?_ (nomark _)
                    · exact se_var 6
                    · exact se_non
                  · refine sss_one ?_
                    refine ss_ret ?_
                    exact se_var 4
                  · exact sss_nil
                · refine sss_cons ?_ ?_
                  · refine ss_lput ?_ ?_ ?_
                    · exact se_var 2
                    · exact se_var 6
                    · refine se_op op_sub os_sub ?_ ?_
                      · refine se_ix ?_ ?_
                        · exact se_var 2
                        · exact se_var 6
                      · exact se_int
                  · refine sss_cons ?_ ?_
                    · refine ss_set sc__law_longest.nd rfl (by first | exact Or.inl rfl | exact Or.inr rfl) ?_
                      exact se_var 6
                    · refine sss_one ?_
                      refine ss_set sc__law_longest.nd rfl (by first | exact Or.inl rfl | exact Or.inr rfl) ?_
                      refine se_op op_add4 os_add ?_ ?_
                      · exact se_var 4
                      · exact se_int
        · refine sss_one ?_
          refine ss_ret ?_
          exact se_var 4

theorem sc__law_is_life : FnScope ["found", "due"] ["found", "due"] (defScope s__law_is_life) := ⟨rfl, rfl, rfl, by decide +kernel, rfl, by decide +kernel, by decide +kernel⟩
def g__law_is_life : FS := (gSeq (gIf (eBin dIs (eVar 1) (eC .non)) (gRet (eBin dIs (eVar 0) (eC .non))) gNext)
    (gRet (eAnd (eIsi "int" (eVar 0)) (eAnd (eNot (eIsi "bool" (eVar 0))) (eBin dEq (eVar 0) (eVar 1))))))
def m__law_is_life : FF := runB 2 g__law_is_life
theorem ok__law_is_life (T : Txt K mg) : OkF P w K mg base 1 T.f__law_is_life.f T.f__law_is_life.fd ["found", "due"] m__law_is_life := by
  refine @okS P w K mg base "_law_is_life" "_law_is_life" s__law_is_life T.f__law_is_life.f T.f__law_is_life.fd ["found", "due"] ["found", "due"]  0 g__law_is_life T.f__law_is_life.fn sc__law_is_life ?_
  intro cdv A outer s H E hr tk PO
  unfold g__law_is_life
  refine sss_cons ?_ ?_
  · refine ss_if ?_ ?_ ?_
    · refine st_cmp op_is3 os_is ?_ ?_ (nomark _)
      · exact se_var 1
      · exact se_non
    · refine sss_one ?_
      refine ss_ret ?_
      refine se_cmp op_is3 os_is ?_ ?_ (nomark _)
      · exact se_var 0
      · exact se_non
    · exact sss_nil
  · refine sss_one ?_
    refine ss_ret ?_
    refine se_and ?_ ?_
    · refine se_isi ?_ rfl T.b_isinstance rfl rfl T.b_int rfl
      exact se_var 0
    · refine se_and ?_ ?_
      · refine se_not ?_
        refine se_isi ?_ rfl T.b_isinstance rfl rfl T.b_bool rfl
        exact se_var 0
      · refine se_one ?_
        refine se_cmp (op_eq2 hr.units) os_eq ?_ ?_ (nomark _)
        · exact se_var 0
        · exact se_var 1

theorem sc__law_best_first : FnScope ["rooms", "at", "best", "b", "less", "span"] ["rooms", "at"] (defScope s__law_best_first) := ⟨rfl, rfl, rfl, by decide +kernel, rfl, by decide +kernel, by decide +kernel⟩
def g__law_best_first : FS := (gSeq (gSet 2 (eC (.int 0)))
    (gSeq (gFor (fiRg [(eArgs bLen [(eVar 0)])]) (tName 3) (gIf (eAnd (eBin dNe (eVar 3) (eVar 1)) (eBin (dCmp fun i j => decide (j < i)) (eBin dIx (eVar 0) (eVar 3)) (eC (.int 0)))) (gSeq (gSet 4 (eBin dAdd (eBin dAdd (eSl (eVar 0) none (some (eVar 3))) (eLst [(eBin dSub (eBin dIx (eVar 0) (eVar 3)) (eC (.int 1)))])) (eSl (eVar 0) (some (eBin dAdd (eVar 3) (eC (.int 1)))) none)))
    (gSeq (gSet 5 (eArgs m_lone_life [(eVar 4), (eVar 3)]))
    (gSeq (gIf (eOr (eNot (eIsi "int" (eVar 5))) (eIsi "bool" (eVar 5))) (gRet (eC .non)) gNext)
    (gSet 2 (eArgs bMax2 [(eVar 2), (eBin dAdd (eC (.int 1)) (eVar 5))]))))) gNext))
    (gRet (eVar 2))))
def m__law_best_first : FF := runB 6 g__law_best_first
theorem ok__law_best_first (T : Txt K mg) : OkF P w K mg base 4 T.f__law_best_first.f T.f__law_best_first.fd ["rooms", "at"] m__law_best_first := by
  refine @okS P w K mg base "_law_best_first" "_law_best_first" s__law_best_first T.f__law_best_first.f T.f__law_best_first.fd ["rooms", "at", "best", "b", "less", "span"] ["rooms", "at"]  3 g__law_best_first T.f__law_best_first.fn sc__law_best_first ?_
  intro cdv A outer s H E hr tk PO
  unfold g__law_best_first
  refine sss_cons ?_ ?_
  · refine ss_set sc__law_best_first.nd rfl (by first | exact Or.inl rfl | exact Or.inr rfl) ?_
    exact se_int
  · refine sss_cons ?_ ?_
    · refine ss_for (vs := [3]) (wk := false) PO rfl ?_ ?_ ?_
      · refine si_rg1 rfl T.b_range ?_
        refine sa_cons ?_ ?_
        · refine se_callB (call_len) (cs_len) rfl T.b_len rfl ?_
          refine sa_cons ?_ ?_
          · exact se_var 0
          · exact sa_nil
        · exact sa_nil
      · exact sg_name sc__law_best_first.nd rfl (by first | exact Or.inl rfl | exact Or.inr rfl)
      · refine sss_one ?_
        refine ss_if ?_ ?_ ?_
        · refine SW.st ?_
          refine sw_and ?_ ?_
          · refine st_cmp (op_ne2 hr.units) os_ne ?_ ?_ (nomark _)
            · exact se_var 3
            · exact se_var 1
          · refine sw_and1 ?_
            refine st_cmp op_gt os_cmp ?_ ?_ (nomark _)
            · refine se_ix ?_ ?_
              · exact se_var 0
              · exact se_var 3
            · exact se_int
        · refine sss_cons ?_ ?_
          · refine ss_set sc__law_best_first.nd rfl (by first | exact Or.inl rfl | exact Or.inr rfl) ?_
            refine se_op op_add4 os_add ?_ ?_
            · refine se_op op_add4 os_add ?_ ?_
              · refine se_sl ?_ ?_ ?_
                · exact se_var 0
                · exact SO.no
                · refine SO.yes ?_
                  exact se_var 3
              · refine se_lst ?_
                refine sa_cons ?_ ?_
                · refine se_op op_sub os_sub ?_ ?_
                  · refine se_ix ?_ ?_
                    · exact se_var 0
                    · exact se_var 3
                  · exact se_int
                · exact sa_nil
            · refine se_sl ?_ ?_ ?_
              · exact se_var 0
              · refine SO.yes ?_
                refine se_op op_add4 os_add ?_ ?_
                · exact se_var 3
                · exact se_int
              · exact SO.no
          · refine sss_cons ?_ ?_
            · refine ss_set sc__law_best_first.nd rfl (by first | exact Or.inl rfl | exact Or.inr rfl) ?_
              refine se_callA T.f_lone_life (ok_lone_life T) tk (hr.mono (by decide)) rfl ?_
              refine sa_cons ?_ ?_
              · exact se_var 4
              · refine sa_cons ?_ ?_
                · exact se_var 3
                · exact sa_nil
            · refine sss_cons ?_ ?_
              · refine ss_if ?_ ?_ ?_
                · refine SW.st ?_
                  refine sw_or ?_ ?_
                  · refine st_not ?_
                    refine st_val ?_
                    refine se_isi ?_ rfl T.b_isinstance rfl rfl T.b_int rfl
                    exact se_var 5
                  · refine sw_or1 ?_
                    refine st_val ?_
                    refine se_isi ?_ rfl T.b_isinstance rfl rfl T.b_bool rfl
                    exact se_var 5
                · refine sss_one ?_
                  refine ss_ret ?_
                  exact se_non
                · exact sss_nil
              · refine sss_one ?_
                refine ss_set sc__law_best_first.nd rfl (by first | exact Or.inl rfl | exact Or.inr rfl) ?_
                refine se_callB (call_max2 rfl) (cs_two _) rfl T.b_max rfl ?_
                refine sa_cons ?_ ?_
                · exact se_var 2
                · refine sa_cons ?_ ?_
                  · refine se_op op_add4 os_add ?_ ?_
                    · exact se_int
                    · exact se_var 5
                  · exact sa_nil
        · exact sss_nil
    · refine sss_one ?_
      refine ss_ret ?_
      exact se_var 2

theorem sc_law : FnScope ["script", "pool", "small", "where", "many", "rooms", "at", "kept", "found", "rest", "due", "k"] ["script"] (defScope s_law) := ⟨rfl, rfl, rfl, by decide +kernel, rfl, by decide +kernel, by decide +kernel⟩
def g_law : FS := (gSeq (gSet 1 (eLst [(eArgs bList [(eVar 0)]), (eC (.int 0)), (eC (.int 0))]))
    (gSeq (gSet 2 (eBin dEq (eArgs m__law_digit [(eVar 1), (eC (.int 3))]) (eC (.int 0))))
    (gSeq (gSet 3 (eArgs m__law_digit [(eVar 1), (eC (.int 4))]))
    (gSeq (gIf (eVar 2) (gSeq (gSet 4 (eBin dAdd (eC (.int 1)) (eArgs m__law_digit [(eVar 1), (eC (.int 100))])))
    (gSet 5 (eLc (fiRg [(eVar 4)]) (tName 11) (eC (.bl true)) (eArgs m__law_digit [(eVar 1), (eC (.int 4))]) [11]))) (gSet 5 (eArgs m__law_great [(eVar 1)])))
    (gSeq (gSet 6 (eC .non))
    (gSeq (gIf (eBin dEq (eVar 3) (eC (.int 1))) (gSet 6 (eArgs m__law_digit [(eVar 1), (eArgs bLen [(eVar 5)])])) (gIf (eBin (dCmp fun i j => decide (j < i)) (eVar 3) (eC (.int 1))) (gSet 6 (eLm lIndex (eVar 5) [(eArgs bMax [(eVar 5)])])) gNext))
    (gSeq (gSet 7 (eArgs bList [(eVar 5)]))
    (gSeq (gSet 8 (eArgs m_lone_life [(eVar 5), (eVar 6)]))
    (gSeq (gIf (eBin dNe (eVar 5) (eVar 7)) (gRet (eC (.bl false))) gNext)
    (gSeq (gIf (eAnd (eVar 2) (eAnd (eBin (dCmp fun i j => decide (i ≤ j)) (eArgs bLen [(eVar 5)]) (eC (.int 40))) (eNot (eArgs m__law_is_life [(eVar 8), (eArgs m__law_longest [(eVar 7), (eVar 6)])])))) (gRet (eC (.bl false))) gNext)
    (gSeq (gSet 9 (eBin dSub (eArgs bSum [(eVar 7)]) (eArgs bMax [(eVar 7)])))
    (gSeq (gSet 10 (eArgs m__law_best_first [(eVar 7), (eVar 6)]))
    (gSeq (gIf (eOr (eBin dIs (eVar 10) (eC .non)) (eNot (eArgs m__law_is_life [(eVar 8), (eVar 10)]))) (gRet (eC (.bl false))) gNext)
    (gRet (eAnd (eBin (dCmp fun i j => decide (j ≤ i)) (eVar 8) (eC (.int 0))) (eAnd (eBin (dCmp fun i j => decide (i ≤ j)) (eVar 8) (eArgs bSum [(eVar 7)])) (eBin (dCmp fun i j => decide (i ≤ j)) (eVar 8) (eBin dAdd (eBin dMul (eC (.int 2)) (eVar 9)) (eC (.int 1))))))))))))))))))))
def m_law : FF := runB 12 g_law
theorem ok_law (T : Txt K mg) : OkF P w K mg base 5 T.f_law.f T.f_law.fd ["script"] m_law := by
  refine @okS P w K mg base "law" "law" s_law T.f_law.f T.f_law.fd ["script", "pool", "small", "where", "many", "rooms", "at", "kept", "found", "rest", "due", "k"] ["script"]  4 g_law T.f_law.fn sc_law ?_
  intro cdv A outer s H E hr tk PO
  unfold g_law
  refine sss_cons ?_ ?_
  · refine ss_set sc_law.nd rfl (by first | exact Or.inl rfl | exact Or.inr rfl) ?_
    refine se_lst ?_
    refine sa_cons ?_ ?_
    · refine se_callTy (call_list_of) (cs_list) rfl T.b_list rfl ?_
      refine sa_cons ?_ ?_
      · exact se_var 0
      · exact sa_nil
    · refine sa_cons ?_ ?_
      · exact se_int
      · refine sa_cons ?_ ?_
        · exact se_int
        · exact sa_nil
  · refine sss_cons ?_ ?_
    · refine ss_set sc_law.nd rfl (by first | exact Or.inl rfl | exact Or.inr rfl) ?_
      refine se_cmp (op_eq2 hr.units) os_eq ?_ ?_ (nomark _)
      · refine se_callA T.f__law_digit (ok__law_digit T) tk (hr.mono (by decide)) rfl ?_
        refine sa_cons ?_ ?_
        · exact se_var 1
        · refine sa_cons ?_ ?_
          · exact se_int
          · exact sa_nil
      · exact se_int
    · refine sss_cons ?_ ?_
      · refine ss_set sc_law.nd rfl (by first | exact Or.inl rfl | exact Or.inr rfl) ?_
        refine se_callA T.f__law_digit (ok__law_digit T) tk (hr.mono (by decide)) rfl ?_
        refine sa_cons ?_ ?_
        · exact se_var 1
        · refine sa_cons ?_ ?_
          · exact se_int
          · exact sa_nil
      · refine sss_cons ?_ ?_
        · refine ss_if ?_ ?_ ?_
          · refine st_val ?_
            exact se_var 2
          · refine sss_cons ?_ ?_
            · refine ss_set sc_law.nd rfl (by first | exact Or.inl rfl | exact Or.inr rfl) ?_
              refine se_op op_add4 os_add ?_ ?_
              · exact se_int
              · refine se_callA T.f__law_digit (ok__law_digit T) tk (hr.mono (by decide)) rfl ?_
                refine sa_cons ?_ ?_
                · exact se_var 1
                · refine sa_cons ?_ ?_
                  · exact se_int
                  · exact sa_nil
            · refine sss_one ?_
              refine ss_setLc (own := [("k", 11)]) (vs := [11]) (wk := false) rfl sc_law.nd rfl rfl rfl ?_ (show BlkOk ["script", "pool", "small", "where", "many", "rooms", "at", "kept", "found", "rest", "due", "k"] (defScope s_law) _ _ from ⟨rfl, by decide +kernel, by decide +kernel, by decide +kernel, by decide +kernel⟩) (fun _ _ _ _ _ => ?_) (fun _ _ _ _ _ => ?_) (fun _ _ _ _ _ => ?_)
              · refine si_rg1 rfl T.b_range ?_
                refine sa_cons ?_ ?_
                · exact se_var 4
                · exact sa_nil
              · exact sg_name sc_law.nd rfl (by first | exact Or.inl rfl | exact Or.inr rfl)
              · exact sts_nil
              · refine se_callA T.f__law_digit (ok__law_digit T) takesW0 (hr.mono (by decide)) rfl ?_
                refine sa_cons ?_ ?_
                · exact se_var 1
                · refine sa_cons ?_ ?_
                  · exact se_int
                  · exact sa_nil
          · refine sss_one ?_
            refine ss_set sc_law.nd rfl (by first | exact Or.inl rfl | exact Or.inr rfl) ?_
            refine se_callA T.f__law_great (ok__law_great T) tk (hr.mono (by decide)) rfl ?_
            refine sa_cons ?_ ?_
            · exact se_var 1
            · exact sa_nil
        · refine sss_cons ?_ ?_
          · refine ss_set sc_law.nd rfl (by first | exact Or.inl rfl | exact Or.inr rfl) ?_
            exact se_non
          · refine sss_cons ?_ ?_
            · refine ss_if ?_ ?_ ?_
              · refine st_cmp (op_eq2 hr.units) os_eq ?_ ?_ (nomark _)
                · exact se_var 3
                · exact se_int
              · refine sss_one ?_
                refine ss_set sc_law.nd rfl (by first | exact Or.inl rfl | exact Or.inr rfl) ?_
                refine se_callA T.f__law_digit (ok__law_digit T) tk (hr.mono (by decide)) rfl ?_
                refine sa_cons ?_ ?_
                · exact se_var 1
                · refine sa_cons ?_ ?_
                  · refine se_callB (call_len) (cs_len) rfl T.b_len rfl ?_
                    refine sa_cons ?_ ?_
                    · exact se_var 5
                    · exact sa_nil
                  · exact sa_nil
              · refine sss_one ?_
                refine ss_if ?_ ?_ ?_
                · refine st_cmp op_gt os_cmp ?_ ?_ (nomark _)
                  · exact se_var 3
                  · exact se_int
                · refine sss_one ?_
                  refine ss_set sc_law.nd rfl (by first | exact Or.inl rfl | exact Or.inr rfl) ?_
                  refine se_lm PySem.F.plainAttrs_list PySem.F.slot_list_index PySem.F.type_list_index mt_index ls_index ?_ ?_
                  · exact se_var 5
                  · refine sa_cons ?_ ?_
                    · refine se_callB (cr_max rfl) (cs_max) rfl T.b_max rfl ?_
                      refine sa_cons ?_ ?_
                      · exact se_var 5
                      · exact sa_nil
                    · exact sa_nil
                · exact sss_nil
            · refine sss_cons ?_ ?_
              · refine ss_set sc_law.nd rfl (by first | exact Or.inl rfl | exact Or.inr rfl) ?_
                refine se_callTy (call_list_of) (cs_list) rfl T.b_list rfl ?_
                refine sa_cons ?_ ?_
                · exact se_var 5
                · exact sa_nil
              · refine sss_cons ?_ ?_
                · refine ss_set sc_law.nd rfl (by first | exact Or.inl rfl | exact Or.inr rfl) ?_
                  refine se_callA T.f_lone_life (ok_lone_life T) tk (hr.mono (by decide)) rfl ?_
                  refine sa_cons ?_ ?_
                  · exact se_var 5
                  · refine sa_cons ?_ ?_
                    · exact se_var 6
                    · exact sa_nil
                · refine sss_cons ?_ ?_
                  · refine ss_if ?_ ?_ ?_
                    · refine st_cmp (op_ne2 hr.units) os_ne ?_ ?_ (nomark _)
                      · exact se_var 5
                      · exact se_var 7
                    · refine sss_one ?_
                      refine ss_ret ?_
                      exact se_bl
                    · exact sss_nil
                  · refine sss_cons ?_ ?_
                    · refine ss_if ?_ ?_ ?_
                      · refine SW.st ?_
                        refine sw_and ?_ ?_
                        · refine st_val ?_
                          exact se_var 2
                        · refine sw_and ?_ ?_
                          · refine st_cmp op_le os_cmp ?_ ?_ (nomark _)
                            · refine se_callB (call_len) (cs_len) rfl T.b_len rfl ?_
                              refine sa_cons ?_ ?_
                              · exact se_var 5
                              · exact sa_nil
                            · exact se_int
                          · refine sw_and1 ?_
                            refine st_not ?_
                            refine st_val ?_
                            refine se_callA T.f__law_is_life (ok__law_is_life T) tk (hr.mono (by decide)) rfl ?_
                            refine sa_cons ?_ ?_
                            · exact se_var 8
                            · refine sa_cons ?_ ?_
                              · refine se_callA T.f__law_longest (ok__law_longest T) tk (hr.mono (by decide)) rfl ?_
                                refine sa_cons ?_ ?_
                                · exact se_var 7
                                · refine sa_cons ?_ ?_
                                  · exact se_var 6
                                  · exact sa_nil
                              · exact sa_nil
                      · refine sss_one ?_
                        refine ss_ret ?_
                        exact se_bl
                      · exact sss_nil
                    · refine sss_cons ?_ ?_
                      · refine ss_set sc_law.nd rfl (by first | exact Or.inl rfl | exact Or.inr rfl) ?_
                        refine se_op op_sub os_sub ?_ ?_
                        · refine se_callB (cr_sum rfl) (cs_sum) rfl T.b_sum rfl ?_
                          refine sa_cons ?_ ?_
                          · exact se_var 7
                          · exact sa_nil
                        · refine se_callB (cr_max rfl) (cs_max) rfl T.b_max rfl ?_
                          refine sa_cons ?_ ?_
                          · exact se_var 7
                          · exact sa_nil
                      · refine sss_cons ?_ ?_
                        · refine ss_set sc_law.nd rfl (by first | exact Or.inl rfl | exact Or.inr rfl) ?_
                          refine se_callA T.f__law_best_first (ok__law_best_first T) tk (hr.mono (by decide)) rfl ?_
                          refine sa_cons ?_ ?_
                          · exact se_var 7
                          · refine sa_cons ?_ ?_
                            · exact se_var 6
                            · exact sa_nil
                        · refine sss_cons ?_ ?_
                          · refine ss_if ?_ ?_ ?_
                            · refine SW.st ?_
                              refine sw_or ?_ ?_
                              · refine st_cmp op_is3 os_is ?_ ?_ (nomark _)
                                · exact se_var 10
                                · exact se_non
                              · refine sw_or1 ?_
                                refine st_not ?_
                                refine st_val ?_
                                refine se_callA T.f__law_is_life (ok__law_is_life T) tk (hr.mono (by decide)) rfl ?_
                                refine sa_cons ?_ ?_
                                · exact se_var 8
                                · refine sa_cons ?_ ?_
                                  · exact se_var 10
                                  · exact sa_nil
                            · refine sss_one ?_
                              refine ss_ret ?_
                              exact se_bl
                            · exact sss_nil
                          · refine sss_one ?_
                            refine ss_ret ?_
                            refine se_and ?_ ?_
                            · refine se_cmp op_ge os_cmp ?_ ?_ (nomark _)
                              · exact se_var 8
                              · exact se_int
                            · refine se_and ?_ ?_
                              · refine se_cmp op_le os_cmp ?_ ?_ (nomark _)
                                · exact se_var 8
                                · refine se_callB (cr_sum rfl) (cs_sum) rfl T.b_sum rfl ?_
                                  refine sa_cons ?_ ?_
                                  · exact se_var 7
                                  · exact sa_nil
                              · refine se_one ?_
                                refine se_cmp op_le os_cmp ?_ ?_ (nomark _)
                                · exact se_var 8
                                · refine se_op op_add4 os_add ?_ ?_
                                  · refine se_op op_mul2 os_mul ?_ ?_
                                    · exact se_int
                                    · exact se_var 9
                                  · exact se_int

end
theorem all_mk {P : Program} {w : World} {K : PySem.W.Frag} {h : Heap} {mg : Str → Option Value} {fa : Addr} {t_MOST_ROOM : Tok} {t_MOST_ROOMS : Tok} {E_NoIndex : Addr} {E_NoRooms : Addr} {f__law_digit : Addr} {f__law_room : Addr} {f__law_great : Addr} {f_is_whole : Addr} {f_are_rooms : Addr} {f_lone_life : Addr} {f__law_longest : Addr} {f__law_is_life : Addr} {f__law_best_first : Addr} {f_law : Addr} (LT : ∀ ns : List Int, ns.length ≤ 63 → ∃ h', m_law [.scl (ns.map D.int)] [] = .ok (.bl true) h') (X : K.In h) (G : h.Ns mainGlobals mg) (hfa : mg "law" = some (.ref fa))
    (b_all : PySem.W.nsIn K mainGlobals "all" = some none)
    (b_bool : PySem.W.nsIn K mainGlobals "bool" = some none)
    (b_int : PySem.W.nsIn K mainGlobals "int" = some none)
    (b_isinstance : PySem.W.nsIn K mainGlobals "isinstance" = some none)
    (b_len : PySem.W.nsIn K mainGlobals "len" = some none)
    (b_list : PySem.W.nsIn K mainGlobals "list" = some none)
    (b_max : PySem.W.nsIn K mainGlobals "max" = some none)
    (b_min : PySem.W.nsIn K mainGlobals "min" = some none)
    (b_range : PySem.W.nsIn K mainGlobals "range" = some none)
    (b_sum : PySem.W.nsIn K mainGlobals "sum" = some none)
    (c_MOST_ROOM : PySem.W.nsIn K mainGlobals "MOST_ROOM" = some (some (.int 1000000000 t_MOST_ROOM)))
    (c_MOST_ROOMS : PySem.W.nsIn K mainGlobals "MOST_ROOMS" = some (some (.int 100 t_MOST_ROOMS)))
    (e_NoIndex : PySem.W.nsIn K mainGlobals "NoIndex" = some (some (.ref E_NoIndex)))
    (x_NoIndex : PySem.W.excIn K E_NoIndex [.type "ValueError", .type "Exception", .type "BaseException", .type "object"] "ValueError.__new__" = true)
    (ke_NoIndex : PySem.W.keepIn K (.ref E_NoIndex) = true)
    (be_NoIndex : PySem.W.subIn K (.ref E_NoIndex) (.type "BaseException") = some true)
    (te_NoIndex : PySem.W.typeIn K (.ref E_NoIndex) = some (.type "type"))
    (he_NoIndex : PySem.W.hasDictIn K E_NoIndex = true)
    (e_NoRooms : PySem.W.nsIn K mainGlobals "NoRooms" = some (some (.ref E_NoRooms)))
    (x_NoRooms : PySem.W.excIn K E_NoRooms [.type "ValueError", .type "Exception", .type "BaseException", .type "object"] "ValueError.__new__" = true)
    (ke_NoRooms : PySem.W.keepIn K (.ref E_NoRooms) = true)
    (be_NoRooms : PySem.W.subIn K (.ref E_NoRooms) (.type "BaseException") = some true)
    (te_NoRooms : PySem.W.typeIn K (.ref E_NoRooms) = some (.type "type"))
    (he_NoRooms : PySem.W.hasDictIn K E_NoRooms = true)
    (a_f__law_digit : PySem.W.nsIn K mainGlobals "_law_digit" = some (some (.ref f__law_digit)))
    (l_f__law_digit : ∃ fd, Fun K "_law_digit" "_law_digit" s__law_digit f__law_digit fd)
    (a_f__law_room : PySem.W.nsIn K mainGlobals "_law_room" = some (some (.ref f__law_room)))
    (l_f__law_room : ∃ fd, Fun K "_law_room" "_law_room" s__law_room f__law_room fd)
    (a_f__law_great : PySem.W.nsIn K mainGlobals "_law_great" = some (some (.ref f__law_great)))
    (l_f__law_great : ∃ fd, Fun K "_law_great" "_law_great" s__law_great f__law_great fd)
    (a_f_is_whole : PySem.W.nsIn K mainGlobals "is_whole" = some (some (.ref f_is_whole)))
    (l_f_is_whole : ∃ fd, Fun K "is_whole" "is_whole" s_is_whole f_is_whole fd)
    (a_f_are_rooms : PySem.W.nsIn K mainGlobals "are_rooms" = some (some (.ref f_are_rooms)))
    (l_f_are_rooms : ∃ fd, Fun K "are_rooms" "are_rooms" s_are_rooms f_are_rooms fd)
    (a_f_lone_life : PySem.W.nsIn K mainGlobals "lone_life" = some (some (.ref f_lone_life)))
    (l_f_lone_life : ∃ fd, Fun K "lone_life" "lone_life" s_lone_life f_lone_life fd)
    (a_f__law_longest : PySem.W.nsIn K mainGlobals "_law_longest" = some (some (.ref f__law_longest)))
    (l_f__law_longest : ∃ fd, Fun K "_law_longest" "_law_longest" s__law_longest f__law_longest fd)
    (a_f__law_is_life : PySem.W.nsIn K mainGlobals "_law_is_life" = some (some (.ref f__law_is_life)))
    (l_f__law_is_life : ∃ fd, Fun K "_law_is_life" "_law_is_life" s__law_is_life f__law_is_life fd)
    (a_f__law_best_first : PySem.W.nsIn K mainGlobals "_law_best_first" = some (some (.ref f__law_best_first)))
    (l_f__law_best_first : ∃ fd, Fun K "_law_best_first" "_law_best_first" s__law_best_first f__law_best_first fd)
    (a_f_law : PySem.W.nsIn K mainGlobals "law" = some (some (.ref f_law)))
    (l_f_law : ∃ fd, Fun K "law" "law" s_law f_law fd) :
    ∃ fd : FuncData, (∀ (s : Shared) (v : Value), BindsTo s fd ⟨[v], []⟩ [("script", v)]) ∧ ∀ base : Heap, K.In base → base.Ns mainGlobals mg → FnOk P w K mg base (L2.CX P w) 5 fa fd ["script"] (spLaw K) := by
  have e : fa = f_law := by
    have e := hfa.symm.trans (PySem.W.mg_of X G a_f_law)
    cases e
    rfl
  rw [e]
  have ex_NoIndex : ∃ A : ExAt K mg "NoIndex", A.C = E_NoIndex := ⟨⟨E_NoIndex, PySem.W.mg_of X G e_NoIndex, x_NoIndex, ke_NoIndex, be_NoIndex, te_NoIndex, he_NoIndex⟩, rfl⟩
  obtain ⟨Ex_NoIndex, q_NoIndex⟩ := ex_NoIndex
  have ex_NoRooms : ∃ A : ExAt K mg "NoRooms", A.C = E_NoRooms := ⟨⟨E_NoRooms, PySem.W.mg_of X G e_NoRooms, x_NoRooms, ke_NoRooms, be_NoRooms, te_NoRooms, he_NoRooms⟩, rfl⟩
  obtain ⟨Ex_NoRooms, q_NoRooms⟩ := ex_NoRooms
  obtain ⟨d__law_digit, F__law_digit⟩ := l_f__law_digit
  obtain ⟨d__law_room, F__law_room⟩ := l_f__law_room
  obtain ⟨d__law_great, F__law_great⟩ := l_f__law_great
  obtain ⟨d_is_whole, F_is_whole⟩ := l_f_is_whole
  obtain ⟨d_are_rooms, F_are_rooms⟩ := l_f_are_rooms
  obtain ⟨d_lone_life, F_lone_life⟩ := l_f_lone_life
  obtain ⟨d__law_longest, F__law_longest⟩ := l_f__law_longest
  obtain ⟨d__law_is_life, F__law_is_life⟩ := l_f__law_is_life
  obtain ⟨d__law_best_first, F__law_best_first⟩ := l_f__law_best_first
  obtain ⟨d_law, F_law⟩ := l_f_law
  have T : ∃ T : Txt K mg, T.f_law.f = f_law ∧ T.f_law.fd = d_law := ⟨{
    b_all := PySem.W.mg_none_of X G b_all
    b_bool := PySem.W.mg_none_of X G b_bool
    b_int := PySem.W.mg_none_of X G b_int
    b_isinstance := PySem.W.mg_none_of X G b_isinstance
    b_len := PySem.W.mg_none_of X G b_len
    b_list := PySem.W.mg_none_of X G b_list
    b_max := PySem.W.mg_none_of X G b_max
    b_min := PySem.W.mg_none_of X G b_min
    b_range := PySem.W.mg_none_of X G b_range
    b_sum := PySem.W.mg_none_of X G b_sum
    c_MOST_ROOM := ⟨_, PySem.W.mg_of X G c_MOST_ROOM⟩
    c_MOST_ROOMS := ⟨_, PySem.W.mg_of X G c_MOST_ROOMS⟩
    e_NoIndex := Ex_NoIndex
    e_NoRooms := Ex_NoRooms
    f__law_digit := ⟨f__law_digit, d__law_digit, F__law_digit, PySem.W.mg_of X G a_f__law_digit, F__law_digit.binds (ps := ["pool", "many"]) fun _ _ _ _ _ _ us hl => match us, hl with | [_, _], _ => rfl⟩
    f__law_room := ⟨f__law_room, d__law_room, F__law_room, PySem.W.mg_of X G a_f__law_room, F__law_room.binds (ps := ["pool", "kind"]) fun _ _ _ _ _ _ us hl => match us, hl with | [_, _], _ => rfl⟩
    f__law_great := ⟨f__law_great, d__law_great, F__law_great, PySem.W.mg_of X G a_f__law_great, F__law_great.binds (ps := ["pool"]) fun _ _ _ _ _ _ us hl => match us, hl with | [_], _ => rfl⟩
    f_is_whole := ⟨f_is_whole, d_is_whole, F_is_whole, PySem.W.mg_of X G a_f_is_whole, F_is_whole.binds (ps := ["thing", "low", "high"]) fun _ _ _ _ _ _ us hl => match us, hl with | [_, _, _], _ => rfl⟩
    f_are_rooms := ⟨f_are_rooms, d_are_rooms, F_are_rooms, PySem.W.mg_of X G a_f_are_rooms, F_are_rooms.binds (ps := ["rooms"]) fun _ _ _ _ _ _ us hl => match us, hl with | [_], _ => rfl⟩
    f_lone_life := ⟨f_lone_life, d_lone_life, F_lone_life, PySem.W.mg_of X G a_f_lone_life, F_lone_life.binds (ps := ["rooms", "at"]) fun _ _ _ _ _ _ us hl => match us, hl with | [_, _], _ => rfl⟩
    f__law_longest := ⟨f__law_longest, d__law_longest, F__law_longest, PySem.W.mg_of X G a_f__law_longest, F__law_longest.binds (ps := ["rooms", "at"]) fun _ _ _ _ _ _ us hl => match us, hl with | [_, _], _ => rfl⟩
    f__law_is_life := ⟨f__law_is_life, d__law_is_life, F__law_is_life, PySem.W.mg_of X G a_f__law_is_life, F__law_is_life.binds (ps := ["found", "due"]) fun _ _ _ _ _ _ us hl => match us, hl with | [_, _], _ => rfl⟩
    f__law_best_first := ⟨f__law_best_first, d__law_best_first, F__law_best_first, PySem.W.mg_of X G a_f__law_best_first, F__law_best_first.binds (ps := ["rooms", "at"]) fun _ _ _ _ _ _ us hl => match us, hl with | [_, _], _ => rfl⟩
    f_law := ⟨f_law, d_law, F_law, PySem.W.mg_of X G a_f_law, F_law.binds (ps := ["script"]) fun _ _ _ _ _ _ us hl => match us, hl with | [_], _ => rfl⟩ }, rfl, rfl⟩
  obtain ⟨T, e1, e2⟩ := T
  refine ⟨d_law, bind1 F_law fun _ _ _ _ _ _ _ => rfl, fun base _ _ => ?_⟩
  have ok := ok_law (P := P) (w := w) (base := base) T
  rw [e1, e2] at ok
  exact ok.imp (law_imp LT)

end Sh.k48

set_option linter.all false
set_option maxRecDepth 100000
namespace Sh.k48
def Nn (l : List Int) : Prop := ∀ x ∈ l, 0 ≤ x
theorem Nn.get {l : List Int} (h : Nn l) {i : Nat} {x : Int} (e : l[i]? = some x) : 0 ≤ x := h x (List.mem_of_getElem? e)
theorem Nn.tail {a : Int} {l : List Int} (h : Nn (a :: l)) : Nn l := fun x hx => h x (List.mem_cons_of_mem _ hx)
theorem sum_nn : ∀ {l : List Int}, Nn l → 0 ≤ l.sum
  | [], _ => by simp
  | a :: l, h => by
    have h1 := sum_nn h.tail
    have h2 := h a List.mem_cons_self
    rw [List.sum_cons]
    omega
theorem le_sum : ∀ {l : List Int} {i : Nat} {x : Int}, Nn l → l[i]? = some x → x ≤ l.sum
  | [], _, _, _, e => by simp at e
  | a :: l, 0, x, h, e => by
    have h1 := sum_nn h.tail
    simp at e
    rw [List.sum_cons]
    omega
  | a :: l, i + 1, x, h, e => by
    have h1 := le_sum (i := i) (x := x) h.tail (by simpa using e)
    have h2 := h a List.mem_cons_self
    rw [List.sum_cons]
    omega
theorem two_sum : ∀ {l : List Int} {i j : Nat} {x y : Int}, Nn l → i ≠ j → l[i]? = some x → l[j]? = some y → x + y ≤ l.sum
  | [], _, _, _, _, _, _, e, _ => by simp at e
  | a :: l, 0, 0, x, y, h, hn, _, _ => absurd rfl hn
  | a :: l, 0, j + 1, x, y, h, _, e1, e2 => by
    have h1 := le_sum (i := j) (x := y) h.tail (by simpa using e2)
    simp at e1
    rw [List.sum_cons]
    omega
  | a :: l, i + 1, 0, x, y, h, _, e1, e2 => by
    have h1 := le_sum (i := i) (x := x) h.tail (by simpa using e1)
    simp at e2
    rw [List.sum_cons]
    omega
  | a :: l, i + 1, j + 1, x, y, h, hn, e1, e2 => by
    have h1 := two_sum (i := i) (j := j) (x := x) (y := y) h.tail (by omega) (by simpa using e1) (by simpa using e2)
    have h2 := h a List.mem_cons_self
    rw [List.sum_cons]
    omega
theorem sum_put : ∀ {l : List Int} {i : Nat} {x : Int} (y : Int), l[i]? = some x → (l.set i y).sum = l.sum - x + y
  | [], _, _, _, e => by simp at e
  | a :: l, 0, x, y, e => by
    simp at e
    rw [List.set_cons_zero, List.sum_cons, List.sum_cons]
    omega
  | a :: l, i + 1, x, y, e => by
    have h1 := sum_put (i := i) (x := x) y (by simpa using e)
    rw [List.set_cons_succ, List.sum_cons, List.sum_cons]
    omega
theorem sum_zero : ∀ {l : List Int}, (∀ (i : Nat) (y : Int), l[i]? = some y → y = 0) → l.sum = 0
  | [], _ => rfl
  | a :: l, h => by
    rw [List.sum_cons, sum_zero (l := l) fun i y e => h (i + 1) y (by simpa using e), h 0 a rfl]
    rfl
theorem sum_only : ∀ {l : List Int} {a : Nat} {x : Int}, l[a]? = some x → (∀ (i : Nat) (y : Int), i ≠ a → l[i]? = some y → y = 0) → l.sum = x
  | [], _, _, e, _ => by simp at e
  | b :: l, 0, x, e, h => by
    simp at e
    rw [List.sum_cons, sum_zero (l := l) fun i y e => h (i + 1) y (by omega) (by simpa using e)]
    omega
  | b :: l, a + 1, x, e, h => by
    have h1 := sum_only (l := l) (a := a) (x := x) (by simpa using e) fun i y hi e => h (i + 1) y (by omega) (by simpa using e)
    have h2 := h 0 b (by omega) rfl
    rw [List.sum_cons]
    omega
theorem count_one : ∀ {l : List Int} {i : Nat} {m : Int}, l[i]? = some m → (∀ j : Nat, l[j]? = some m → j = i) → l.count m = 1
  | [], _, _, e, _ => by simp at e
  | x :: t, 0, m, e, h => by
    simp at e
    subst e
    have hz : x ∉ t := fun hx => by
      obtain ⟨j, hj, e⟩ := List.mem_iff_getElem.mp hx
      have := h (j + 1) (by rw [List.getElem?_cons_succ, List.getElem?_eq_getElem hj, e])
      omega
    rw [List.count_cons_self, List.count_eq_zero.mpr hz]
  | x :: t, i + 1, m, e, h => by
    have hx : x ≠ m := fun z => by
      have := h 0 (by simp [z])
      omega
    rw [List.count_cons_of_ne hx]
    exact count_one (i := i) (by simpa using e) fun j ej => by
      have := h (j + 1) (by simpa using ej)
      omega
theorem one_count : ∀ {l : List Int} {i j : Nat} {m : Int}, l.count m = 1 → l[i]? = some m → l[j]? = some m → i = j
  | [], _, _, _, _, e, _ => by simp at e
  | x :: t, 0, 0, m, _, _, _ => rfl
  | x :: t, 0, j + 1, m, h, e1, e2 => by
    simp at e1 e2
    subst e1
    rw [List.count_cons_self] at h
    have : 0 < t.count x := List.count_pos_iff.mpr (List.mem_of_getElem? e2)
    omega
  | x :: t, i + 1, 0, m, h, e1, e2 => by
    simp at e1 e2
    subst e2
    rw [List.count_cons_self] at h
    have : 0 < t.count x := List.count_pos_iff.mpr (List.mem_of_getElem? e1)
    omega
  | x :: t, i + 1, j + 1, m, h, e1, e2 => by
    have e1' : t[i]? = some m := by simpa using e1
    have e2' : t[j]? = some m := by simpa using e2
    have h1 : 0 < t.count m := List.count_pos_iff.mpr (List.mem_of_getElem? e1')
    have h2 : t.count m = 1 := by
      rw [List.count_cons] at h
      split at h <;> omega
    rw [one_count (i := i) (j := j) h2 e1' e2']

/-- what bounds the life: of the block i with x writes left -/
def bd (l : List Int) (q : Option Nat) (i : Nat) (x : Int) : Int := 2 * (l.sum - x) + (if q = some i then 0 else 1)
def IsL (l : List Int) (q : Option Nat) (v : Int) : Prop := v ≤ l.sum ∧ (∀ (i : Nat) (x : Int), l[i]? = some x → v ≤ bd l q i x) ∧ (v = l.sum ∨ ∃ (i : Nat) (x : Int), l[i]? = some x ∧ v = bd l q i x)
theorem IsL.uniq {l : List Int} {q : Option Nat} {v w : Int} (a : IsL l q v) (b : IsL l q w) : v = w := by
  obtain ⟨a1, a2, a3⟩ := a
  obtain ⟨b1, b2, b3⟩ := b
  have h1 : v ≤ w := by
    rcases b3 with rfl | ⟨i, x, e, rfl⟩
    · exact a1
    · exact a2 i x e
  have h2 : w ≤ v := by
    rcases a3 with rfl | ⟨i, x, e, rfl⟩
    · exact b1
    · exact b2 i x e
  omega
theorem IsL.nn {l : List Int} {q : Option Nat} {v : Int} (nn : Nn l) (a : IsL l q v) : 0 ≤ v := by
  rcases a.2.2 with rfl | ⟨i, x, e, rfl⟩
  · exact sum_nn nn
  · have h1 := le_sum nn e
    unfold bd
    split <;> omega
def mn (i j : Int) : Int := if j < i then j else i
theorem isL_of {l : List Int} {q : Option Nat} {m : Int} (nn : Nn l) (hm : m ∈ l) (hx : ∀ y ∈ l, y ≤ m) (c : Bool) (hc : c = true ↔ (∃ a, q = some a ∧ l[a]? = some m) ∧ l.count m = 1) :
    IsL l q (if c = true then mn l.sum (2 * (l.sum - m)) else mn l.sum (2 * (l.sum - m) + 1)) := by
  have hle : ∀ {i : Nat} {x : Int}, l[i]? = some x → x ≤ m := fun e => hx _ (List.mem_of_getElem? e)
  split
  · rename_i h
    obtain ⟨⟨a, rfl, ha⟩, hcnt⟩ := hc.mp h
    refine ⟨by unfold mn; split <;> omega, fun i x e => ?_, ?_⟩
    · have h1 := hle e
      by_cases hi : a = i
      · subst hi
        rw [ha] at e
        cases e
        unfold bd
        rw [if_pos rfl]
        unfold mn
        split <;> omega
      · have h2 : x ≠ m := fun z => hi (one_count hcnt ha (z ▸ e))
        unfold bd
        rw [if_neg (fun z => hi (by cases z; rfl))]
        unfold mn
        split <;> omega
    · unfold mn
      split
      · refine .inr ⟨a, m, ha, ?_⟩
        unfold bd
        rw [if_pos rfl]
        omega
      · exact .inl rfl
  · rename_i h
    have hno : ∀ i : Nat, q = some i → l[i]? = some m → ∃ j, j ≠ i ∧ l[j]? = some m := by
      intro i hq hi
      refine Classical.byContradiction fun hne => h (hc.mpr ⟨⟨i, hq, hi⟩, count_one hi fun j ej => ?_⟩)
      exact Classical.byContradiction fun hji => hne ⟨j, hji, ej⟩
    refine ⟨by unfold mn; split <;> omega, fun i x e => ?_, ?_⟩
    · have h1 := hle e
      by_cases hi : q = some i
      · unfold bd
        rw [if_pos hi]
        by_cases hxm : x = m
        · subst hxm
          obtain ⟨j, hj, ej⟩ := hno i hi e
          have h2 := two_sum nn hj ej e
          unfold mn
          split <;> omega
        · unfold mn
          split <;> omega
      · unfold bd
        rw [if_neg hi]
        unfold mn
        split <;> omega
    · unfold mn
      split
      · obtain ⟨i, hi, e⟩ := List.mem_iff_getElem.mp hm
        have e1 : l[i]? = some m := by rw [List.getElem?_eq_getElem hi, e]
        by_cases hq : q = some i
        · obtain ⟨j, hj, ej⟩ := hno i hq e1
          refine .inr ⟨j, m, ej, ?_⟩
          unfold bd
          rw [if_neg (fun z => hj (by rw [hq] at z; cases z; rfl))]
        · refine .inr ⟨i, m, e1, ?_⟩
          unfold bd
          rw [if_neg hq]
      · exact .inl rfl
section
variable {l : List Int} {q : Option Nat} {v w xb : Int} {b : Nat}
theorem less_nn (nn : Nn l) (hb : l[b]? = some xb) (hp : 0 < xb) : Nn (l.set b (xb - 1)) := by
  intro x hx
  rcases List.mem_or_eq_of_mem_set hx with h | h
  · exact nn x h
  · omega
theorem less_get {i : Nat} {x : Int} (hi : i ≠ b) (e : l[i]? = some x) (y : Int) : (l.set b y)[i]? = some x := by
  rw [List.getElem?_set_ne (fun z => hi z.symm)]
  exact e
theorem less_self (hb : l[b]? = some xb) (y : Int) : (l.set b y)[b]? = some y := List.getElem?_set_self (List.getElem?_eq_some_iff.mp hb).1
/-- no first write is better -/
theorem step_le (nn : Nn l) (hb : l[b]? = some xb) (hp : 0 < xb) (hq : q ≠ some b) (a : IsL l q v) (c : IsL (l.set b (xb - 1)) (some b) w) : 1 + w ≤ v := by
  have hs := sum_put (xb - 1) hb
  rcases a.2.2 with h | ⟨i, x, e, h⟩
  · have := c.1
    omega
  · by_cases hi : i = b
    · subst hi
      rw [hb] at e
      cases e
      have h1 := c.2.1 i _ (less_self hb _)
      unfold bd at h1 h
      rw [if_pos rfl] at h1
      rw [if_neg hq] at h
      omega
    · have h1 := c.2.1 i _ (less_get hi e _)
      unfold bd at h1 h
      rw [if_neg (fun z => hi (by cases z; rfl))] at h1
      split at h <;> omega
/-- the write to the block with the greatest room is the best -/
theorem step_ge (nn : Nn l) (hb : l[b]? = some xb) (hp : 0 < xb) (hq : q ≠ some b) (hg : ∀ (i : Nat) (x : Int), q ≠ some i → l[i]? = some x → x ≤ xb) (a : IsL l q v) (c : IsL (l.set b (xb - 1)) (some b) w) : v ≤ 1 + w := by
  have hs := sum_put (xb - 1) hb
  rcases c.2.2 with h | ⟨i, x, e, h⟩
  · have := a.1
    omega
  · by_cases hi : i = b
    · subst hi
      rw [less_self hb] at e
      cases e
      have h1 := a.2.1 i _ hb
      unfold bd at h1 h
      rw [if_pos rfl] at h
      rw [if_neg hq] at h1
      omega
    · rw [List.getElem?_set_ne (fun z => hi z.symm)] at e
      unfold bd at h
      rw [if_neg (fun z => hi (by cases z; rfl))] at h
      by_cases hqi : q = some i
      · have h1 := a.2.1 i _ e
        unfold bd at h1
        rw [if_pos hqi] at h1
        omega
      · have h1 := hg i x hqi e
        have h2 := two_sum nn hi e hb
        have h3 := a.1
        omega
theorem step_eq (nn : Nn l) (hb : l[b]? = some xb) (hp : 0 < xb) (hq : q ≠ some b) (hg : ∀ (i : Nat) (x : Int), q ≠ some i → l[i]? = some x → x ≤ xb) (a : IsL l q v) (c : IsL (l.set b (xb - 1)) (some b) w) : v = 1 + w :=
  Int.le_antisymm (step_ge nn hb hp hq hg a c) (step_le nn hb hp hq a c)
/-- nothing to write to -/
theorem step_no (nn : Nn l) (hl : ∀ i, q = some i → i < l.length) (hno : ∀ (i : Nat) (x : Int), q ≠ some i → l[i]? = some x → ¬ 0 < x) (a : IsL l q v) : v = 0 := by
  have h0 := a.nn nn
  cases q with
  | none =>
    have hz := sum_zero (l := l) fun i y e => by
      have h1 := hno i y (fun z => by cases z) e
      have h2 := nn.get e
      omega
    have := a.1
    omega
  | some k =>
    have hk := hl k rfl
    have ek : l[k]? = some l[k] := List.getElem?_eq_getElem hk
    have hz := sum_only ek fun i y hi e => by
      have h1 := hno i y (fun z => hi (by cases z; rfl)) e
      have h2 := nn.get e
      omega
    have h1 := a.2.1 k _ ek
    unfold bd at h1
    rw [if_pos rfl] at h1
    omega
end
end Sh.k48

namespace Sh.k48
open PySem L2 PyProof.Rows Sh
/-- the pool stands at 1, the cells at 0 -/
structure Pl (ns : List Int) (h : Hm) : Prop where
  c : h[0]? = some (.lst (ns.map D.int))
  p : ∃ a r : Int, h[1]? = some (.lst [.ref 0, .int a, .int r]) ∧ 0 ≤ a
def Fr (h h' : Hm) : Prop := h.length ≤ h'.length ∧ ∀ k, 2 ≤ k → k < h.length → h'[k]? = h[k]?
theorem Fr.refl (h : Hm) : Fr h h := ⟨Nat.le_refl _, fun _ _ _ => rfl⟩
theorem Fr.trans {h h1 h2 : Hm} (a : Fr h h1) (b : Fr h1 h2) : Fr h h2 := ⟨Nat.le_trans a.1 b.1, fun k h2 hk => by rw [b.2 k h2 (Nat.lt_of_lt_of_le hk a.1), a.2 k h2 hk]⟩
theorem Fr.app (h t : Hm) : Fr h (h ++ t) := ⟨by simp, fun k _ hk => List.getElem?_append_left hk⟩
theorem Fr.set1 (h : Hm) (o : O) : Fr h (h.set 1 o) := ⟨by simp, fun k h2 hk => by rw [List.getElem?_set_ne (by omega)]⟩
theorem Fr.get {h h' : Hm} (f : Fr h h') {k : Nat} {o : O} (h2 : 2 ≤ k) (e : h[k]? = some o) : h'[k]? = some o := by rw [f.2 k h2 (lt_of_get e)]; exact e
theorem Pl.app {ns : List Int} {h : Hm} (pl : Pl ns h) (t : Hm) : Pl ns (h ++ t) := by
  obtain ⟨a, r, hp, ha⟩ := pl.p
  exact ⟨by rw [List.getElem?_append_left (lt_of_get pl.c)]; exact pl.c, a, r, by rw [List.getElem?_append_left (lt_of_get hp)]; exact hp, ha⟩
theorem Pl.set {ns : List Int} {h : Hm} (pl : Pl ns h) {k : Nat} (o : O) (h2 : 2 ≤ k) : Pl ns (h.set k o) := by
  obtain ⟨a, r, hp, ha⟩ := pl.p
  exact ⟨by rw [List.getElem?_set_ne (by omega)]; exact pl.c, a, r, by rw [List.getElem?_set_ne (by omega)]; exact hp, ha⟩
theorem Pl.put {ns : List Int} {h : Hm} (pl : Pl ns h) {a r : Int} (ha : 0 ≤ a) : Pl ns (h.set 1 (.lst [.ref 0, .int a, .int r])) := by
  obtain ⟨a', r', hp, _⟩ := pl.p
  exact ⟨by rw [List.getElem?_set_ne (by omega)]; exact pl.c, a, r, by rw [List.getElem?_set_self (lt_of_get hp)], ha⟩
theorem ix_ints {h : Hm} {n k : Nat} {l : List Int} {x : Int} (e : h[n]? = some (.lst (l.map D.int))) (ex : l[k]? = some x) : dIx (.ref n) (.int (k : Nat)) h = .ok (.int x) h := ix_ref e (by rw [List.getElem?_map, ex]; rfl)
theorem m7 (j : Int) (h : Hm) : dMul (.int 7) (.int j) h = .ok (.int (7 * j)) h := o_mulL (by decide) (by decide)
theorem m13 (j : Int) (h : Hm) : dMul (.int j) (.int 13) h = .ok (.int (j * 13)) h := o_mulR (by decide) (by decide)
theorem m48 (j : Int) (h : Hm) : dMul (.int j) (.int 48271) h = .ok (.int (j * 48271)) h := o_mulR (by decide) (by decide)
theorem m79 (j : Int) (h : Hm) : dMul (.int j) (.int 7919) h = .ok (.int (j * 7919)) h := o_mulR (by decide) (by decide)
theorem md {i j : Int} {h : Hm} (h0 : 0 < j) : dMod (.int i) (.int j) h = .ok (.int (i % j)) h := by rw [o_mod, if_pos h0]
theorem x_digit {ns : List Int} {h : Hm} {many : Int} (pl : Pl ns h) (h0 : 0 < many) (h1 : many < 18446744073709551616) :
    OK (m__law_digit [.ref 1, .int many] h) fun d h' => ∃ i, d = .int i ∧ (0 ≤ i ∧ i < many) ∧ Pl ns h' ∧ Fr h h' := by
  obtain ⟨a, r, hp, ha⟩ := pl.p
  have i0 : dIx (.ref 1) (.int 0) h = .ok (.ref 0) h := ix_ref (k := 0) hp rfl
  have i1 : dIx (.ref 1) (.int 1) h = .ok (.int a) h := ix_ref (k := 1) hp rfl
  have i2 : dIx (.ref 1) (.int 2) h = .ok (.int r) h := ix_ref (k := 2) hp rfl
  have dv : ∀ (i : Int) (h : Hm), dDiv (.int i) (.int many) h = .ok (.int (i / many)) h := fun i h => o_div h0 h1
  have mo : ∀ (i : Int) (h : Hm), dMod (.int i) (.int many) h = .ok (.int (i % many)) h := fun i h => md h0
  have bnd : ∀ i : Int, 0 ≤ i % many ∧ i % many < many := fun i => ⟨Int.emod_nonneg _ (by omega), Int.emod_lt_of_pos _ h0⟩
  refine ok_run ?_
  show NX (g__law_digit [some (.ref 1), some (.int many), none, none, none, none, none] h) _ _
  unfold g__law_digit
  refine nx_seq (nx_ifP (p := 0 < r) (h1 := h) (by simp [i2]) (fun hr => ?_) (fun hr => ?_))
  · refine nx_seq (nx_set ?_)
    simp -implicitDefEqProofs only [ok_ok, ok_bind, ok_tb, bl_bl, x_bin, x_args, evR_cons, evR_nil, x_var, x_c, ofO_some, x_and, x_or, x_not, x_eif, x_chain, x_lst, x_tup, x_isi, List.getElem?_cons_zero, List.getElem?_cons_succ, List.set_cons_zero, List.set_cons_succ, o_cmp, o_sub, o_add, o_int, o_is_n, o_is_b, o_isN_n, o_isN_b, q_int, nq_int, i2]
    refine nx_seq (nx_lput ?_)
    simp -implicitDefEqProofs only [ok_ok, ok_bind, ok_tb, bl_bl, x_bin, x_args, evR_cons, evR_nil, x_var, x_c, ofO_some, x_and, x_or, x_not, x_eif, x_chain, x_lst, x_tup, x_isi, List.getElem?_cons_zero, List.getElem?_cons_succ, List.set_cons_zero, List.set_cons_succ, o_cmp, o_sub, o_add, o_int, o_is_n, o_is_b, o_isN_n, o_isN_b, q_int, nq_int, dv]
    refine ⟨1, 2, _, rfl, rfl, hp, by simp, ?_⟩
    refine nx_ret ?_
    simp -implicitDefEqProofs only [ok_ok, ok_bind, ok_tb, bl_bl, x_bin, x_args, evR_cons, evR_nil, x_var, x_c, ofO_some, x_and, x_or, x_not, x_eif, x_chain, x_lst, x_tup, x_isi, List.getElem?_cons_zero, List.getElem?_cons_succ, List.set_cons_zero, List.set_cons_succ, o_cmp, o_sub, o_add, o_int, o_is_n, o_is_b, o_isN_n, o_isN_b, q_int, nq_int, mo]
    exact ⟨_, rfl, bnd _, pl.put ha, Fr.set1 _ _⟩
  · refine nx_next ?_
    refine nx_seq (nx_set ?_)
    simp -implicitDefEqProofs only [ok_ok, ok_bind, ok_tb, bl_bl, x_bin, x_args, evR_cons, evR_nil, x_var, x_c, ofO_some, x_and, x_or, x_not, x_eif, x_chain, x_lst, x_tup, x_isi, List.getElem?_cons_zero, List.getElem?_cons_succ, List.set_cons_zero, List.set_cons_succ, o_cmp, o_sub, o_add, o_int, o_is_n, o_is_b, o_isN_n, o_isN_b, q_int, nq_int, i0]
    refine nx_seq (nx_set ?_)
    simp -implicitDefEqProofs only [ok_ok, ok_bind, ok_tb, bl_bl, x_bin, x_args, evR_cons, evR_nil, x_var, x_c, ofO_some, x_and, x_or, x_not, x_eif, x_chain, x_lst, x_tup, x_isi, List.getElem?_cons_zero, List.getElem?_cons_succ, List.set_cons_zero, List.set_cons_succ, o_cmp, o_sub, o_add, o_int, o_is_n, o_is_b, o_isN_n, o_isN_b, q_int, nq_int, i1]
    refine nx_seq (nx_lput ?_)
    simp -implicitDefEqProofs only [ok_ok, ok_bind, ok_tb, bl_bl, x_bin, x_args, evR_cons, evR_nil, x_var, x_c, ofO_some, x_and, x_or, x_not, x_eif, x_chain, x_lst, x_tup, x_isi, List.getElem?_cons_zero, List.getElem?_cons_succ, List.set_cons_zero, List.set_cons_succ, o_cmp, o_sub, o_add, o_int, o_is_n, o_is_b, o_isN_n, o_isN_b, q_int, nq_int]
    refine ⟨1, 1, _, rfl, rfl, hp, by simp, ?_⟩
    have pl1 : Pl ns (h.set 1 (.lst [.ref 0, .int (a + 1), .int r])) := pl.put (by omega)
    have fr1 : Fr h (h.set 1 (.lst [.ref 0, .int (a + 1), .int r])) := Fr.set1 _ _
    have hp1 : (h.set 1 (.lst [.ref 0, .int (a + 1), .int r]))[1]? = some (.lst [.ref 0, .int (a + 1), .int r]) := List.getElem?_set_self (lt_of_get hp)
    simp only [List.set_cons_zero, List.set_cons_succ]
    generalize h.set 1 (.lst [.ref 0, .int (a + 1), .int r]) = g at pl1 fr1 hp1
    refine nx_seq (nx_set ?_)
    simp -implicitDefEqProofs only [ok_ok, ok_bind, ok_tb, bl_bl, x_bin, x_args, evR_cons, evR_nil, x_var, x_c, ofO_some, x_and, x_or, x_not, x_eif, x_chain, x_lst, x_tup, x_isi, List.getElem?_cons_zero, List.getElem?_cons_succ, List.set_cons_zero, List.set_cons_succ, o_cmp, o_sub, o_add, o_int, o_is_n, o_is_b, o_isN_n, o_isN_b, q_int, nq_int, m7]
    refine nx_seq (NX.mono (N := fun s1 h2 => ∃ c : Int, s1 = [some (.ref 1), some (.int many), none, some (.ref 0), some (.int a), some (.int c), none] ∧ Pl ns h2 ∧ Fr h h2 ∧ h2[1]? = some (.lst [.ref 0, .int (a + 1), .int r])) (T := fun _ _ => False) ?_ ?_ (fun _ _ z => False.elim z))
    · refine nx_ifP (p := a < ns.length) (h1 := g) (by simp [len_ref pl1.c]) (fun hl => ?_) (fun hl => ?_)
      · refine nx_set ?_
        obtain ⟨j, rfl⟩ := Int.eq_ofNat_of_zero_le ha
        have hj : j < ns.length := by omega
        simp -implicitDefEqProofs only [ok_ok, ok_bind, ok_tb, bl_bl, x_bin, x_args, evR_cons, evR_nil, x_var, x_c, ofO_some, x_and, x_or, x_not, x_eif, x_chain, x_lst, x_tup, x_isi, List.getElem?_cons_zero, List.getElem?_cons_succ, List.set_cons_zero, List.set_cons_succ, o_cmp, o_sub, o_add, o_int, o_is_n, o_is_b, o_isN_n, o_isN_b, q_int, nq_int, ix_ints pl1.c (List.getElem?_eq_getElem hj)]
        exact ⟨_, rfl, pl1, fr1, hp1⟩
      · have en : (g ++ [O.lst []])[g.length]? = some (.lst (([] : List Int).map D.int)) := by simp
        have ec : (g ++ [O.lst []])[0]? = some (.lst (ns.map D.int)) := (pl1.app _).c
        refine nx_ifP (p := ¬ ns = []) (h1 := g ++ [.lst []]) (by simp [ne_ints ec en]) (fun hl => ?_) (fun hl => ?_)
        · refine nx_set ?_
          have hj : 0 < ns.length := List.length_pos_iff.mpr hl
          have e0 : dIx (.ref 0) (.int 0) (g ++ [O.lst []]) = .ok (.int ns[0]) (g ++ [O.lst []]) := ix_ints (k := 0) ec (List.getElem?_eq_getElem hj)
          simp -implicitDefEqProofs only [ok_ok, ok_bind, ok_tb, bl_bl, x_bin, x_args, evR_cons, evR_nil, x_var, x_c, ofO_some, x_and, x_or, x_not, x_eif, x_chain, x_lst, x_tup, x_isi, List.getElem?_cons_zero, List.getElem?_cons_succ, List.set_cons_zero, List.set_cons_succ, o_cmp, o_sub, o_add, o_int, o_is_n, o_is_b, o_isN_n, o_isN_b, q_int, nq_int, e0, m7, m13, md (show (0 : Int) < 1000003 by decide)]
          exact ⟨_, rfl, pl1.app _, fr1.trans (Fr.app _ _), by rw [get_old (lt_of_get hp1)]; exact hp1⟩
        · refine nx_next ⟨_, rfl, pl1.app _, fr1.trans (Fr.app _ _), by rw [get_old (lt_of_get hp1)]; exact hp1⟩
    · rintro _ h2 ⟨c, rfl, pl2, fr2, hp2⟩
      refine nx_seq (nx_ifP (p := 1000000000000000000 ≤ c) (h1 := h2) (by simp [o_pow18]) (fun hc => ?_) (fun hc => ?_))
      · refine nx_seq (nx_lput ?_)
        simp -implicitDefEqProofs only [ok_ok, ok_bind, ok_tb, bl_bl, x_bin, x_args, evR_cons, evR_nil, x_var, x_c, ofO_some, x_and, x_or, x_not, x_eif, x_chain, x_lst, x_tup, x_isi, List.getElem?_cons_zero, List.getElem?_cons_succ, List.set_cons_zero, List.set_cons_succ, o_cmp, o_sub, o_add, o_int, o_is_n, o_is_b, o_isN_n, o_isN_b, q_int, nq_int, dv]
        refine ⟨1, 2, _, rfl, rfl, hp2, by simp, ?_⟩
        refine nx_ret ?_
        simp -implicitDefEqProofs only [ok_ok, ok_bind, ok_tb, bl_bl, x_bin, x_args, evR_cons, evR_nil, x_var, x_c, ofO_some, x_and, x_or, x_not, x_eif, x_chain, x_lst, x_tup, x_isi, List.getElem?_cons_zero, List.getElem?_cons_succ, List.set_cons_zero, List.set_cons_succ, o_cmp, o_sub, o_add, o_int, o_is_n, o_is_b, o_isN_n, o_isN_b, q_int, nq_int, mo]
        exact ⟨_, rfl, bnd _, pl2.put (by omega), fr2.trans (Fr.set1 _ _)⟩
      · refine nx_next ?_
        refine nx_seq (nx_set ?_)
        simp -implicitDefEqProofs only [ok_ok, ok_bind, ok_tb, bl_bl, x_bin, x_args, evR_cons, evR_nil, x_var, x_c, ofO_some, x_and, x_or, x_not, x_eif, x_chain, x_lst, x_tup, x_isi, List.getElem?_cons_zero, List.getElem?_cons_succ, List.set_cons_zero, List.set_cons_succ, o_cmp, o_sub, o_add, o_int, o_is_n, o_is_b, o_isN_n, o_isN_b, q_int, nq_int, m48, m79, md (show (0 : Int) < 2147483647 by decide)]
        have b1 : 0 ≤ (c * 48271 + a * 7919 + 30103) % 2147483647 ∧ (c * 48271 + a * 7919 + 30103) % 2147483647 < 2147483647 := ⟨Int.emod_nonneg _ (by decide), Int.emod_lt_of_pos _ (by decide)⟩
        generalize (c * 48271 + a * 7919 + 30103) % 2147483647 = u at b1
        refine nx_seq (nx_set ?_)
        simp -implicitDefEqProofs only [ok_ok, ok_bind, ok_tb, bl_bl, x_bin, x_args, evR_cons, evR_nil, x_var, x_c, ofO_some, x_and, x_or, x_not, x_eif, x_chain, x_lst, x_tup, x_isi, List.getElem?_cons_zero, List.getElem?_cons_succ, List.set_cons_zero, List.set_cons_succ, o_cmp, o_sub, o_add, o_int, o_is_n, o_is_b, o_isN_n, o_isN_b, q_int, nq_int, o_div (show (0 : Int) < 1013 by decide) (by decide), o_mulL (show -18446744073709551616 < u by omega) (by omega), md (show (0 : Int) < 2147483629 by decide)]
        have b2 : 0 ≤ u * (u / 1013 + 69623) % 2147483629 ∧ u * (u / 1013 + 69623) % 2147483629 < 2147483629 := ⟨Int.emod_nonneg _ (by decide), Int.emod_lt_of_pos _ (by decide)⟩
        generalize u * (u / 1013 + 69623) % 2147483629 = v at b2
        refine nx_seq (nx_set ?_)
        simp -implicitDefEqProofs only [ok_ok, ok_bind, ok_tb, bl_bl, x_bin, x_args, evR_cons, evR_nil, x_var, x_c, ofO_some, x_and, x_or, x_not, x_eif, x_chain, x_lst, x_tup, x_isi, List.getElem?_cons_zero, List.getElem?_cons_succ, List.set_cons_zero, List.set_cons_succ, o_cmp, o_sub, o_add, o_int, o_is_n, o_is_b, o_isN_n, o_isN_b, q_int, nq_int, o_div (show (0 : Int) < 2011 by decide) (by decide), o_mulL (show -18446744073709551616 < v by omega) (by omega), md (show (0 : Int) < 2147483587 by decide)]
        refine nx_ret ?_
        simp -implicitDefEqProofs only [ok_ok, ok_bind, ok_tb, bl_bl, x_bin, x_args, evR_cons, evR_nil, x_var, x_c, ofO_some, x_and, x_or, x_not, x_eif, x_chain, x_lst, x_tup, x_isi, List.getElem?_cons_zero, List.getElem?_cons_succ, List.set_cons_zero, List.set_cons_succ, o_cmp, o_sub, o_add, o_int, o_is_n, o_is_b, o_isN_n, o_isN_b, q_int, nq_int, o_div (show (0 : Int) < 32 by decide) (by decide), mo]
        exact ⟨_, rfl, bnd _, pl2, fr2⟩
end Sh.k48

set_option linter.all false
namespace Sh.k48
open PySem L2 PyProof.Rows Sh
abbrev gr7 : FS := (gSeq (gFor (fiRg [(eVar 1)]) (tName 7) (gIf (eBin (dCmp fun i j => decide (i < j)) (eVar 7) (eC (.int 12))) (gDrop (eLm lAppend (eVar 6) [(eArgs m__law_room [(eVar 0), (eVar 2)])])) (gDrop (eLm lAppend (eVar 6) [(eBin dMod (eBin dAdd (eBin dMul (eVar 7) (eVar 7)) (eVar 4)) (eC (.int 3)))]))))
    (gSeq (gIf (eBin dEq (eVar 3) (eC (.int 1))) (gSeq (gSet 8 (eBin dSub (eBin dAdd (eBin dSub (eArgs bSum [(eVar 6)]) (eBin dIx (eVar 6) (eVar 5))) (eVar 4)) (eC (.int 3))))
    (gIf (eAnd (eBin (dCmp fun i j => decide (j ≤ i)) (eVar 8) (eC (.int 0))) (eBin (dCmp fun i j => decide (i ≤ j)) (eVar 8) (eBin dPow (eC (.int 10)) (eC (.int 9))))) (gLput (eVar 6) (eVar 5) (eVar 8)) gNext)) gNext)
    (gRet (eVar 6))))
abbrev gr8 : FS := (gSeq (gIf (eBin dEq (eVar 3) (eC (.int 1))) (gSeq (gSet 8 (eBin dSub (eBin dAdd (eBin dSub (eArgs bSum [(eVar 6)]) (eBin dIx (eVar 6) (eVar 5))) (eVar 4)) (eC (.int 3))))
    (gIf (eAnd (eBin (dCmp fun i j => decide (j ≤ i)) (eVar 8) (eC (.int 0))) (eBin (dCmp fun i j => decide (i ≤ j)) (eVar 8) (eBin dPow (eC (.int 10)) (eC (.int 9))))) (gLput (eVar 6) (eVar 5) (eVar 8)) gNext)) gNext)
    (gRet (eVar 6)))
abbrev lo3 : FS := (gSeq (gFor (fiRg [(eArgs bSum [(eVar 0)])]) (tName 5) (gSeq (gSet 6 (eC .non))
    (gSeq (gFor (fiRg [(eArgs bLen [(eVar 2)])]) (tName 7) (gIf (eAnd (eBin dNe (eVar 7) (eVar 3)) (eAnd (eBin (dCmp fun i j => decide (j < i)) (eBin dIx (eVar 2) (eVar 7)) (eC (.int 0))) (eOr (eBin dIs (eVar 6) (eC .non)) (eBin (dCmp fun i j => decide (j < i)) (eBin dIx (eVar 2) (eVar 7)) (eBin dIx (eVar 2) (eVar 6)))))) (gSet 6 (eVar 7)) gNext))
    (gSeq (gIf (eBin dIs (eVar 6) (eC .non)) (gRet (eVar 4)) gNext)
    (gSeq (gLput (eVar 2) (eVar 6) (eBin dSub (eBin dIx (eVar 2) (eVar 6)) (eC (.int 1))))
    (gSeq (gSet 3 (eVar 6))
    (gSet 4 (eBin dAdd (eVar 4) (eC (.int 1))))))))))
    (gRet (eVar 4)))
abbrev loB : FS := (gSeq (gSet 6 (eC .non))
    (gSeq (gFor (fiRg [(eArgs bLen [(eVar 2)])]) (tName 7) (gIf (eAnd (eBin dNe (eVar 7) (eVar 3)) (eAnd (eBin (dCmp fun i j => decide (j < i)) (eBin dIx (eVar 2) (eVar 7)) (eC (.int 0))) (eOr (eBin dIs (eVar 6) (eC .non)) (eBin (dCmp fun i j => decide (j < i)) (eBin dIx (eVar 2) (eVar 7)) (eBin dIx (eVar 2) (eVar 6)))))) (gSet 6 (eVar 7)) gNext))
    (gSeq (gIf (eBin dIs (eVar 6) (eC .non)) (gRet (eVar 4)) gNext)
    (gSeq (gLput (eVar 2) (eVar 6) (eBin dSub (eBin dIx (eVar 2) (eVar 6)) (eC (.int 1))))
    (gSeq (gSet 3 (eVar 6))
    (gSet 4 (eBin dAdd (eVar 4) (eC (.int 1)))))))))
abbrev loC : FS := (gIf (eAnd (eBin dNe (eVar 7) (eVar 3)) (eAnd (eBin (dCmp fun i j => decide (j < i)) (eBin dIx (eVar 2) (eVar 7)) (eC (.int 0))) (eOr (eBin dIs (eVar 6) (eC .non)) (eBin (dCmp fun i j => decide (j < i)) (eBin dIx (eVar 2) (eVar 7)) (eBin dIx (eVar 2) (eVar 6)))))) (gSet 6 (eVar 7)) gNext)
abbrev loD : FS := (gSeq (gIf (eBin dIs (eVar 6) (eC .non)) (gRet (eVar 4)) gNext)
    (gSeq (gLput (eVar 2) (eVar 6) (eBin dSub (eBin dIx (eVar 2) (eVar 6)) (eC (.int 1))))
    (gSeq (gSet 3 (eVar 6))
    (gSet 4 (eBin dAdd (eVar 4) (eC (.int 1)))))))
abbrev loE : FE := (eAnd (eBin dNe (eVar 7) (eVar 3)) (eAnd (eBin (dCmp fun i j => decide (j < i)) (eBin dIx (eVar 2) (eVar 7)) (eC (.int 0))) (eOr (eBin dIs (eVar 6) (eC .non)) (eBin (dCmp fun i j => decide (j < i)) (eBin dIx (eVar 2) (eVar 7)) (eBin dIx (eVar 2) (eVar 6))))))
abbrev bf1 : FS := (gSeq (gFor (fiRg [(eArgs bLen [(eVar 0)])]) (tName 3) (gIf (eAnd (eBin dNe (eVar 3) (eVar 1)) (eBin (dCmp fun i j => decide (j < i)) (eBin dIx (eVar 0) (eVar 3)) (eC (.int 0)))) (gSeq (gSet 4 (eBin dAdd (eBin dAdd (eSl (eVar 0) none (some (eVar 3))) (eLst [(eBin dSub (eBin dIx (eVar 0) (eVar 3)) (eC (.int 1)))])) (eSl (eVar 0) (some (eBin dAdd (eVar 3) (eC (.int 1)))) none)))
    (gSeq (gSet 5 (eArgs m_lone_life [(eVar 4), (eVar 3)]))
    (gSeq (gIf (eOr (eNot (eIsi "int" (eVar 5))) (eIsi "bool" (eVar 5))) (gRet (eC .non)) gNext)
    (gSet 2 (eArgs bMax2 [(eVar 2), (eBin dAdd (eC (.int 1)) (eVar 5))]))))) gNext))
    (gRet (eVar 2)))
abbrev bfB : FS := (gIf (eAnd (eBin dNe (eVar 3) (eVar 1)) (eBin (dCmp fun i j => decide (j < i)) (eBin dIx (eVar 0) (eVar 3)) (eC (.int 0)))) (gSeq (gSet 4 (eBin dAdd (eBin dAdd (eSl (eVar 0) none (some (eVar 3))) (eLst [(eBin dSub (eBin dIx (eVar 0) (eVar 3)) (eC (.int 1)))])) (eSl (eVar 0) (some (eBin dAdd (eVar 3) (eC (.int 1)))) none)))
    (gSeq (gSet 5 (eArgs m_lone_life [(eVar 4), (eVar 3)]))
    (gSeq (gIf (eOr (eNot (eIsi "int" (eVar 5))) (eIsi "bool" (eVar 5))) (gRet (eC .non)) gNext)
    (gSet 2 (eArgs bMax2 [(eVar 2), (eBin dAdd (eC (.int 1)) (eVar 5))]))))) gNext)
abbrev bfC : FS := (gSeq (gSet 4 (eBin dAdd (eBin dAdd (eSl (eVar 0) none (some (eVar 3))) (eLst [(eBin dSub (eBin dIx (eVar 0) (eVar 3)) (eC (.int 1)))])) (eSl (eVar 0) (some (eBin dAdd (eVar 3) (eC (.int 1)))) none)))
    (gSeq (gSet 5 (eArgs m_lone_life [(eVar 4), (eVar 3)]))
    (gSeq (gIf (eOr (eNot (eIsi "int" (eVar 5))) (eIsi "bool" (eVar 5))) (gRet (eC .non)) gNext)
    (gSet 2 (eArgs bMax2 [(eVar 2), (eBin dAdd (eC (.int 1)) (eVar 5))])))))
abbrev lw5 : FS := (gSeq (gIf (eBin dEq (eVar 3) (eC (.int 1))) (gSet 6 (eArgs m__law_digit [(eVar 1), (eArgs bLen [(eVar 5)])])) (gIf (eBin (dCmp fun i j => decide (j < i)) (eVar 3) (eC (.int 1))) (gSet 6 (eLm lIndex (eVar 5) [(eArgs bMax [(eVar 5)])])) gNext))
    (gSeq (gSet 7 (eArgs bList [(eVar 5)]))
    (gSeq (gSet 8 (eArgs m_lone_life [(eVar 5), (eVar 6)]))
    (gSeq (gIf (eBin dNe (eVar 5) (eVar 7)) (gRet (eC (.bl false))) gNext)
    (gSeq (gIf (eAnd (eVar 2) (eAnd (eBin (dCmp fun i j => decide (i ≤ j)) (eArgs bLen [(eVar 5)]) (eC (.int 40))) (eNot (eArgs m__law_is_life [(eVar 8), (eArgs m__law_longest [(eVar 7), (eVar 6)])])))) (gRet (eC (.bl false))) gNext)
    (gSeq (gSet 9 (eBin dSub (eArgs bSum [(eVar 7)]) (eArgs bMax [(eVar 7)])))
    (gSeq (gSet 10 (eArgs m__law_best_first [(eVar 7), (eVar 6)]))
    (gSeq (gIf (eOr (eBin dIs (eVar 10) (eC .non)) (eNot (eArgs m__law_is_life [(eVar 8), (eVar 10)]))) (gRet (eC (.bl false))) gNext)
    (gRet (eAnd (eBin (dCmp fun i j => decide (j ≤ i)) (eVar 8) (eC (.int 0))) (eAnd (eBin (dCmp fun i j => decide (i ≤ j)) (eVar 8) (eArgs bSum [(eVar 7)])) (eBin (dCmp fun i j => decide (i ≤ j)) (eVar 8) (eBin dAdd (eBin dMul (eC (.int 2)) (eVar 9)) (eC (.int 1)))))))))))))))
abbrev lw6 : FS := (gSeq (gSet 7 (eArgs bList [(eVar 5)]))
    (gSeq (gSet 8 (eArgs m_lone_life [(eVar 5), (eVar 6)]))
    (gSeq (gIf (eBin dNe (eVar 5) (eVar 7)) (gRet (eC (.bl false))) gNext)
    (gSeq (gIf (eAnd (eVar 2) (eAnd (eBin (dCmp fun i j => decide (i ≤ j)) (eArgs bLen [(eVar 5)]) (eC (.int 40))) (eNot (eArgs m__law_is_life [(eVar 8), (eArgs m__law_longest [(eVar 7), (eVar 6)])])))) (gRet (eC (.bl false))) gNext)
    (gSeq (gSet 9 (eBin dSub (eArgs bSum [(eVar 7)]) (eArgs bMax [(eVar 7)])))
    (gSeq (gSet 10 (eArgs m__law_best_first [(eVar 7), (eVar 6)]))
    (gSeq (gIf (eOr (eBin dIs (eVar 10) (eC .non)) (eNot (eArgs m__law_is_life [(eVar 8), (eVar 10)]))) (gRet (eC (.bl false))) gNext)
    (gRet (eAnd (eBin (dCmp fun i j => decide (j ≤ i)) (eVar 8) (eC (.int 0))) (eAnd (eBin (dCmp fun i j => decide (i ≤ j)) (eVar 8) (eArgs bSum [(eVar 7)])) (eBin (dCmp fun i j => decide (i ≤ j)) (eVar 8) (eBin dAdd (eBin dMul (eC (.int 2)) (eVar 9)) (eC (.int 1))))))))))))))
abbrev lw8 : FS := (gSeq (gIf (eBin dNe (eVar 5) (eVar 7)) (gRet (eC (.bl false))) gNext)
    (gSeq (gIf (eAnd (eVar 2) (eAnd (eBin (dCmp fun i j => decide (i ≤ j)) (eArgs bLen [(eVar 5)]) (eC (.int 40))) (eNot (eArgs m__law_is_life [(eVar 8), (eArgs m__law_longest [(eVar 7), (eVar 6)])])))) (gRet (eC (.bl false))) gNext)
    (gSeq (gSet 9 (eBin dSub (eArgs bSum [(eVar 7)]) (eArgs bMax [(eVar 7)])))
    (gSeq (gSet 10 (eArgs m__law_best_first [(eVar 7), (eVar 6)]))
    (gSeq (gIf (eOr (eBin dIs (eVar 10) (eC .non)) (eNot (eArgs m__law_is_life [(eVar 8), (eVar 10)]))) (gRet (eC (.bl false))) gNext)
    (gRet (eAnd (eBin (dCmp fun i j => decide (j ≤ i)) (eVar 8) (eC (.int 0))) (eAnd (eBin (dCmp fun i j => decide (i ≤ j)) (eVar 8) (eArgs bSum [(eVar 7)])) (eBin (dCmp fun i j => decide (i ≤ j)) (eVar 8) (eBin dAdd (eBin dMul (eC (.int 2)) (eVar 9)) (eC (.int 1))))))))))))
abbrev lw9 : FS := (gSeq (gIf (eAnd (eVar 2) (eAnd (eBin (dCmp fun i j => decide (i ≤ j)) (eArgs bLen [(eVar 5)]) (eC (.int 40))) (eNot (eArgs m__law_is_life [(eVar 8), (eArgs m__law_longest [(eVar 7), (eVar 6)])])))) (gRet (eC (.bl false))) gNext)
    (gSeq (gSet 9 (eBin dSub (eArgs bSum [(eVar 7)]) (eArgs bMax [(eVar 7)])))
    (gSeq (gSet 10 (eArgs m__law_best_first [(eVar 7), (eVar 6)]))
    (gSeq (gIf (eOr (eBin dIs (eVar 10) (eC .non)) (eNot (eArgs m__law_is_life [(eVar 8), (eVar 10)]))) (gRet (eC (.bl false))) gNext)
    (gRet (eAnd (eBin (dCmp fun i j => decide (j ≤ i)) (eVar 8) (eC (.int 0))) (eAnd (eBin (dCmp fun i j => decide (i ≤ j)) (eVar 8) (eArgs bSum [(eVar 7)])) (eBin (dCmp fun i j => decide (i ≤ j)) (eVar 8) (eBin dAdd (eBin dMul (eC (.int 2)) (eVar 9)) (eC (.int 1)))))))))))
abbrev lw10 : FS := (gSeq (gSet 9 (eBin dSub (eArgs bSum [(eVar 7)]) (eArgs bMax [(eVar 7)])))
    (gSeq (gSet 10 (eArgs m__law_best_first [(eVar 7), (eVar 6)]))
    (gSeq (gIf (eOr (eBin dIs (eVar 10) (eC .non)) (eNot (eArgs m__law_is_life [(eVar 8), (eVar 10)]))) (gRet (eC (.bl false))) gNext)
    (gRet (eAnd (eBin (dCmp fun i j => decide (j ≤ i)) (eVar 8) (eC (.int 0))) (eAnd (eBin (dCmp fun i j => decide (i ≤ j)) (eVar 8) (eArgs bSum [(eVar 7)])) (eBin (dCmp fun i j => decide (i ≤ j)) (eVar 8) (eBin dAdd (eBin dMul (eC (.int 2)) (eVar 9)) (eC (.int 1))))))))))
abbrev lw11 : FS := (gSeq (gSet 10 (eArgs m__law_best_first [(eVar 7), (eVar 6)]))
    (gSeq (gIf (eOr (eBin dIs (eVar 10) (eC .non)) (eNot (eArgs m__law_is_life [(eVar 8), (eVar 10)]))) (gRet (eC (.bl false))) gNext)
    (gRet (eAnd (eBin (dCmp fun i j => decide (j ≤ i)) (eVar 8) (eC (.int 0))) (eAnd (eBin (dCmp fun i j => decide (i ≤ j)) (eVar 8) (eArgs bSum [(eVar 7)])) (eBin (dCmp fun i j => decide (i ≤ j)) (eVar 8) (eBin dAdd (eBin dMul (eC (.int 2)) (eVar 9)) (eC (.int 1)))))))))
end Sh.k48

set_option linter.all false
set_option maxRecDepth 100000
namespace Sh.k48
open PySem L2 PyProof.Rows Sh
theorem ok_append {fo e : FE} {s : DS} {h : Hm} {Q : D → Hm → Prop} (x : OK (fo s h) fun d h1 => ∃ (n : Nat) (xs : List D), d = .ref n ∧ h1[n]? = some (.lst xs) ∧ OK (e s h1) fun v h2 => ∃ ys : List D, h2[n]? = some (.lst ys) ∧ ys.length < 1000000 ∧ Q .non (h2.set n (.lst (ys ++ [v])))) :
    OK (eLm lAppend fo [e] s h) Q := by
  obtain ⟨d, h1, e1, n, xs, rfl, e2, q⟩ := x.get
  obtain ⟨v, h2, e3, ys, e4, hl, q⟩ := q.get
  rw [x_lm, e1, RD.bind_ok, lmB_ref (gl := lAppend) e2, evR_cons, e3, RD.bind_ok, evR_nil, lmC_ok (gl := lAppend) e4, app_ok hl, ok_ok]
  exact q
theorem map_snoc (l : List Int) (x : Int) : l.map D.int ++ [D.int x] = (l ++ [x]).map D.int := by simp
theorem x_room {ns : List Int} {h : Hm} (pl : Pl ns h) (kind : Int) : OK (m__law_room [.ref 1, .int kind] h) fun d h' => ∃ i, d = .int i ∧ (0 ≤ i ∧ i ≤ 1000000000) ∧ Pl ns h' ∧ Fr h h' := by
  have p6 : dPow (.int 10) (.int 6) h = .ok (.int 1000000) h := by rfl
  have p9 : dPow (.int 10) (.int 9) h = .ok (.int 1000000000) h := by rfl
  refine ok_run ?_
  show NX (g__law_room [some (.ref 1), some (.int kind)] h) _ _
  unfold g__law_room
  refine nx_seq (nx_ifP (p := kind = 1) (h1 := h) (by simp) (fun hk => ?_) (fun hk => ?_))
  · refine nx_ret ?_
    try simp -implicitDefEqProofs only [ok_ok, ok_bind, ok_tb, bl_bl, x_bin, x_args, evR_cons, evR_nil, x_var, x_c, ofO_some, x_and, x_or, x_not, x_eif, x_chain, x_lst, x_tup, x_isi, List.getElem?_cons_zero, List.getElem?_cons_succ, List.set_cons_zero, List.set_cons_succ, o_cmp, o_sub, o_add, o_int, o_is_n, o_is_b, o_isN_n, o_isN_b, q_int, nq_int]
    refine (x_digit pl (by decide) (by decide)).mono ?_
    rintro _ h1 ⟨i, rfl, hi, pl1, fr1⟩
    exact ⟨i, rfl, ⟨by omega, by omega⟩, pl1, fr1⟩
  refine nx_next ?_
  refine nx_seq (nx_ifP (p := kind = 2) (h1 := h) (by simp) (fun hk => ?_) (fun hk => ?_))
  · refine nx_ret ?_
    simp -implicitDefEqProofs only [ok_ok, ok_bind, ok_tb, bl_bl, x_bin, x_args, evR_cons, evR_nil, x_var, x_c, ofO_some, x_and, x_or, x_not, x_eif, x_chain, x_lst, x_tup, x_isi, List.getElem?_cons_zero, List.getElem?_cons_succ, List.set_cons_zero, List.set_cons_succ, o_cmp, o_sub, o_add, o_int, o_is_n, o_is_b, o_isN_n, o_isN_b, q_int, nq_int, p6]
    refine (x_digit pl (by decide) (by decide)).mono ?_
    rintro _ h1 ⟨i, rfl, hi, pl1, fr1⟩
    exact ⟨i, rfl, ⟨by omega, by omega⟩, pl1, fr1⟩
  refine nx_next ?_
  refine nx_seq (nx_ifP (p := kind = 3) (h1 := h) (by simp) (fun hk => ?_) (fun hk => ?_))
  · refine nx_ret ?_
    simp -implicitDefEqProofs only [ok_ok, ok_bind, ok_tb, bl_bl, x_bin, x_args, evR_cons, evR_nil, x_var, x_c, ofO_some, x_and, x_or, x_not, x_eif, x_chain, x_lst, x_tup, x_isi, List.getElem?_cons_zero, List.getElem?_cons_succ, List.set_cons_zero, List.set_cons_succ, o_cmp, o_sub, o_add, o_int, o_is_n, o_is_b, o_isN_n, o_isN_b, q_int, nq_int, p9]
    refine (x_digit pl (by decide) (by decide)).mono ?_
    rintro _ h1 ⟨i, rfl, hi, pl1, fr1⟩
    try simp -implicitDefEqProofs only [ok_ok, ok_bind, ok_tb, bl_bl, x_bin, x_args, evR_cons, evR_nil, x_var, x_c, ofO_some, x_and, x_or, x_not, x_eif, x_chain, x_lst, x_tup, x_isi, List.getElem?_cons_zero, List.getElem?_cons_succ, List.set_cons_zero, List.set_cons_succ, o_cmp, o_sub, o_add, o_int, o_is_n, o_is_b, o_isN_n, o_isN_b, q_int, nq_int]
    exact ⟨_, rfl, ⟨by omega, by omega⟩, pl1, fr1⟩
  refine nx_next ?_
  refine nx_ret ?_
  simp -implicitDefEqProofs only [ok_ok, ok_bind, ok_tb, bl_bl, x_bin, x_args, evR_cons, evR_nil, x_var, x_c, ofO_some, x_and, x_or, x_not, x_eif, x_chain, x_lst, x_tup, x_isi, List.getElem?_cons_zero, List.getElem?_cons_succ, List.set_cons_zero, List.set_cons_succ, o_cmp, o_sub, o_add, o_int, o_is_n, o_is_b, o_isN_n, o_isN_b, q_int, nq_int, p9]
  refine (x_digit pl (by decide) (by decide)).mono ?_
  rintro _ h1 ⟨i, rfl, hi, pl1, fr1⟩
  try simp -implicitDefEqProofs only [ok_ok, ok_bind, ok_tb, bl_bl, x_bin, x_args, evR_cons, evR_nil, x_var, x_c, ofO_some, x_and, x_or, x_not, x_eif, x_chain, x_lst, x_tup, x_isi, List.getElem?_cons_zero, List.getElem?_cons_succ, List.set_cons_zero, List.set_cons_succ, o_cmp, o_sub, o_add, o_int, o_is_n, o_is_b, o_isN_n, o_isN_b, q_int, nq_int]
  exact ⟨_, rfl, ⟨by omega, by omega⟩, pl1, fr1⟩
/-- rooms that the document lets -/
structure Rm (l : List Int) : Prop where
  ne : l ≠ []
  len : l.length ≤ 100
  bd : ∀ x ∈ l, 0 ≤ x ∧ x ≤ 1000000000
theorem Rm.nn {l : List Int} (r : Rm l) : Nn l := fun x hx => (r.bd x hx).1
theorem Pl.two {ns : List Int} {h : Hm} (pl : Pl ns h) : 2 ≤ h.length := by
  obtain ⟨a, r, hp, _⟩ := pl.p
  exact lt_of_get hp
theorem Fr.set {h h' : Hm} (f : Fr h h') {n : Nat} (o : O) (hn : h.length ≤ n) : Fr h (h'.set n o) := ⟨by simpa using f.1, fun k h2 hk => by rw [List.getElem?_set_ne (by omega)]; exact f.2 k h2 hk⟩
def TG (ns : List Int) (h : Hm) : D → Hm → Prop := fun d h' => ∃ (n : Nat) (l : List Int), d = .ref n ∧ 2 ≤ n ∧ h'[n]? = some (.lst (l.map D.int)) ∧ Rm l ∧ Pl ns h' ∧ Fr h h'
theorem pw9 (h : Hm) : dPow (.int 10) (.int 9) h = .ok (.int 1000000000) h := by rfl
theorem great8 {ns : List Int} {h g : Hm} {a1 a2 x7 : Option D} {even more : Int} {p n : Nat} {acc : List Int} {N : DS → Hm → Prop} (bo : 0 ≤ more ∧ more < 7) (hlen : h.length ≤ n) (h62 : 2 ≤ n) (ea : g[n]? = some (.lst (acc.map D.int))) (rm : Rm acc) (pg : Pl ns g) (fg : Fr h g) (hp : p < acc.length) :
    NX (gr8 [some (.ref 1), a1, a2, some (.int even), some (.int more), some (.int (p : Int)), some (.ref n), x7, none] g) N (TG ns h) := by
  refine nx_seq (NX.mono (N := fun s1 h2 => s1[6]? = some (some (.ref n)) ∧ ∃ l : List Int, h2[n]? = some (.lst (l.map D.int)) ∧ Rm l ∧ Pl ns h2 ∧ Fr h h2) (T := fun _ _ => False) ?_ ?_ (fun _ _ z => False.elim z))
  · refine nx_ifP (p := even = 1) (h1 := g) (by simp) (fun hc => ?_) (fun hc => ?_)
    · refine nx_seq (nx_set ?_)
      have e1 : bInts (fun ns => some ns.sum) [.ref n] g = .ok (.int acc.sum) g := ints_ok ea rfl
      simp -implicitDefEqProofs only [ok_ok, ok_bind, ok_tb, bl_bl, x_bin, x_args, evR_cons, evR_nil, x_var, x_c, ofO_some, x_and, x_or, x_not, x_eif, x_chain, x_lst, x_tup, x_isi, List.getElem?_cons_zero, List.getElem?_cons_succ, List.set_cons_zero, List.set_cons_succ, o_cmp, o_sub, o_add, o_int, o_is_n, o_is_b, o_isN_n, o_isN_b, q_int, nq_int, e1, ix_ints ea (List.getElem?_eq_getElem hp)]
      refine nx_ifP (p := 0 ≤ acc.sum - acc[p] + more - 3 ∧ acc.sum - acc[p] + more - 3 ≤ 1000000000) (h1 := g) ?_ (fun hc => ?_) (fun hc => ?_)
      · simp [pw9]
      · refine nx_lput ?_
        simp -implicitDefEqProofs only [ok_ok, ok_bind, ok_tb, bl_bl, x_bin, x_args, evR_cons, evR_nil, x_var, x_c, ofO_some, x_and, x_or, x_not, x_eif, x_chain, x_lst, x_tup, x_isi, List.getElem?_cons_zero, List.getElem?_cons_succ, List.set_cons_zero, List.set_cons_succ, o_cmp, o_sub, o_add, o_int, o_is_n, o_is_b, o_isN_n, o_isN_b, q_int, nq_int]
        refine ⟨n, p, _, rfl, rfl, ea, by simpa using hp, trivial, acc.set p (acc.sum - acc[p] + more - 3), ?_, ⟨?_, ?_, ?_⟩, pg.set _ h62, fg.set _ hlen⟩
        · rw [List.getElem?_set_self (lt_of_get ea), List.map_set]
        · intro z
          have := congrArg List.length z
          rw [List.length_set] at this
          simp at this
          exact rm.ne this
        · rw [List.length_set]; exact rm.len
        · intro x hx
          rcases List.mem_or_eq_of_mem_set hx with hx | hx
          · exact rm.bd x hx
          · omega
      · exact nx_next ⟨rfl, acc, ea, rm, pg, fg⟩
    · exact nx_next ⟨rfl, acc, ea, rm, pg, fg⟩
  · rintro s1 g2 ⟨e6, l, el2, rm2, pg2, fg2⟩
    refine nx_ret ?_
    rw [x_var, e6, ofO_some, ok_ok]
    exact ⟨n, l, rfl, h62, el2, rm2, pg2, fg2⟩
theorem great7 {ns : List Int} {h h6 : Hm} {kind even more : Int} {p M : Nat} {N : DS → Hm → Prop} (bo : 0 ≤ more ∧ more < 7) (fr : Fr h h6) (pl6 : Pl ns h6) (hM : 1 ≤ M ∧ M ≤ 100) (hp : p < M) :
    NX (gr7 [some (.ref 1), some (.int (M : Int)), some (.int kind), some (.int even), some (.int more), some (.int (p : Int)), some (.ref h6.length), none, none] (h6 ++ [.lst []])) N (TG ns h) := by
  have h62 := pl6.two
  have hlen : h.length ≤ h6.length := fr.1
  have hM' : M < 1000000 := by omega
  have e1 : (eVar 1) [some (.ref 1), some (.int (M : Int)), some (.int kind), some (.int even), some (.int more), some (.int (p : Int)), some (.ref h6.length), none, none] (h6 ++ [.lst []]) = .ok (.int (M : Int)) (h6 ++ [.lst []]) := rfl
  generalize hn : h6.length = n at h62 hlen e1
  refine nx_seq (nx_forR (n := M) (h1 := h6 ++ [.lst []]) (fun j s g => ∃ (acc : List Int) (x7 : Option D), s = [some (.ref 1), some (.int (M : Int)), some (.int kind), some (.int even), some (.int more), some (.int (p : Int)), some (.ref n), x7, none] ∧
      g[n]? = some (.lst (acc.map D.int)) ∧ acc.length = j ∧ (∀ x ∈ acc, 0 ≤ x ∧ x ≤ 1000000000) ∧ Pl ns g ∧ Fr h g) hM' e1 ?_ ?_ ?_)
  · exact ⟨[], none, rfl, by rw [← hn]; exact get_last, rfl, fun x z => (by cases z), pl6.app _, fr.trans (Fr.app _ _)⟩
  · rintro j _ g hj ⟨acc, x7, rfl, ea, el, ab, pg, fg⟩
    simp only [List.set_cons_zero, List.set_cons_succ]
    have bJ : 0 ≤ (j : Int) ∧ (j : Int) < 1000 := by omega
    generalize (j : Int) = J at bJ
    have mJ : ∀ h : Hm, dMul (.int J) (.int J) h = .ok (.int (J * J)) h := fun h => o_mulL (by omega) (by omega)
    refine nx_ifP (p := J < 12) (h1 := g) (by simp) (fun hc => ?_) (fun hc => ?_)
    · refine nx_drop (ok_append ?_)
      simp -implicitDefEqProofs only [ok_ok, ok_bind, ok_tb, bl_bl, x_bin, x_args, evR_cons, evR_nil, x_var, x_c, ofO_some, x_and, x_or, x_not, x_eif, x_chain, x_lst, x_tup, x_isi, List.getElem?_cons_zero, List.getElem?_cons_succ, List.set_cons_zero, List.set_cons_succ, o_cmp, o_sub, o_add, o_int, o_is_n, o_is_b, o_isN_n, o_isN_b, q_int, nq_int]
      refine ⟨n, _, rfl, ea, ?_⟩
      refine (x_room pg _).mono ?_
      rintro _ g2 ⟨i, rfl, bi, pg2, fg2⟩
      refine ⟨_, fg2.get h62 ea, by rw [List.length_map]; omega, acc ++ [i], _, rfl, ?_, by simp [el], ?_, pg2.set _ h62, (fg.trans fg2).set _ hlen⟩
      · rw [List.getElem?_set_self (lt_of_get (fg2.get h62 ea)), map_snoc]
      · intro x hx
        rcases List.mem_append.mp hx with hx | hx
        · exact ab x hx
        · simp at hx; omega
    · refine nx_drop (ok_append ?_)
      simp -implicitDefEqProofs only [ok_ok, ok_bind, ok_tb, bl_bl, x_bin, x_args, evR_cons, evR_nil, x_var, x_c, ofO_some, x_and, x_or, x_not, x_eif, x_chain, x_lst, x_tup, x_isi, List.getElem?_cons_zero, List.getElem?_cons_succ, List.set_cons_zero, List.set_cons_succ, o_cmp, o_sub, o_add, o_int, o_is_n, o_is_b, o_isN_n, o_isN_b, q_int, nq_int]
      refine ⟨n, _, rfl, ea, ?_⟩
      simp -implicitDefEqProofs only [ok_ok, ok_bind, ok_tb, bl_bl, x_bin, x_args, evR_cons, evR_nil, x_var, x_c, ofO_some, x_and, x_or, x_not, x_eif, x_chain, x_lst, x_tup, x_isi, List.getElem?_cons_zero, List.getElem?_cons_succ, List.set_cons_zero, List.set_cons_succ, o_cmp, o_sub, o_add, o_int, o_is_n, o_is_b, o_isN_n, o_isN_b, q_int, nq_int, mJ, md (show (0 : Int) < 3 by decide)]
      have b3 : 0 ≤ (J * J + more) % 3 ∧ (J * J + more) % 3 < 3 := ⟨Int.emod_nonneg _ (by decide), Int.emod_lt_of_pos _ (by decide)⟩
      generalize (J * J + more) % 3 = u at b3
      refine ⟨_, ea, by rw [List.length_map]; omega, acc ++ [u], _, rfl, ?_, by simp [el], ?_, pg.set _ h62, fg.set _ hlen⟩
      · rw [List.getElem?_set_self (lt_of_get ea), map_snoc]
      · intro x hx
        rcases List.mem_append.mp hx with hx | hx
        · exact ab x hx
        · simp at hx; omega
  · rintro _ g ⟨acc, x7, rfl, ea, el, ab, pg, fg⟩
    have rm : Rm acc := ⟨fun z => by rw [z] at el; simp at el; omega, by omega, ab⟩
    exact great8 bo hlen h62 ea rm pg fg (by omega)
theorem x_great {ns : List Int} {h : Hm} (pl : Pl ns h) : OK (m__law_great [.ref 1] h) (TG ns h) := by
  refine ok_run ?_
  show NX (g__law_great [some (.ref 1), none, none, none, none, none, none, none, none] h) _ _
  unfold g__law_great
  refine nx_seq (nx_set ?_)
  try simp -implicitDefEqProofs only [ok_ok, ok_bind, ok_tb, bl_bl, x_bin, x_args, evR_cons, evR_nil, x_var, x_c, ofO_some, x_and, x_or, x_not, x_eif, x_chain, x_lst, x_tup, x_isi, List.getElem?_cons_zero, List.getElem?_cons_succ, List.set_cons_zero, List.set_cons_succ, o_cmp, o_sub, o_add, o_int, o_is_n, o_is_b, o_isN_n, o_isN_b, q_int, nq_int]
  refine (x_digit pl (by decide) (by decide)).mono ?_
  rintro _ h1 ⟨i1, rfl, b1, pl1, fr1⟩
  try simp -implicitDefEqProofs only [ok_ok, ok_bind, ok_tb, bl_bl, x_bin, x_args, evR_cons, evR_nil, x_var, x_c, ofO_some, x_and, x_or, x_not, x_eif, x_chain, x_lst, x_tup, x_isi, List.getElem?_cons_zero, List.getElem?_cons_succ, List.set_cons_zero, List.set_cons_succ, o_cmp, o_sub, o_add, o_int, o_is_n, o_is_b, o_isN_n, o_isN_b, q_int, nq_int]
  refine nx_seq (NX.mono (N := fun s1 h2 => ∃ many : Int, s1 = [some (.ref 1), some (.int many), none, none, none, none, none, none, none] ∧ (1 ≤ many ∧ many ≤ 100) ∧ Pl ns h2 ∧ Fr h h2) (T := fun _ _ => False) ?_ ?_ (fun _ _ z => False.elim z))
  · refine nx_if ?_
    try simp -implicitDefEqProofs only [ok_ok, ok_bind, ok_tb, bl_bl, x_bin, x_args, evR_cons, evR_nil, x_var, x_c, ofO_some, x_and, x_or, x_not, x_eif, x_chain, x_lst, x_tup, x_isi, List.getElem?_cons_zero, List.getElem?_cons_succ, List.set_cons_zero, List.set_cons_succ, o_cmp, o_sub, o_add, o_int, o_is_n, o_is_b, o_isN_n, o_isN_b, q_int, nq_int]
    refine (x_digit pl1 (by decide) (by decide)).mono ?_
    rintro _ h2 ⟨i2, rfl, b2, pl2, fr2⟩
    try simp -implicitDefEqProofs only [ok_ok, ok_bind, ok_tb, bl_bl, x_bin, x_args, evR_cons, evR_nil, x_var, x_c, ofO_some, x_and, x_or, x_not, x_eif, x_chain, x_lst, x_tup, x_isi, List.getElem?_cons_zero, List.getElem?_cons_succ, List.set_cons_zero, List.set_cons_succ, o_cmp, o_sub, o_add, o_int, o_is_n, o_is_b, o_isN_n, o_isN_b, q_int, nq_int]
    refine ⟨fun _ => nx_set ?_, fun _ => nx_next ?_⟩
    · simp -implicitDefEqProofs only [ok_ok, ok_bind, ok_tb, bl_bl, x_bin, x_args, evR_cons, evR_nil, x_var, x_c, ofO_some, x_and, x_or, x_not, x_eif, x_chain, x_lst, x_tup, x_isi, List.getElem?_cons_zero, List.getElem?_cons_succ, List.set_cons_zero, List.set_cons_succ, o_cmp, o_sub, o_add, o_int, o_is_n, o_is_b, o_isN_n, o_isN_b, q_int, nq_int, md (show (0 : Int) < 6 by decide)]
      have b3 : 0 ≤ (1 + i1) % 6 ∧ (1 + i1) % 6 < 6 := ⟨Int.emod_nonneg _ (by decide), Int.emod_lt_of_pos _ (by decide)⟩
      exact ⟨_, rfl, ⟨by omega, by omega⟩, pl2, fr1.trans fr2⟩
    · exact ⟨_, rfl, ⟨by omega, by omega⟩, pl2, fr1.trans fr2⟩
  rintro _ h2 ⟨many, rfl, bm, pl2, fr2⟩
  refine nx_seq (nx_set ?_)
  try simp -implicitDefEqProofs only [ok_ok, ok_bind, ok_tb, bl_bl, x_bin, x_args, evR_cons, evR_nil, x_var, x_c, ofO_some, x_and, x_or, x_not, x_eif, x_chain, x_lst, x_tup, x_isi, List.getElem?_cons_zero, List.getElem?_cons_succ, List.set_cons_zero, List.set_cons_succ, o_cmp, o_sub, o_add, o_int, o_is_n, o_is_b, o_isN_n, o_isN_b, q_int, nq_int]
  refine (x_digit pl2 (by decide) (by decide)).mono ?_
  rintro _ h3 ⟨kind, rfl, bk, pl3, fr3⟩
  try simp -implicitDefEqProofs only [ok_ok, ok_bind, ok_tb, bl_bl, x_bin, x_args, evR_cons, evR_nil, x_var, x_c, ofO_some, x_and, x_or, x_not, x_eif, x_chain, x_lst, x_tup, x_isi, List.getElem?_cons_zero, List.getElem?_cons_succ, List.set_cons_zero, List.set_cons_succ, o_cmp, o_sub, o_add, o_int, o_is_n, o_is_b, o_isN_n, o_isN_b, q_int, nq_int]
  refine nx_seq (nx_set ?_)
  try simp -implicitDefEqProofs only [ok_ok, ok_bind, ok_tb, bl_bl, x_bin, x_args, evR_cons, evR_nil, x_var, x_c, ofO_some, x_and, x_or, x_not, x_eif, x_chain, x_lst, x_tup, x_isi, List.getElem?_cons_zero, List.getElem?_cons_succ, List.set_cons_zero, List.set_cons_succ, o_cmp, o_sub, o_add, o_int, o_is_n, o_is_b, o_isN_n, o_isN_b, q_int, nq_int]
  refine (x_digit pl3 (by decide) (by decide)).mono ?_
  rintro _ h4 ⟨even, rfl, be, pl4, fr4⟩
  try simp -implicitDefEqProofs only [ok_ok, ok_bind, ok_tb, bl_bl, x_bin, x_args, evR_cons, evR_nil, x_var, x_c, ofO_some, x_and, x_or, x_not, x_eif, x_chain, x_lst, x_tup, x_isi, List.getElem?_cons_zero, List.getElem?_cons_succ, List.set_cons_zero, List.set_cons_succ, o_cmp, o_sub, o_add, o_int, o_is_n, o_is_b, o_isN_n, o_isN_b, q_int, nq_int]
  refine nx_seq (nx_set ?_)
  try simp -implicitDefEqProofs only [ok_ok, ok_bind, ok_tb, bl_bl, x_bin, x_args, evR_cons, evR_nil, x_var, x_c, ofO_some, x_and, x_or, x_not, x_eif, x_chain, x_lst, x_tup, x_isi, List.getElem?_cons_zero, List.getElem?_cons_succ, List.set_cons_zero, List.set_cons_succ, o_cmp, o_sub, o_add, o_int, o_is_n, o_is_b, o_isN_n, o_isN_b, q_int, nq_int]
  refine (x_digit pl4 (by decide) (by decide)).mono ?_
  rintro _ h5 ⟨more, rfl, bo, pl5, fr5⟩
  try simp -implicitDefEqProofs only [ok_ok, ok_bind, ok_tb, bl_bl, x_bin, x_args, evR_cons, evR_nil, x_var, x_c, ofO_some, x_and, x_or, x_not, x_eif, x_chain, x_lst, x_tup, x_isi, List.getElem?_cons_zero, List.getElem?_cons_succ, List.set_cons_zero, List.set_cons_succ, o_cmp, o_sub, o_add, o_int, o_is_n, o_is_b, o_isN_n, o_isN_b, q_int, nq_int]
  refine nx_seq (nx_set ?_)
  try simp -implicitDefEqProofs only [ok_ok, ok_bind, ok_tb, bl_bl, x_bin, x_args, evR_cons, evR_nil, x_var, x_c, ofO_some, x_and, x_or, x_not, x_eif, x_chain, x_lst, x_tup, x_isi, List.getElem?_cons_zero, List.getElem?_cons_succ, List.set_cons_zero, List.set_cons_succ, o_cmp, o_sub, o_add, o_int, o_is_n, o_is_b, o_isN_n, o_isN_b, q_int, nq_int]
  refine (x_digit pl5 (by omega) (by omega)).mono ?_
  rintro _ h6 ⟨place, rfl, bp, pl6, fr6⟩
  try simp -implicitDefEqProofs only [ok_ok, ok_bind, ok_tb, bl_bl, x_bin, x_args, evR_cons, evR_nil, x_var, x_c, ofO_some, x_and, x_or, x_not, x_eif, x_chain, x_lst, x_tup, x_isi, List.getElem?_cons_zero, List.getElem?_cons_succ, List.set_cons_zero, List.set_cons_succ, o_cmp, o_sub, o_add, o_int, o_is_n, o_is_b, o_isN_n, o_isN_b, q_int, nq_int]
  refine nx_seq (nx_set ?_)
  try simp -implicitDefEqProofs only [ok_ok, ok_bind, ok_tb, bl_bl, x_bin, x_args, evR_cons, evR_nil, x_var, x_c, ofO_some, x_and, x_or, x_not, x_eif, x_chain, x_lst, x_tup, x_isi, List.getElem?_cons_zero, List.getElem?_cons_succ, List.set_cons_zero, List.set_cons_succ, o_cmp, o_sub, o_add, o_int, o_is_n, o_is_b, o_isN_n, o_isN_b, q_int, nq_int]
  obtain ⟨M, rfl⟩ := Int.eq_ofNat_of_zero_le (show 0 ≤ many by omega)
  obtain ⟨p, rfl⟩ := Int.eq_ofNat_of_zero_le bp.1
  exact great7 bo (fr2.trans (fr3.trans (fr4.trans (fr5.trans fr6)))) pl6 (by omega) (by omega)
end Sh.k48

set_option linter.all false
set_option maxRecDepth 100000
namespace Sh.k48
open PySem L2 PyProof.Rows Sh
def qD : Option Nat → D
  | none => .non
  | some a => .int (a : Int)
theorem isL_ex {l : List Int} (nn : Nn l) (ne : l ≠ []) (q : Option Nat) : ∃ v, IsL l q v := by
  have h := mxI_mem ne
  exact ⟨_, isL_of (q := q) nn h.1 h.2 (@decide ((∃ a, q = some a ∧ l[a]? = some (mxI l)) ∧ l.count (mxI l) = 1) (Classical.propDecidable _)) (by simp)⟩
theorem x_whole {x lo hi : Int} {h : Hm} : m_is_whole [.int x, .int lo, .int hi] h = .ok (.bl (decide (lo ≤ x ∧ x ≤ hi))) h := by
  simp only [m_is_whole, x_run, g_is_whole]
  simp [kit_table]
theorem x_are_rooms {h : Hm} {n : Nat} {l : List Int} (e : h[n]? = some (.lst (l.map D.int))) (rm : Rm l) : ∃ t, m_are_rooms [.ref n] h = .ok (.bl true) (h ++ t) := by
  have hl : 0 < l.length := List.length_pos_iff.mpr rm.ne
  have hl2 := rm.len
  obtain ⟨t2, r⟩ := elc_ok (fi := fiSeq (eVar 0)) (gt := tName 1) (ft := eC (.bl true)) (fe := eArgs m_is_whole [eVar 1, eC (.int 0), eC (.int 1000000000)]) (own := [1]) (s := [some (.ref n), none]) (h := h) (ck := some (n, l.map D.int)) (xs := l.map D.int) (val := fun _ => .bl true) (tt := fun _ => true)
    (fi_ref rfl e) (fun u => chk_old e u) (fun x hx u => by
      obtain ⟨i, hi, rfl⟩ := List.mem_map.mp hx
      have b := rm.bd i hi
      refine ⟨[some (.ref n), some (.int i)], [], rfl, rfl, fun _ => ?_⟩
      simp [x_whole, b]) (by simp; omega)
  refine ⟨.lst ((List.replicate l.length true).map D.bl) :: t2, ?_⟩
  have il : isiB "list" h (.ref n) = some true := by
    simp [isiB, tyN, e, kit_table]
  have c1 : (1 : Int) ≤ (l.length : Int) ∧ (l.length : Int) ≤ 100 := by omega
  simp only [m_are_rooms, x_run, g_are_rooms]
  have er : ((l.map D.int).filter fun _ => true).map (fun _ => D.bl true) = (List.replicate l.length true).map D.bl := by
    rw [List.filter_eq_self.mpr (fun _ _ => rfl), List.map_map, List.map_replicate]
    exact List.map_const' ..
  rw [er] at r
  have eq : bAll [.ref h.length] (h ++ .lst (List.replicate l.length (D.bl true)) :: t2) = .ok (.bl true) (h ++ .lst (List.replicate l.length (D.bl true)) :: t2) := by
    have := quant_ok (g := fun bs => bs.all id) (n := h.length) (h := h ++ .lst ((List.replicate l.length true).map D.bl) :: t2) (bs := List.replicate l.length true) (by simp)
    rw [List.map_replicate] at this
    refine this.trans ?_
    simp [List.all_replicate]
  simp [il, len_ref e, c1, r, eq]
theorem min2 (i j : Int) : (if j < i then j else i) = mn i j := rfl
/-- the def tells what the document's form is -/
theorem x_lone {h : Hm} {n : Nat} {l : List Int} {q : Option Nat} (e : h[n]? = some (.lst (l.map D.int))) (rm : Rm l) (hq : ∀ a, q = some a → a < l.length) :
    OK (m_lone_life [.ref n, qD q] h) fun d h' => ∃ v t, d = .int v ∧ h' = h ++ t ∧ IsL l q v := by
  obtain ⟨t, er⟩ := x_are_rooms e rm
  have e1 : (h ++ t)[n]? = some (.lst (l.map D.int)) := by rw [List.getElem?_append_left (lt_of_get e)]; exact e
  have hl : 0 < l.length := List.length_pos_iff.mpr rm.ne
  have hm := mxI_mem rm.ne
  have es : bInts (fun ns => some ns.sum) [.ref n] (h ++ t) = .ok (.int l.sum) (h ++ t) := ints_ok e1 rfl
  have em : bInts (fun ns => if ns = [] then none else some (mxI ns)) [.ref n] (h ++ t) = .ok (.int (mxI l)) (h ++ t) := ints_ok e1 (by rw [if_neg rm.ne])
  have ec : eLm lCount (eVar 0) [eVar 3] [some (.ref n), some (qD q), some (.int l.sum), some (.int (mxI l)), some (.int (2 * (l.sum - mxI l)))] (h ++ t) = .ok (.int ((l.count (mxI l) : Nat) : Int)) (h ++ t) := by
    rw [x_lm]
    simp only [x_var, List.getElem?_cons_zero, List.getElem?_cons_succ, ofO_some, RD.bind_ok, lmB_ref (gl := lCount) e1, evR_cons, evR_nil, lmC_ok (gl := lCount) e1, lCount, intsD_map]
  refine ok_run ?_
  show NX (g_lone_life [some (.ref n), some (qD q), none, none, none] h) _ _
  unfold g_lone_life
  refine nx_seq (nx_ifF (h1 := h ++ t) (by simp [er]) (nx_next ?_))
  refine nx_seq (nx_ifF (h1 := h ++ t) ?_ (nx_next ?_))
  · cases q with
    | none => simp [qD]
    | some a =>
      have := hq a rfl
      have c : (0 : Int) ≤ (a : Int) ∧ (a : Int) ≤ (l.length : Int) - 1 := by omega
      simp [qD, len_ref e1, x_whole, c]
  refine nx_seq ?_
  have ep : gPar 2 3 (eArgs bSum [eVar 0]) (eArgs bMax [eVar 0]) [some (.ref n), some (qD q), none, none, none] (h ++ t) = .nx [some (.ref n), some (qD q), some (.int l.sum), some (.int (mxI l)), none] (h ++ t) := by
    simp [gPar, es, em]
  rw [ep]
  have nxi : ∀ (s : DS) (h : Hm) (N : DS → Hm → Prop) (T : D → Hm → Prop), N s h → NX (.nx s h) N T := fun s h N T x => nx_next (s := s) (h := h) x
  refine nxi _ _ _ _ ?_
  refine nx_seq (nx_set ?_)
  simp -implicitDefEqProofs only [ok_ok, ok_bind, ok_tb, bl_bl, x_bin, x_args, evR_cons, evR_nil, x_var, x_c, ofO_some, x_and, x_or, x_not, x_eif, x_chain, x_lst, x_tup, x_isi, List.getElem?_cons_zero, List.getElem?_cons_succ, List.set_cons_zero, List.set_cons_succ, o_cmp, o_sub, o_add, o_int, o_is_n, o_is_b, o_isN_n, o_isN_b, q_int, nq_int, o_mulL (show -18446744073709551616 < (2 : Int) by decide) (by decide)]
  have main := isL_of (q := q) rm.nn hm.1 hm.2
  cases q with
  | none =>
    have m1 := main false (by simp)
    refine nx_seq (nx_ifF (h1 := h ++ t) (by simp [qD]) (nx_next ?_))
    refine nx_ret ?_
    simp -implicitDefEqProofs only [ok_ok, ok_bind, ok_tb, bl_bl, x_bin, x_args, evR_cons, evR_nil, x_var, x_c, ofO_some, x_and, x_or, x_not, x_eif, x_chain, x_lst, x_tup, x_isi, List.getElem?_cons_zero, List.getElem?_cons_succ, List.set_cons_zero, List.set_cons_succ, o_cmp, o_sub, o_add, o_int, o_is_n, o_is_b, o_isN_n, o_isN_b, q_int, nq_int, bTwo, min2]
    exact ⟨_, t, rfl, rfl, m1⟩
  | some a =>
    have ha := hq a rfl
    have ea : l[a]? = some l[a] := List.getElem?_eq_getElem ha
    have ei : dIx (.ref n) (.int (a : Int)) (h ++ t) = .ok (.int l[a]) (h ++ t) := ix_ints e1 ea
    refine nx_seq (nx_ifP (p := l[a] = mxI l ∧ l.count (mxI l) = 1) (h1 := h ++ t) ?_ (fun hp => ?_) (fun hp => nx_next ?_))
    · simp only [qD] at ec ⊢
      simp only [x_and, x_bin, ec, x_var, x_c, List.getElem?_cons_zero, List.getElem?_cons_succ, ofO_some, RD.bind_ok, ei, o_isN_n, q_int, tb_ok]
      by_cases z : l[a] = mxI l
      · simp [z]
        omega
      · simp [z]
    · have m1 := main true (by simp; exact ⟨by rw [ea, hp.1], hp.2⟩)
      refine nx_ret ?_
      simp -implicitDefEqProofs only [ok_ok, ok_bind, ok_tb, bl_bl, x_bin, x_args, evR_cons, evR_nil, x_var, x_c, ofO_some, x_and, x_or, x_not, x_eif, x_chain, x_lst, x_tup, x_isi, List.getElem?_cons_zero, List.getElem?_cons_succ, List.set_cons_zero, List.set_cons_succ, o_cmp, o_sub, o_add, o_int, o_is_n, o_is_b, o_isN_n, o_isN_b, q_int, nq_int, bTwo, min2]
      exact ⟨_, t, rfl, rfl, m1⟩
    · have m1 := main false (by simp; intro z; exact fun w => hp ⟨by rw [ea] at z; exact Option.some.inj z, w⟩)
      refine nx_ret ?_
      simp -implicitDefEqProofs only [ok_ok, ok_bind, ok_tb, bl_bl, x_bin, x_args, evR_cons, evR_nil, x_var, x_c, ofO_some, x_and, x_or, x_not, x_eif, x_chain, x_lst, x_tup, x_isi, List.getElem?_cons_zero, List.getElem?_cons_succ, List.set_cons_zero, List.set_cons_succ, o_cmp, o_sub, o_add, o_int, o_is_n, o_is_b, o_isN_n, o_isN_b, q_int, nq_int, bTwo, min2]
      exact ⟨_, t, rfl, rfl, m1⟩
end Sh.k48

set_option linter.all false
set_option maxRecDepth 100000
namespace Sh.k48
open PySem L2 PyProof.Rows Sh
theorem ne_q {q : Option Nat} {b : Nat} {h : Hm} : dNe (.int (b : Int)) (qD q) h = .ok (.bl (decide (q ≠ some b))) h := by
  cases q with
  | none => simp [qD, dNe, eqB, eqSc]
  | some a =>
    by_cases e : a = b
    · subst e
      simp [qD]
    · simp [qD, e]
      omega
/-- the best block among those below k -/
def Best (l : List Int) (q : Option Nat) (k : Nat) : Option Nat → Prop
  | none => ∀ (i : Nat) (x : Int), i < k → q ≠ some i → l[i]? = some x → ¬ 0 < x
  | some b => b < k ∧ q ≠ some b ∧ ∃ x, l[b]? = some x ∧ 0 < x ∧ ∀ (i : Nat) (y : Int), i < k → q ≠ some i → l[i]? = some y → y ≤ x
theorem lo_test {a0 a1 a4 a5 : Option D} {p b : Nat} {q best : Option Nat} {g : Hm} {l : List Int} {x z : Int} (e : g[p]? = some (.lst (l.map D.int))) (ex : l[b]? = some x) (eb : ∀ i, best = some i → l[i]? = some z) :
    loE [a0, a1, some (.ref p), some (qD q), a4, a5, some (qD best), some (.int (b : Int))] g = .ok (.bl (decide (q ≠ some b ∧ 0 < x ∧ (best = none ∨ z < x)))) g := by
  have e1 := ix_ints e ex
  simp only [loE, x_and, x_or, x_bin, x_var, x_c, List.getElem?_cons_zero, List.getElem?_cons_succ, ofO_some, RD.bind_ok, ne_q, tb_ok, e1, o_cmp, o_is_n]
  by_cases c1 : q = some b
  · simp [c1]
  · by_cases c2 : 0 < x
    · cases best with
      | none => simp [c1, c2, qD]
      | some i =>
        have e2 := ix_ints e (eb i rfl)
        simp [c1, c2, qD, e2]
    · simp [c1, c2]
theorem lo_in {a0 a1 a4 a5 a7 : Option D} {p : Nat} {q : Option Nat} {g : Hm} {l : List Int} {N : DS → Hm → Prop} {T : D → Hm → Prop} (e : g[p]? = some (.lst (l.map D.int))) (hl : l.length < 1000)
    (fin : ∀ best x7, Best l q l.length best → N [a0, a1, some (.ref p), some (qD q), a4, a5, some (qD best), x7] g) :
    NX (gFor (fiRg [(eArgs bLen [(eVar 2)])]) (tName 7) loC [a0, a1, some (.ref p), some (qD q), a4, a5, some .non, a7] g) N T := by
  refine nx_forR (n := l.length) (h1 := g) (fun j s g' => g' = g ∧ ∃ best x7, s = [a0, a1, some (.ref p), some (qD q), a4, a5, some (qD best), x7] ∧ Best l q j best) (by omega) (by simp [len_ref e]) ?_ ?_ ?_
  · exact ⟨rfl, none, a7, rfl, fun i x hi => absurd hi (by omega)⟩
  · rintro j _ g' hj ⟨rfl, best, x7, rfl, hb⟩
    simp only [List.set_cons_zero, List.set_cons_succ]
    have ex : l[j]? = some l[j] := List.getElem?_eq_getElem hj
    generalize l[j] = x at ex
    obtain ⟨z, hz⟩ : ∃ z, ∀ i, best = some i → l[i]? = some z := by
      cases best with
      | none => exact ⟨0, fun i h => by cases h⟩
      | some b =>
        obtain ⟨_, _, z, hz, _⟩ := hb
        exact ⟨z, fun i h => by cases h; exact hz⟩
    refine nx_ifP (h1 := g') (lo_test e ex hz) (fun hp => ?_) (fun hp => ?_)
    · refine nx_set ?_
      simp -implicitDefEqProofs only [ok_ok, ok_bind, ok_tb, bl_bl, x_bin, x_args, evR_cons, evR_nil, x_var, x_c, ofO_some, x_and, x_or, x_not, x_eif, x_chain, x_lst, x_tup, x_isi, List.getElem?_cons_zero, List.getElem?_cons_succ, List.set_cons_zero, List.set_cons_succ, o_cmp, o_sub, o_add, o_int, o_is_n, o_is_b, o_isN_n, o_isN_b, q_int, nq_int]
      refine ⟨trivial, some j, _, rfl, by omega, hp.1, x, ex, hp.2.1, fun i y hi hq hy => ?_⟩
      by_cases hij : i = j
      · subst hij
        rw [ex] at hy
        cases hy
        exact Int.le_refl _
      · cases best with
        | none =>
          have := hb i y (by omega) hq hy
          have := hp.2.1
          omega
        | some b =>
          obtain ⟨_, _, z', hz', hz0, hall⟩ := hb
          have e1 := hz b rfl
          rw [e1] at hz'
          cases hz'
          have h1 := hall i y (by omega) hq hy
          rcases hp.2.2 with h2 | h2
          · cases h2
          · omega
    · refine nx_next ⟨rfl, best, _, rfl, ?_⟩
      cases best with
      | none =>
        intro i y hi hq hy hy0
        by_cases hij : i = j
        · subst hij
          rw [ex] at hy
          cases hy
          exact hp ⟨hq, hy0, .inl rfl⟩
        · exact hb i y (by omega) hq hy hy0
      | some b =>
        obtain ⟨h1, h2, z', hz', hz0, hall⟩ := hb
        have e1 := hz b rfl
        rw [e1] at hz'
        cases hz'
        refine ⟨by omega, h2, z, e1, hz0, fun i y hi hq hy => ?_⟩
        by_cases hij : i = j
        · subst hij
          rw [ex] at hy
          cases hy
          refine Classical.byContradiction fun hc => hp ⟨hq, by omega, .inr (by omega)⟩
        · exact hall i y (by omega) hq hy
  · rintro _ g' ⟨rfl, best, x7, rfl, hb⟩
    exact fin best x7 hb
theorem lo_turn {a0 a1 x5 x6 x7 : Option D} {p : Nat} {q : Option Nat} {g : Hm} {l : List Int} {v J : Int} (e : g[p]? = some (.lst (l.map D.int))) (hl : l.length < 1000) (ne : l ≠ []) (nn : Nn l) (hq : ∀ a, q = some a → a < l.length) (hv : IsL l q (v - J)) :
    NX (loB [a0, a1, some (.ref p), some (qD q), some (.int J), x5, x6, x7] g) (fun s1 g1 => ∃ l2 q2 y6 y7, s1 = [a0, a1, some (.ref p), some (qD q2), some (.int (J + 1)), x5, y6, y7] ∧ g1 = g.set p (.lst (l2.map D.int)) ∧ Nn l2 ∧ l2.length = l.length ∧ (∀ a, q2 = some a → a < l.length) ∧ IsL l2 q2 (v - (J + 1)) ∧ l2.sum = l.sum - 1)
      (fun d g1 => d = .int v ∧ g1 = g) := by
  refine nx_seq (nx_set ?_)
  simp -implicitDefEqProofs only [ok_ok, ok_bind, ok_tb, bl_bl, x_bin, x_args, evR_cons, evR_nil, x_var, x_c, ofO_some, x_and, x_or, x_not, x_eif, x_chain, x_lst, x_tup, x_isi, List.getElem?_cons_zero, List.getElem?_cons_succ, List.set_cons_zero, List.set_cons_succ, o_cmp, o_sub, o_add, o_int, o_is_n, o_is_b, o_isN_n, o_isN_b, q_int, nq_int]
  refine nx_seq (lo_in e hl fun best y7 hb => ?_)
  cases best with
  | none =>
    refine nx_seq (nx_ifT (h1 := g) (by simp [qD]) (nx_ret ?_))
    simp -implicitDefEqProofs only [ok_ok, ok_bind, ok_tb, bl_bl, x_bin, x_args, evR_cons, evR_nil, x_var, x_c, ofO_some, x_and, x_or, x_not, x_eif, x_chain, x_lst, x_tup, x_isi, List.getElem?_cons_zero, List.getElem?_cons_succ, List.set_cons_zero, List.set_cons_succ, o_cmp, o_sub, o_add, o_int, o_is_n, o_is_b, o_isN_n, o_isN_b, q_int, nq_int]
    have h0 := step_no nn hq (fun i x hi ex => hb i x (List.getElem?_eq_some_iff.mp ex).1 hi ex) hv
    exact ⟨by rw [show J = v by omega], trivial⟩
  | some b =>
    obtain ⟨hb1, hb2, x, ex, hx0, hall⟩ := hb
    have e1 := ix_ints e ex
    refine nx_seq (nx_ifF (h1 := g) (by simp [qD]) (nx_next ?_))
    refine nx_seq (nx_lput ?_)
    simp only [qD]
    simp -implicitDefEqProofs only [ok_ok, ok_bind, ok_tb, bl_bl, x_bin, x_args, evR_cons, evR_nil, x_var, x_c, ofO_some, x_and, x_or, x_not, x_eif, x_chain, x_lst, x_tup, x_isi, List.getElem?_cons_zero, List.getElem?_cons_succ, List.set_cons_zero, List.set_cons_succ, o_cmp, o_sub, o_add, o_int, o_is_n, o_is_b, o_isN_n, o_isN_b, q_int, nq_int, e1]
    refine ⟨p, b, _, rfl, rfl, e, by simpa using hb1, ?_⟩
    refine nx_seq (nx_set ?_)
    simp -implicitDefEqProofs only [ok_ok, ok_bind, ok_tb, bl_bl, x_bin, x_args, evR_cons, evR_nil, x_var, x_c, ofO_some, x_and, x_or, x_not, x_eif, x_chain, x_lst, x_tup, x_isi, List.getElem?_cons_zero, List.getElem?_cons_succ, List.set_cons_zero, List.set_cons_succ, o_cmp, o_sub, o_add, o_int, o_is_n, o_is_b, o_isN_n, o_isN_b, q_int, nq_int]
    refine nx_set ?_
    simp -implicitDefEqProofs only [ok_ok, ok_bind, ok_tb, bl_bl, x_bin, x_args, evR_cons, evR_nil, x_var, x_c, ofO_some, x_and, x_or, x_not, x_eif, x_chain, x_lst, x_tup, x_isi, List.getElem?_cons_zero, List.getElem?_cons_succ, List.set_cons_zero, List.set_cons_succ, o_cmp, o_sub, o_add, o_int, o_is_n, o_is_b, o_isN_n, o_isN_b, q_int, nq_int]
    have nn2 := less_nn nn ex hx0
    obtain ⟨w, hw⟩ := isL_ex nn2 (by intro z; have := congrArg List.length z; rw [List.length_set] at this; simp at this; exact ne this) (some b)
    have hs := step_eq nn ex hx0 hb2 (fun i y hi hy => hall i y (List.getElem?_eq_some_iff.mp hy).1 hi hy) hv hw
    refine ⟨l.set b (x - 1), some b, _, _, rfl, by rw [List.map_set], nn2, by simp, fun a h => (by cases h; exact hb1), ?_, ?_⟩
    · rw [show v - (J + 1) = w by omega]
      exact hw
    · rw [sum_put (x - 1) ex]
      omega
theorem x_longest {h : Hm} {n : Nat} {l : List Int} {q : Option Nat} {v : Int} (e : h[n]? = some (.lst (l.map D.int))) (hl : l.length < 1000) (ne : l ≠ []) (nn : Nn l) (hs : l.sum < 100000) (hq : ∀ a, q = some a → a < l.length) (hv : IsL l q v) :
    OK (m__law_longest [.ref n, qD q] h) fun d h' => d = .int v ∧ ∃ t, h' = h ++ t := by
  have e1 : (h ++ [O.lst (l.map D.int)])[n]? = some (.lst (l.map D.int)) := by rw [get_old (lt_of_get e)]; exact e
  have bl : bList [.ref n] h = .ok (.ref h.length) (h ++ [.lst (l.map D.int)]) := by simp [bList, items, e]
  have es : bInts (fun ns => some ns.sum) [.ref n] (h ++ [.lst (l.map D.int)]) = .ok (.int l.sum) (h ++ [.lst (l.map D.int)]) := ints_ok e1 rfl
  have s0 := sum_nn nn
  obtain ⟨S, hS⟩ := Int.eq_ofNat_of_zero_le s0
  refine ok_run ?_
  show NX (g__law_longest [some (.ref n), some (qD q), none, none, none, none, none, none] h) _ _
  unfold g__law_longest
  refine nx_seq (nx_set ?_)
  simp -implicitDefEqProofs only [ok_ok, ok_bind, ok_tb, bl_bl, x_bin, x_args, evR_cons, evR_nil, x_var, x_c, ofO_some, x_and, x_or, x_not, x_eif, x_chain, x_lst, x_tup, x_isi, List.getElem?_cons_zero, List.getElem?_cons_succ, List.set_cons_zero, List.set_cons_succ, o_cmp, o_sub, o_add, o_int, o_is_n, o_is_b, o_isN_n, o_isN_b, q_int, nq_int, bl]
  refine nx_seq (nx_set ?_)
  simp -implicitDefEqProofs only [ok_ok, ok_bind, ok_tb, bl_bl, x_bin, x_args, evR_cons, evR_nil, x_var, x_c, ofO_some, x_and, x_or, x_not, x_eif, x_chain, x_lst, x_tup, x_isi, List.getElem?_cons_zero, List.getElem?_cons_succ, List.set_cons_zero, List.set_cons_succ, o_cmp, o_sub, o_add, o_int, o_is_n, o_is_b, o_isN_n, o_isN_b, q_int, nq_int]
  refine nx_seq (nx_set ?_)
  simp -implicitDefEqProofs only [ok_ok, ok_bind, ok_tb, bl_bl, x_bin, x_args, evR_cons, evR_nil, x_var, x_c, ofO_some, x_and, x_or, x_not, x_eif, x_chain, x_lst, x_tup, x_isi, List.getElem?_cons_zero, List.getElem?_cons_succ, List.set_cons_zero, List.set_cons_succ, o_cmp, o_sub, o_add, o_int, o_is_n, o_is_b, o_isN_n, o_isN_b, q_int, nq_int]
  refine nx_seq (nx_forR (n := S) (h1 := h ++ [.lst (l.map D.int)]) (fun j s g => ∃ (l' : List Int) (q' : Option Nat) (x5 x6 x7 : Option D), s = [some (.ref n), some (qD q), some (.ref h.length), some (qD q'), some (.int (j : Int)), x5, x6, x7] ∧
      g = h ++ [.lst (l'.map D.int)] ∧ Nn l' ∧ l'.length = l.length ∧ (∀ a, q' = some a → a < l'.length) ∧ IsL l' q' (v - (j : Int)) ∧ l'.sum = l.sum - (j : Int)) (by omega) (by simp [es, hS]) ?_ ?_ ?_)
  · exact ⟨l, q, _, _, _, rfl, rfl, nn, rfl, hq, by simpa using hv, by simp⟩
  · rintro j _ g hj ⟨l', q', x5, x6, x7, rfl, rfl, nn', hl', hq', hv', hs'⟩
    simp only [List.set_cons_zero, List.set_cons_succ]
    have ne' : l' ≠ [] := fun z => by rw [z] at hl'; exact ne (List.eq_nil_of_length_eq_zero hl'.symm)
    refine NX.mono (lo_turn (get_last (h := h)) (by omega) ne' nn' hq' hv') ?_ ?_
    · rintro _ _ ⟨l2, q2, y6, y7, rfl, rfl, nn2, hl2, hq2, hv2, hs2⟩
      exact ⟨l2, q2, _, y6, y7, rfl, by rw [set_last], nn2, by omega, fun a ha => by have := hq2 a ha; omega, hv2, by rw [hs2, hs']; simp; omega⟩
    · rintro d _ ⟨rfl, rfl⟩
      exact ⟨rfl, _, rfl⟩
  · rintro _ g ⟨l', q', x5, x6, x7, rfl, rfl, nn', hl', hq', hv', hs'⟩
    refine nx_ret ?_
    simp -implicitDefEqProofs only [ok_ok, ok_bind, ok_tb, bl_bl, x_bin, x_args, evR_cons, evR_nil, x_var, x_c, ofO_some, x_and, x_or, x_not, x_eif, x_chain, x_lst, x_tup, x_isi, List.getElem?_cons_zero, List.getElem?_cons_succ, List.set_cons_zero, List.set_cons_succ, o_cmp, o_sub, o_add, o_int, o_is_n, o_is_b, o_isN_n, o_isN_b, q_int, nq_int]
    have h1 := hv'.1
    have h2 := hv'.nn nn'
    exact ⟨by rw [show ((S : Nat) : Int) = v by omega], _, rfl⟩
end Sh.k48

set_option linter.all false
set_option maxRecDepth 100000
namespace Sh.k48
open PySem L2 PyProof.Rows Sh
section
variable {s : DS} {h : Hm} {fa fb : FE}
theorem x_slT : eSl fa none (some fb) s h = (fa s h).bind fun x h1 => (fb s h1).bind fun d h2 => match d with
  | .int i => dSl x none (some i) h2
  | _ => .bad := by rfl
theorem x_slF : eSl fa (some fb) none s h = (fa s h).bind fun x h1 => (fb s h1).bind fun d h2 => match d with
  | .int i => dSl x (some i) none h2
  | _ => .bad := by rfl
theorem sl_to {n k : Nat} {i : Int} {xs : List D} (e : h[n]? = some (.lst xs)) (hi : i = (k : Int)) : dSl (.ref n) none (some i) h = .ok (.ref h.length) (h ++ [.lst (xs.take k)]) := by
  subst hi
  simp only [dSl, e, cutD, HT.sIx_none, HT.sIx_nat, List.drop_zero, Nat.sub_zero]
  rw [List.take_eq_take_min (i := k)]
theorem sl_from {n k : Nat} {i : Int} {xs : List D} (e : h[n]? = some (.lst xs)) (hi : i = (k : Int)) : dSl (.ref n) (some i) none h = .ok (.ref h.length) (h ++ [.lst (xs.drop k)]) := by
  subst hi
  simp only [dSl, e, cutD, HT.sIx_none, HT.sIx_nat]
  by_cases hk : k ≤ xs.length
  · rw [Nat.min_eq_left hk, List.take_of_length_le (by rw [List.length_drop]; exact Nat.le_refl _)]
  · rw [Nat.min_eq_right (by omega), List.drop_of_length_le (Nat.le_refl _), List.drop_of_length_le (by omega)]
    simp
theorem cat_ok {a b : Nat} {xs ys : List D} (ea : h[a]? = some (.lst xs)) (eb : h[b]? = some (.lst ys)) (hl : xs.length + ys.length ≤ 1000000) : dAdd (.ref a) (.ref b) h = .ok (.ref h.length) (h ++ [.lst (xs ++ ys)]) := by
  have hl' : xs.length + ys.length ≤ big := hl
  simp only [dAdd, ea, eb, hl', if_true]
end
theorem set_cut (l : List Int) (b : Nat) (y : Int) (hb : b < l.length) : l.take b ++ [y] ++ l.drop (b + 1) = l.set b y := by
  rw [List.set_eq_take_append_cons_drop, if_pos hb, List.append_assoc]
  rfl
theorem x_is_life {v w : Int} {h : Hm} : m__law_is_life [.int v, .int w] h = .ok (.bl (decide (v = w))) h := by
  simp [m__law_is_life, x_run, g__law_is_life, kit_table]
theorem less_ok {a1 a2 x4 x5 : Option D} {n b : Nat} {g : Hm} {l : List Int} {x : Int} (e : g[n]? = some (.lst (l.map D.int))) (hl : l.length ≤ 100) (ex : l[b]? = some x) :
    OK ((eBin dAdd (eBin dAdd (eSl (eVar 0) none (some (eVar 3))) (eLst [(eBin dSub (eBin dIx (eVar 0) (eVar 3)) (eC (.int 1)))])) (eSl (eVar 0) (some (eBin dAdd (eVar 3) (eC (.int 1)))) none)) [some (.ref n), a1, a2, some (.int (b : Int)), x4, x5] g)
      fun d g' => ∃ m t, d = .ref m ∧ g' = g ++ t ∧ g'[m]? = some (.lst ((l.set b (x - 1)).map D.int)) := by
  have hb := (List.getElem?_eq_some_iff.mp ex).1
  have old : ∀ t : Hm, (g ++ t)[n]? = some (.lst (l.map D.int)) := fun t => by rw [List.getElem?_append_left (lt_of_get e)]; exact e
  simp -implicitDefEqProofs only [ok_ok, ok_bind, ok_tb, bl_bl, x_bin, x_args, evR_cons, evR_nil, x_var, x_c, ofO_some, x_and, x_or, x_not, x_eif, x_chain, x_lst, x_tup, x_isi, List.getElem?_cons_zero, List.getElem?_cons_succ, List.set_cons_zero, List.set_cons_succ, o_cmp, o_sub, o_add, o_int, o_is_n, o_is_b, o_isN_n, o_isN_b, q_int, nq_int, x_slT, x_slF, sl_to (k := b) e rfl]
  simp -implicitDefEqProofs only [ok_ok, ok_bind, ok_tb, bl_bl, x_bin, x_args, evR_cons, evR_nil, x_var, x_c, ofO_some, x_and, x_or, x_not, x_eif, x_chain, x_lst, x_tup, x_isi, List.getElem?_cons_zero, List.getElem?_cons_succ, List.set_cons_zero, List.set_cons_succ, o_cmp, o_sub, o_add, o_int, o_is_n, o_is_b, o_isN_n, o_isN_b, q_int, nq_int, ix_ints (old [.lst ((l.map D.int).take b)]) ex]
  have ea : (g ++ [O.lst ((l.map D.int).take b)] ++ [O.lst [D.int (x - 1)]])[g.length]? = some (.lst ((l.map D.int).take b)) := by simp
  have eb : (g ++ [O.lst ((l.map D.int).take b)] ++ [O.lst [D.int (x - 1)]])[(g ++ [O.lst ((l.map D.int).take b)]).length]? = some (.lst [D.int (x - 1)]) := by simp
  simp -implicitDefEqProofs only [ok_ok, ok_bind, ok_tb, bl_bl, x_bin, x_args, evR_cons, evR_nil, x_var, x_c, ofO_some, x_and, x_or, x_not, x_eif, x_chain, x_lst, x_tup, x_isi, List.getElem?_cons_zero, List.getElem?_cons_succ, List.set_cons_zero, List.set_cons_succ, o_cmp, o_sub, o_add, o_int, o_is_n, o_is_b, o_isN_n, o_isN_b, q_int, nq_int, cat_ok ea eb (by simp; omega)]
  have en : (g ++ [O.lst ((l.map D.int).take b)] ++ [O.lst [D.int (x - 1)]] ++ [O.lst ((l.map D.int).take b ++ [D.int (x - 1)])])[n]? = some (.lst (l.map D.int)) := by
    rw [List.append_assoc, List.append_assoc]
    exact old _
  simp -implicitDefEqProofs only [ok_ok, ok_bind, ok_tb, bl_bl, x_bin, x_args, evR_cons, evR_nil, x_var, x_c, ofO_some, x_and, x_or, x_not, x_eif, x_chain, x_lst, x_tup, x_isi, List.getElem?_cons_zero, List.getElem?_cons_succ, List.set_cons_zero, List.set_cons_succ, o_cmp, o_sub, o_add, o_int, o_is_n, o_is_b, o_isN_n, o_isN_b, q_int, nq_int, sl_from (k := b + 1) (i := (b : Int) + 1) en (by omega)]
  have ec : (g ++ [O.lst ((l.map D.int).take b)] ++ [O.lst [D.int (x - 1)]] ++ [O.lst ((l.map D.int).take b ++ [D.int (x - 1)])] ++ [O.lst ((l.map D.int).drop (b + 1))])[(g ++ [O.lst ((l.map D.int).take b)] ++ [O.lst [D.int (x - 1)]]).length]? = some (.lst ((l.map D.int).take b ++ [D.int (x - 1)])) := by simp
  have ed : (g ++ [O.lst ((l.map D.int).take b)] ++ [O.lst [D.int (x - 1)]] ++ [O.lst ((l.map D.int).take b ++ [D.int (x - 1)])] ++ [O.lst ((l.map D.int).drop (b + 1))])[(g ++ [O.lst ((l.map D.int).take b)] ++ [O.lst [D.int (x - 1)]] ++ [O.lst ((l.map D.int).take b ++ [D.int (x - 1)])]).length]? = some (.lst ((l.map D.int).drop (b + 1))) := by simp
  simp -implicitDefEqProofs only [ok_ok, ok_bind, ok_tb, bl_bl, x_bin, x_args, evR_cons, evR_nil, x_var, x_c, ofO_some, x_and, x_or, x_not, x_eif, x_chain, x_lst, x_tup, x_isi, List.getElem?_cons_zero, List.getElem?_cons_succ, List.set_cons_zero, List.set_cons_succ, o_cmp, o_sub, o_add, o_int, o_is_n, o_is_b, o_isN_n, o_isN_b, q_int, nq_int, cat_ok ec ed (by simp; omega)]
  refine ⟨_, _, rfl, by rw [List.append_assoc, List.append_assoc, List.append_assoc, List.append_assoc], ?_⟩
  rw [get_last]
  rw [← set_cut l b (x - 1) hb]
  simp
theorem bf_turn {x3 x4 x5 : Option D} {n b : Nat} {g : Hm} {l : List Int} {q : Option Nat} {x best : Int} (e : g[n]? = some (.lst (l.map D.int))) (rm : Rm l) (ex : l[b]? = some x) {T : D → Hm → Prop} :
    NX (bfB [some (.ref n), some (qD q), some (.int best), some (.int (b : Int)), x4, x5] g) (fun s1 g1 => (∃ t, g1 = g ++ t) ∧ ∃ y4 y5, (q ≠ some b ∧ 0 < x ∧ ∃ w, IsL (l.set b (x - 1)) (some b) w ∧ s1 = [some (.ref n), some (qD q), some (.int (if 1 + w > best then 1 + w else best)), some (.int (b : Int)), y4, y5]) ∨
      (¬ (q ≠ some b ∧ 0 < x) ∧ s1 = [some (.ref n), some (qD q), some (.int best), some (.int (b : Int)), y4, y5])) T := by
  have hb := (List.getElem?_eq_some_iff.mp ex).1
  refine nx_ifP (p := q ≠ some b ∧ 0 < x) (h1 := g) ?_ (fun hp => ?_) (fun hp => nx_next ⟨⟨[], by simp⟩, _, _, .inr ⟨hp, rfl⟩⟩)
  · simp only [x_and, x_bin, x_var, x_c, List.getElem?_cons_zero, List.getElem?_cons_succ, ofO_some, RD.bind_ok, ne_q, tb_ok, ix_ints e ex, o_cmp]
    by_cases c1 : q = some b <;> simp [c1]
  · refine nx_seq (nx_set ?_)
    refine (less_ok e rm.len ex).mono ?_
    rintro _ g1 ⟨m, t, rfl, rfl, em⟩
    try simp -implicitDefEqProofs only [ok_ok, ok_bind, ok_tb, bl_bl, x_bin, x_args, evR_cons, evR_nil, x_var, x_c, ofO_some, x_and, x_or, x_not, x_eif, x_chain, x_lst, x_tup, x_isi, List.getElem?_cons_zero, List.getElem?_cons_succ, List.set_cons_zero, List.set_cons_succ, o_cmp, o_sub, o_add, o_int, o_is_n, o_is_b, o_isN_n, o_isN_b, q_int, nq_int]
    refine nx_seq (nx_set ?_)
    try simp -implicitDefEqProofs only [ok_ok, ok_bind, ok_tb, bl_bl, x_bin, x_args, evR_cons, evR_nil, x_var, x_c, ofO_some, x_and, x_or, x_not, x_eif, x_chain, x_lst, x_tup, x_isi, List.getElem?_cons_zero, List.getElem?_cons_succ, List.set_cons_zero, List.set_cons_succ, o_cmp, o_sub, o_add, o_int, o_is_n, o_is_b, o_isN_n, o_isN_b, q_int, nq_int]
    have rm2 : Rm (l.set b (x - 1)) := by
      refine ⟨fun z => ?_, by simpa using rm.len, fun y hy => ?_⟩
      · have := congrArg List.length z
        rw [List.length_set] at this
        simp at this
        exact rm.ne this
      · rcases List.mem_or_eq_of_mem_set hy with hy | hy
        · exact rm.bd y hy
        · have := rm.bd x (List.mem_of_getElem? ex)
          have := hp.2
          omega
    refine (x_lone (q := some b) em rm2 (fun a ha => by cases ha; simpa using hb)).mono ?_
    rintro _ g2 ⟨w, t2, rfl, rfl, hw⟩
    try simp -implicitDefEqProofs only [ok_ok, ok_bind, ok_tb, bl_bl, x_bin, x_args, evR_cons, evR_nil, x_var, x_c, ofO_some, x_and, x_or, x_not, x_eif, x_chain, x_lst, x_tup, x_isi, List.getElem?_cons_zero, List.getElem?_cons_succ, List.set_cons_zero, List.set_cons_succ, o_cmp, o_sub, o_add, o_int, o_is_n, o_is_b, o_isN_n, o_isN_b, q_int, nq_int]
    refine nx_seq (nx_ifF (h1 := g ++ t ++ t2) (by simp [kit_table]) (nx_next ?_))
    refine nx_set ?_
    simp -implicitDefEqProofs only [ok_ok, ok_bind, ok_tb, bl_bl, x_bin, x_args, evR_cons, evR_nil, x_var, x_c, ofO_some, x_and, x_or, x_not, x_eif, x_chain, x_lst, x_tup, x_isi, List.getElem?_cons_zero, List.getElem?_cons_succ, List.set_cons_zero, List.set_cons_succ, o_cmp, o_sub, o_add, o_int, o_is_n, o_is_b, o_isN_n, o_isN_b, q_int, nq_int, bTwo]
    exact ⟨⟨t ++ t2, by simp⟩, _, _, .inl ⟨hp.1, hp.2, w, hw, rfl⟩⟩
theorem best_ex (l : List Int) (q : Option Nat) : ∀ k, k ≤ l.length → ∃ best, Best l q k best
  | 0, _ => ⟨none, fun i x hi => absurd hi (by omega)⟩
  | k + 1, hk => by
    obtain ⟨best, hb⟩ := best_ex l q k (by omega)
    have ex : l[k]? = some l[k] := List.getElem?_eq_getElem hk
    generalize l[k] = x at ex
    have here : ∀ {i : Nat} {y : Int}, i = k → l[i]? = some y → y = x := fun hi hy => by
      subst hi
      rw [ex] at hy
      cases hy
      rfl
    cases best with
    | none =>
      by_cases c : q ≠ some k ∧ 0 < x
      · refine ⟨some k, by omega, c.1, x, ex, c.2, fun i y hi hq hy => ?_⟩
        by_cases hik : i = k
        · rw [here hik hy]; exact Int.le_refl _
        · have := hb i y (by omega) hq hy
          have := c.2
          omega
      · refine ⟨none, fun i y hi hq hy hy0 => ?_⟩
        by_cases hik : i = k
        · subst hik
          exact c ⟨hq, by rw [← here rfl hy]; exact hy0⟩
        · exact hb i y (by omega) hq hy hy0
    | some b =>
      obtain ⟨h1, h2, z, hz, hz0, hall⟩ := hb
      by_cases c : q ≠ some k ∧ z < x
      · refine ⟨some k, by omega, c.1, x, ex, by omega, fun i y hi hq hy => ?_⟩
        by_cases hik : i = k
        · rw [here hik hy]; exact Int.le_refl _
        · have := hall i y (by omega) hq hy
          have := c.2
          omega
      · refine ⟨some b, by omega, h2, z, hz, hz0, fun i y hi hq hy => ?_⟩
        by_cases hik : i = k
        · have e := here hik hy
          subst hik
          exact Classical.byContradiction fun hc => c ⟨hq, by omega⟩
        · exact hall i y (by omega) hq hy
theorem x_best_first {h : Hm} {n : Nat} {l : List Int} {q : Option Nat} {v : Int} (e : h[n]? = some (.lst (l.map D.int))) (rm : Rm l) (hq : ∀ a, q = some a → a < l.length) (hv : IsL l q v) :
    OK (m__law_best_first [.ref n, qD q] h) fun d h' => d = .int v ∧ ∃ t, h' = h ++ t := by
  have hl := rm.len
  refine ok_run ?_
  show NX (g__law_best_first [some (.ref n), some (qD q), none, none, none, none] h) _ _
  unfold g__law_best_first
  refine nx_seq (nx_set ?_)
  simp -implicitDefEqProofs only [ok_ok, ok_bind, ok_tb, bl_bl, x_bin, x_args, evR_cons, evR_nil, x_var, x_c, ofO_some, x_and, x_or, x_not, x_eif, x_chain, x_lst, x_tup, x_isi, List.getElem?_cons_zero, List.getElem?_cons_succ, List.set_cons_zero, List.set_cons_succ, o_cmp, o_sub, o_add, o_int, o_is_n, o_is_b, o_isN_n, o_isN_b, q_int, nq_int]
  refine nx_seq (nx_forR (n := l.length) (h1 := h) (fun j s g => (∃ t, g = h ++ t) ∧ ∃ (best : Int) (x3 x4 x5 : Option D), s = [some (.ref n), some (qD q), some (.int best), x3, x4, x5] ∧ 0 ≤ best ∧ best ≤ v ∧
      ∀ (b : Nat) (x w : Int), b < j → l[b]? = some x → q ≠ some b → 0 < x → IsL (l.set b (x - 1)) (some b) w → 1 + w ≤ best) (by omega) (by simp [len_ref e]) ?_ ?_ ?_)
  · exact ⟨⟨[], by simp⟩, 0, _, _, _, rfl, Int.le_refl _, hv.nn rm.nn, fun b x w hb => absurd hb (by omega)⟩
  · rintro j _ g hj ⟨⟨t, rfl⟩, best, x3, x4, x5, rfl, b0, bv, hall⟩
    simp only [List.set_cons_zero, List.set_cons_succ]
    have ex : l[j]? = some l[j] := List.getElem?_eq_getElem hj
    generalize l[j] = x at ex
    have e1 : (h ++ t)[n]? = some (.lst (l.map D.int)) := by rw [List.getElem?_append_left (lt_of_get e)]; exact e
    refine NX.mono (bf_turn (x3 := none) e1 rm ex) ?_ (fun _ _ z => z)
    rintro _ g1 ⟨⟨t1, rfl⟩, y4, y5, ⟨c1, c2, w, hw, rfl⟩ | ⟨c, rfl⟩⟩
    · have h1 := step_le rm.nn ex c2 c1 hv hw
      have h2 := hw.nn (less_nn rm.nn ex c2)
      refine ⟨⟨t ++ t1, by simp⟩, _, _, _, _, rfl, by split <;> omega, by split <;> omega, fun b y w' hb hy hqb hy0 hw' => ?_⟩
      by_cases hbj : b = j
      · subst hbj
        rw [ex] at hy
        cases hy
        have := hw.uniq hw'
        split <;> omega
      · have := hall b y w' (by omega) hy hqb hy0 hw'
        split <;> omega
    · refine ⟨⟨t ++ t1, by simp⟩, best, _, _, _, rfl, b0, bv, fun b y w' hb hy hqb hy0 hw' => ?_⟩
      by_cases hbj : b = j
      · subst hbj
        rw [ex] at hy
        cases hy
        exact absurd ⟨hqb, hy0⟩ c
      · exact hall b y w' (by omega) hy hqb hy0 hw'
  · rintro _ g ⟨⟨t, rfl⟩, best, x3, x4, x5, rfl, b0, bv, hall⟩
    refine nx_ret ?_
    simp -implicitDefEqProofs only [ok_ok, ok_bind, ok_tb, bl_bl, x_bin, x_args, evR_cons, evR_nil, x_var, x_c, ofO_some, x_and, x_or, x_not, x_eif, x_chain, x_lst, x_tup, x_isi, List.getElem?_cons_zero, List.getElem?_cons_succ, List.set_cons_zero, List.set_cons_succ, o_cmp, o_sub, o_add, o_int, o_is_n, o_is_b, o_isN_n, o_isN_b, q_int, nq_int]
    refine ⟨?_, t, rfl⟩
    obtain ⟨bo, hb⟩ := best_ex l q l.length (Nat.le_refl _)
    cases bo with
    | none =>
      have h0 := step_no rm.nn hq (fun i x hi ex => hb i x (List.getElem?_eq_some_iff.mp ex).1 hi ex) hv
      rw [show best = v by omega]
    | some b =>
      obtain ⟨h1, h2, x, hx, hx0, hmax⟩ := hb
      obtain ⟨w, hw⟩ := isL_ex (less_nn rm.nn hx hx0) (by intro z; have := congrArg List.length z; rw [List.length_set] at this; simp at this; exact rm.ne this) (some b)
      have hs := step_ge rm.nn hx hx0 h2 (fun i y hi hy => hmax i y (List.getElem?_eq_some_iff.mp hy).1 hi hy) hv hw
      have := hall b x w h1 hx h2 hx0 hw
      rw [show best = v by omega]
end Sh.k48

set_option linter.all false
set_option maxRecDepth 100000
namespace Sh.k48
open PySem L2 PyProof.Rows Sh
def TT : D → Hm → Prop := fun d _ => d = .bl true
theorem sum3 : ∀ {l : List Int}, (∀ x ∈ l, 0 ≤ x ∧ x ≤ 3) → l.sum ≤ 3 * (l.length : Int)
  | [], _ => by simp
  | a :: l, h => by
    have h1 := sum3 (l := l) fun x hx => h x (List.mem_cons_of_mem _ hx)
    have h2 := h a List.mem_cons_self
    rw [List.sum_cons, List.length_cons]
    simp only [Int.natCast_add]
    omega
theorem old {g t : Hm} {n : Nat} {o : O} (e : g[n]? = some o) : (g ++ t)[n]? = some o := by rw [List.getElem?_append_left (lt_of_get e)]; exact e
theorem lw10_ok {a0 a1 a3 a4 a5 a11 : Option D} {sm : Bool} {n2 : Nat} {l : List Int} {q : Option Nat} {v : Int} {g : Hm} {N : DS → Hm → Prop} (e2 : g[n2]? = some (.lst (l.map D.int))) (rm : Rm l) (hq : ∀ a, q = some a → a < l.length) (hv : IsL l q v) :
    NX (lw10 [a0, a1, some (.bl sm), a3, a4, a5, some (qD q), some (.ref n2), some (.int v), none, none, a11] g) N TT := by
  have hm := mxI_mem rm.ne
  have es : ∀ t : Hm, bInts (fun ns => some ns.sum) [.ref n2] (g ++ t) = .ok (.int l.sum) (g ++ t) := fun t => ints_ok (old e2) rfl
  have em : bInts (fun ns => if ns = [] then none else some (mxI ns)) [.ref n2] g = .ok (.int (mxI l)) g := ints_ok e2 (by rw [if_neg rm.ne])
  have es0 := es []
  rw [List.append_nil] at es0
  refine nx_seq (nx_set ?_)
  simp -implicitDefEqProofs only [ok_ok, ok_bind, ok_tb, bl_bl, x_bin, x_args, evR_cons, evR_nil, x_var, x_c, ofO_some, x_and, x_or, x_not, x_eif, x_chain, x_lst, x_tup, x_isi, List.getElem?_cons_zero, List.getElem?_cons_succ, List.set_cons_zero, List.set_cons_succ, o_cmp, o_sub, o_add, o_int, o_is_n, o_is_b, o_isN_n, o_isN_b, q_int, nq_int, es0, em]
  obtain ⟨d, g2, eb, rfl, t, rfl⟩ := (x_best_first e2 rm hq hv).get
  refine nx_seq (nx_set ?_)
  simp -implicitDefEqProofs only [ok_ok, ok_bind, ok_tb, bl_bl, x_bin, x_args, evR_cons, evR_nil, x_var, x_c, ofO_some, x_and, x_or, x_not, x_eif, x_chain, x_lst, x_tup, x_isi, List.getElem?_cons_zero, List.getElem?_cons_succ, List.set_cons_zero, List.set_cons_succ, o_cmp, o_sub, o_add, o_int, o_is_n, o_is_b, o_isN_n, o_isN_b, q_int, nq_int, eb]
  refine nx_seq (nx_ifF (h1 := g ++ t) (by simp [x_is_life]) (nx_next ?_))
  refine nx_ret ?_
  have h0 := hv.nn rm.nn
  have h1 := hv.1
  have h2 : v ≤ 2 * (l.sum - mxI l) + 1 := by
    obtain ⟨i, hi, ei⟩ := List.mem_iff_getElem.mp hm.1
    have := hv.2.1 i (mxI l) (by rw [List.getElem?_eq_getElem hi, ei])
    unfold bd at this
    split at this <;> omega
  have m2 : ∀ (j : Int) (h : Hm), dMul (.int 2) (.int j) h = .ok (.int (2 * j)) h := fun j h => o_mulL (by decide) (by decide)
  refine OK.of (d := .bl true) (h := g ++ t) ?_ rfl
  simp [h0, h1, h2, m2, es]
theorem lw8_ok {a0 a1 a3 a4 a11 : Option D} {sm : Bool} {n n2 : Nat} {l : List Int} {q : Option Nat} {v : Int} {g : Hm} {N : DS → Hm → Prop} (e1 : g[n]? = some (.lst (l.map D.int))) (e2 : g[n2]? = some (.lst (l.map D.int))) (rm : Rm l) (hq : ∀ a, q = some a → a < l.length) (hv : IsL l q v)
    (hs : sm = true → ∀ x ∈ l, 0 ≤ x ∧ x ≤ 3) :
    NX (lw8 [a0, a1, some (.bl sm), a3, a4, some (.ref n), some (qD q), some (.ref n2), some (.int v), none, none, a11] g) N TT := by
  have hl := rm.len
  refine nx_seq (nx_ifF (h1 := g) (by simp [ne_ints e1 e2]) (nx_next ?_))
  cases sm with
  | false => exact nx_seq (nx_ifF (h1 := g) (by simp) (nx_next (lw10_ok e2 rm hq hv)))
  | true =>
    by_cases c : (l.length : Int) ≤ 40
    · have h3 := sum3 (hs rfl)
      obtain ⟨d, g2, el, rfl, t, rfl⟩ := (x_longest e2 (by omega) rm.ne rm.nn (by omega) hq hv).get
      refine nx_seq (nx_ifF (h1 := g ++ t) ?_ (nx_next (lw10_ok (old e2) rm hq hv)))
      simp only [x_and, x_not, x_args, evR_cons, evR_nil, x_bin, x_var, x_c, List.getElem?_cons_zero, List.getElem?_cons_succ, ofO_some, RD.bind_ok, tb_ok, len_ref e1, List.length_map, o_cmp, c, decide_true, if_true, el, x_is_life, Bool.not_true]
    · refine nx_seq (nx_ifF (h1 := g) ?_ (nx_next (lw10_ok e2 rm hq hv)))
      simp only [x_and, x_args, evR_cons, evR_nil, x_bin, x_var, x_c, List.getElem?_cons_zero, List.getElem?_cons_succ, ofO_some, RD.bind_ok, tb_ok, len_ref e1, List.length_map, o_cmp, c, decide_false, if_true]
      rfl
theorem lw6_ok {a0 a1 a3 a4 a11 : Option D} {sm : Bool} {n : Nat} {l : List Int} {q : Option Nat} {g : Hm} {N : DS → Hm → Prop} (e1 : g[n]? = some (.lst (l.map D.int))) (rm : Rm l) (hq : ∀ a, q = some a → a < l.length)
    (hs : sm = true → ∀ x ∈ l, 0 ≤ x ∧ x ≤ 3) :
    NX (lw6 [a0, a1, some (.bl sm), a3, a4, some (.ref n), some (qD q), none, none, none, none, a11] g) N TT := by
  have bl : bList [.ref n] g = .ok (.ref g.length) (g ++ [.lst (l.map D.int)]) := by simp [bList, items, e1]
  refine nx_seq (nx_set ?_)
  simp -implicitDefEqProofs only [ok_ok, ok_bind, ok_tb, bl_bl, x_bin, x_args, evR_cons, evR_nil, x_var, x_c, ofO_some, x_and, x_or, x_not, x_eif, x_chain, x_lst, x_tup, x_isi, List.getElem?_cons_zero, List.getElem?_cons_succ, List.set_cons_zero, List.set_cons_succ, o_cmp, o_sub, o_add, o_int, o_is_n, o_is_b, o_isN_n, o_isN_b, q_int, nq_int, bl]
  refine nx_seq (nx_set ?_)
  simp -implicitDefEqProofs only [ok_ok, ok_bind, ok_tb, bl_bl, x_bin, x_args, evR_cons, evR_nil, x_var, x_c, ofO_some, x_and, x_or, x_not, x_eif, x_chain, x_lst, x_tup, x_isi, List.getElem?_cons_zero, List.getElem?_cons_succ, List.set_cons_zero, List.set_cons_succ, o_cmp, o_sub, o_add, o_int, o_is_n, o_is_b, o_isN_n, o_isN_b, q_int, nq_int]
  refine (x_lone (old e1) rm hq).mono ?_
  rintro _ g2 ⟨v, t, rfl, rfl, hv⟩
  try simp -implicitDefEqProofs only [ok_ok, ok_bind, ok_tb, bl_bl, x_bin, x_args, evR_cons, evR_nil, x_var, x_c, ofO_some, x_and, x_or, x_not, x_eif, x_chain, x_lst, x_tup, x_isi, List.getElem?_cons_zero, List.getElem?_cons_succ, List.set_cons_zero, List.set_cons_succ, o_cmp, o_sub, o_add, o_int, o_is_n, o_is_b, o_isN_n, o_isN_b, q_int, nq_int]
  exact lw8_ok (old (old e1)) (old get_last) rm hq hv hs
theorem find_mx (l : List Int) (m : Int) (hm : m ∈ l) : ∃ j, j < l.length ∧ (l.map D.int).findIdx? (fun z => eqF z (.int m)) = some j := by
  cases h : (l.map D.int).findIdx? (fun z => eqF z (.int m)) with
  | none =>
    rw [List.findIdx?_eq_none_iff] at h
    have := h (.int m) (List.mem_map_of_mem hm)
    simp [eqF] at this
  | some j =>
    obtain ⟨h1, _⟩ := List.findIdx?_eq_some_iff_getElem.mp h
    exact ⟨j, by simpa using h1, rfl⟩
theorem lw5_ok {ns : List Int} {a0 a4 a11 : Option D} {sm : Bool} {n : Nat} {wh : Int} {l : List Int} {g : Hm} {N : DS → Hm → Prop} (pl : Pl ns g) (hn : 2 ≤ n) (e1 : g[n]? = some (.lst (l.map D.int))) (rm : Rm l)
    (hs : sm = true → ∀ x ∈ l, 0 ≤ x ∧ x ≤ 3) :
    NX (lw5 [a0, some (.ref 1), some (.bl sm), some (.int wh), a4, some (.ref n), some .non, none, none, none, none, a11] g) N TT := by
  have hl := rm.len
  have hl0 : 0 < l.length := List.length_pos_iff.mpr rm.ne
  refine nx_seq (NX.mono (N := fun s1 g1 => ∃ q : Option Nat, (∀ a, q = some a → a < l.length) ∧ s1 = [a0, some (.ref 1), some (.bl sm), some (.int wh), a4, some (.ref n), some (qD q), none, none, none, none, a11] ∧ g1[n]? = some (.lst (l.map D.int))) (T := fun _ _ => False) ?_ ?_ (fun _ _ z => False.elim z))
  · refine nx_ifP (p := wh = 1) (h1 := g) (by simp) (fun hc => ?_) (fun hc => ?_)
    · refine nx_set ?_
      simp -implicitDefEqProofs only [ok_ok, ok_bind, ok_tb, bl_bl, x_bin, x_args, evR_cons, evR_nil, x_var, x_c, ofO_some, x_and, x_or, x_not, x_eif, x_chain, x_lst, x_tup, x_isi, List.getElem?_cons_zero, List.getElem?_cons_succ, List.set_cons_zero, List.set_cons_succ, o_cmp, o_sub, o_add, o_int, o_is_n, o_is_b, o_isN_n, o_isN_b, q_int, nq_int, len_ref e1]
      refine (x_digit pl (by simp; omega) (by simp; omega)).mono ?_
      rintro _ g1 ⟨i, rfl, bi, pl1, fr1⟩
      obtain ⟨a, rfl⟩ := Int.eq_ofNat_of_zero_le bi.1
      refine ⟨some a, fun b hb => (by cases hb; have := bi.2; simp at this; omega), rfl, fr1.get hn e1⟩
    · refine nx_ifP (p := 1 < wh) (h1 := g) (by simp) (fun hc => ?_) (fun hc => ?_)
      · have em : bInts (fun ns => if ns = [] then none else some (mxI ns)) [.ref n] g = .ok (.int (mxI l)) g := ints_ok e1 (by rw [if_neg rm.ne])
        obtain ⟨j, hj, ej⟩ := find_mx l (mxI l) (mxI_mem rm.ne).1
        have fl : (l.map D.int).all flatD = true := by simp [flatD]
        refine nx_set ?_
        refine OK.of (d := .int (j : Int)) (h := g) ?_ ⟨some j, fun b hb => (by cases hb; exact hj), rfl, e1⟩
        simp only [x_lm, x_var, List.getElem?_cons_zero, List.getElem?_cons_succ, ofO_some, RD.bind_ok, lmB_ref (gl := lIndex) e1, evR_cons, evR_nil, x_args, em, lmC_ok (gl := lIndex) e1, lIndex, ej, fl]
        simp [flatD]
      · exact nx_next ⟨none, fun b hb => (by cases hb), rfl, e1⟩
  · rintro _ g1 ⟨q, hq, rfl, e2⟩
    exact lw6_ok e2 rm hq hs
theorem law_true : ∀ ns : List Int, ns.length ≤ 63 → ∃ h', m_law [.scl (ns.map D.int)] [] = .ok (.bl true) h' := by
  intro ns hns
  suffices hh : OK (m_law [.scl (ns.map D.int)] []) TT by
    obtain ⟨d, h', e, hd⟩ := hh.get
    exact ⟨h', by rw [e, hd]⟩
  refine ok_run ?_
  show NX (g_law [some (.scl (ns.map D.int)), none, none, none, none, none, none, none, none, none, none, none] []) _ _
  unfold g_law
  have bl : bList [.scl (ns.map D.int)] [] = .ok (.ref 0) [.lst (ns.map D.int)] := by simp [bList, items]
  refine nx_seq (nx_set ?_)
  simp -implicitDefEqProofs only [ok_ok, ok_bind, ok_tb, bl_bl, x_bin, x_args, evR_cons, evR_nil, x_var, x_c, ofO_some, x_and, x_or, x_not, x_eif, x_chain, x_lst, x_tup, x_isi, List.getElem?_cons_zero, List.getElem?_cons_succ, List.set_cons_zero, List.set_cons_succ, o_cmp, o_sub, o_add, o_int, o_is_n, o_is_b, o_isN_n, o_isN_b, q_int, nq_int, bl]
  have pl : Pl ns ([O.lst (ns.map D.int)] ++ [O.lst [.ref 0, .int 0, .int 0]]) := ⟨rfl, 0, 0, rfl, Int.le_refl _⟩
  refine nx_seq (nx_set ?_)
  simp -implicitDefEqProofs only [ok_ok, ok_bind, ok_tb, bl_bl, x_bin, x_args, evR_cons, evR_nil, x_var, x_c, ofO_some, x_and, x_or, x_not, x_eif, x_chain, x_lst, x_tup, x_isi, List.getElem?_cons_zero, List.getElem?_cons_succ, List.set_cons_zero, List.set_cons_succ, o_cmp, o_sub, o_add, o_int, o_is_n, o_is_b, o_isN_n, o_isN_b, q_int, nq_int]
  refine (x_digit pl (by decide) (by decide)).mono ?_
  rintro _ h1 ⟨i1, rfl, b1, pl1, fr1⟩
  simp -implicitDefEqProofs only [ok_ok, ok_bind, ok_tb, bl_bl, x_bin, x_args, evR_cons, evR_nil, x_var, x_c, ofO_some, x_and, x_or, x_not, x_eif, x_chain, x_lst, x_tup, x_isi, List.getElem?_cons_zero, List.getElem?_cons_succ, List.set_cons_zero, List.set_cons_succ, o_cmp, o_sub, o_add, o_int, o_is_n, o_is_b, o_isN_n, o_isN_b, q_int, nq_int]
  refine nx_seq (nx_set ?_)
  simp -implicitDefEqProofs only [ok_ok, ok_bind, ok_tb, bl_bl, x_bin, x_args, evR_cons, evR_nil, x_var, x_c, ofO_some, x_and, x_or, x_not, x_eif, x_chain, x_lst, x_tup, x_isi, List.getElem?_cons_zero, List.getElem?_cons_succ, List.set_cons_zero, List.set_cons_succ, o_cmp, o_sub, o_add, o_int, o_is_n, o_is_b, o_isN_n, o_isN_b, q_int, nq_int]
  refine (x_digit pl1 (by decide) (by decide)).mono ?_
  rintro _ h2 ⟨wh, rfl, b2, pl2, fr2⟩
  try simp -implicitDefEqProofs only [ok_ok, ok_bind, ok_tb, bl_bl, x_bin, x_args, evR_cons, evR_nil, x_var, x_c, ofO_some, x_and, x_or, x_not, x_eif, x_chain, x_lst, x_tup, x_isi, List.getElem?_cons_zero, List.getElem?_cons_succ, List.set_cons_zero, List.set_cons_succ, o_cmp, o_sub, o_add, o_int, o_is_n, o_is_b, o_isN_n, o_isN_b, q_int, nq_int]
  refine nx_seq (NX.mono (N := fun s1 g1 => ∃ x4 n l, s1 = [some (.scl (ns.map D.int)), some (.ref 1), some (.bl (decide (i1 = 0))), some (.int wh), x4, some (.ref n), none, none, none, none, none, none] ∧ Pl ns g1 ∧ 2 ≤ n ∧ g1[n]? = some (.lst (l.map D.int)) ∧ Rm l ∧ (decide (i1 = 0) = true → ∀ x ∈ l, 0 ≤ x ∧ x ≤ 3)) (T := fun _ _ => False) ?_ ?_ (fun _ _ z => False.elim z))
  · refine nx_ifP (p := i1 = 0) (h1 := h2) (by simp) (fun hc => ?_) (fun hc => ?_)
    · refine nx_seq (nx_set ?_)
      simp -implicitDefEqProofs only [ok_ok, ok_bind, ok_tb, bl_bl, x_bin, x_args, evR_cons, evR_nil, x_var, x_c, ofO_some, x_and, x_or, x_not, x_eif, x_chain, x_lst, x_tup, x_isi, List.getElem?_cons_zero, List.getElem?_cons_succ, List.set_cons_zero, List.set_cons_succ, o_cmp, o_sub, o_add, o_int, o_is_n, o_is_b, o_isN_n, o_isN_b, q_int, nq_int]
      refine (x_digit pl2 (by decide) (by decide)).mono ?_
      rintro _ h3 ⟨i3, rfl, b3, pl3, fr3⟩
      simp -implicitDefEqProofs only [ok_ok, ok_bind, ok_tb, bl_bl, x_bin, x_args, evR_cons, evR_nil, x_var, x_c, ofO_some, x_and, x_or, x_not, x_eif, x_chain, x_lst, x_tup, x_isi, List.getElem?_cons_zero, List.getElem?_cons_succ, List.set_cons_zero, List.set_cons_succ, o_cmp, o_sub, o_add, o_int, o_is_n, o_is_b, o_isN_n, o_isN_b, q_int, nq_int]
      obtain ⟨M, hM⟩ := Int.eq_ofNat_of_zero_le (show 0 ≤ 1 + i3 by omega)
      rw [hM]
      have h32 := pl3.two
      refine nx_set ?_
      refine ok_elcR (n := M) (h1 := h3) (fun j acc g => Pl ns g ∧ ∃ l : List Int, acc = l.map D.int ∧ l.length = j ∧ (∀ x ∈ l, 0 ≤ x ∧ x ≤ 3) ∧ g[h3.length]? = some (.lst (l.map D.int))) (by omega) rfl ?_ ?_ ?_ ?_
      · exact ⟨pl3.app _, [], rfl, rfl, fun x z => (by cases z), get_last⟩
      · rintro j acc g ⟨pg, l, rfl, hl, hx, eg⟩
        exact ⟨by simp [hl], eg⟩
      · rintro j acc g hj ⟨pg, l, rfl, hl, hx, eg⟩
        refine ⟨rfl, ?_⟩
        simp only [wipeD, List.set_cons_zero, List.set_cons_succ]
        simp -implicitDefEqProofs only [ok_ok, ok_bind, ok_tb, bl_bl, x_bin, x_args, evR_cons, evR_nil, x_var, x_c, ofO_some, x_and, x_or, x_not, x_eif, x_chain, x_lst, x_tup, x_isi, List.getElem?_cons_zero, List.getElem?_cons_succ, List.set_cons_zero, List.set_cons_succ, o_cmp, o_sub, o_add, o_int, o_is_n, o_is_b, o_isN_n, o_isN_b, q_int, nq_int]
        refine (x_digit pg (by decide) (by decide)).mono ?_
        rintro _ g2 ⟨i, rfl, bi, pg2, fg2⟩
        have e2 := fg2.get h32 eg
        refine ⟨e2, pg2.set _ h32, l ++ [i], by simp, by simp [hl], ?_, ?_⟩
        · intro x hx'
          rcases List.mem_append.mp hx' with hx' | hx'
          · exact hx x hx'
          · simp at hx'; omega
        · rw [List.getElem?_set_self (lt_of_get e2), map_snoc]
      · rintro acc g ⟨pg, l, rfl, hl, hx, eg⟩
        exact ⟨_, h3.length, l, rfl, pg, h32, eg, ⟨fun z => by rw [z] at hl; simp at hl; omega, by omega, fun x hx' => by have := hx x hx'; omega⟩, fun _ => hx⟩
    · refine nx_set ?_
      simp -implicitDefEqProofs only [ok_ok, ok_bind, ok_tb, bl_bl, x_bin, x_args, evR_cons, evR_nil, x_var, x_c, ofO_some, x_and, x_or, x_not, x_eif, x_chain, x_lst, x_tup, x_isi, List.getElem?_cons_zero, List.getElem?_cons_succ, List.set_cons_zero, List.set_cons_succ, o_cmp, o_sub, o_add, o_int, o_is_n, o_is_b, o_isN_n, o_isN_b, q_int, nq_int]
      refine (x_great pl2).mono ?_
      rintro _ g ⟨n, l, rfl, hn, eg, rm, pg, fg⟩
      exact ⟨_, n, l, rfl, pg, hn, eg, rm, fun z => absurd (of_decide_eq_true z) hc⟩
  · rintro _ g ⟨x4, n, l, rfl, pg, hn, eg, rm, hs⟩
    refine nx_seq (nx_set ?_)
    simp -implicitDefEqProofs only [ok_ok, ok_bind, ok_tb, bl_bl, x_bin, x_args, evR_cons, evR_nil, x_var, x_c, ofO_some, x_and, x_or, x_not, x_eif, x_chain, x_lst, x_tup, x_isi, List.getElem?_cons_zero, List.getElem?_cons_succ, List.set_cons_zero, List.set_cons_succ, o_cmp, o_sub, o_add, o_int, o_is_n, o_is_b, o_isN_n, o_isN_b, q_int, nq_int]
    exact lw5_ok pg hn eg rm hs
end Sh.k48


open PySem PySem.W PyProof.Rows in
set_option maxRecDepth 100000 in
set_option maxHeartbeats 0 in
theorem PySem.Challenge.cw_spentblocks_k48_whole_lone_life_by_first_holds : PySem.Challenge.rw_spentblocks_k48_whole_lone_life_by_first.Holds := by
  w_on; o_law; k_head; (case hw => w_witness2)
  k_fill
  refine Sh.walkS (l := PySem.Challenge.rw_spentblocks_k48_whole_lone_life_by_first) (k := 5) rfl rfl ⟨rfl, by decide, by decide⟩ (fun w h Y => PySem.W.kIn_of Y) ?F
  case F =>
    intro w mg fa h KX G hmg
    refine' Sh.k48.all_mk Sh.k48.law_true KX G hmg ?b_all ?b_bool ?b_int ?b_isinstance ?b_len ?b_list ?b_max ?b_min ?b_range ?b_sum ?c_MOST_ROOM ?c_MOST_ROOMS ?e_NoIndex ?x_NoIndex ?ke_NoIndex ?be_NoIndex ?te_NoIndex ?he_NoIndex ?e_NoRooms ?x_NoRooms ?ke_NoRooms ?be_NoRooms ?te_NoRooms ?he_NoRooms ?a_f__law_digit ?l_f__law_digit ?a_f__law_room ?l_f__law_room ?a_f__law_great ?l_f__law_great ?a_f_is_whole ?l_f_is_whole ?a_f_are_rooms ?l_f_are_rooms ?a_f_lone_life ?l_f_lone_life ?a_f__law_longest ?l_f__law_longest ?a_f__law_is_life ?l_f__law_is_life ?a_f__law_best_first ?l_f__law_best_first ?a_f_law ?l_f_law
    (case b_all => k_is)
    (case b_bool => k_is)
    (case b_int => k_is)
    (case b_isinstance => k_is)
    (case b_len => k_is)
    (case b_list => k_is)
    (case b_max => k_is)
    (case b_min => k_is)
    (case b_range => k_is)
    (case b_sum => k_is)
    (case c_MOST_ROOM => k_is)
    (case c_MOST_ROOMS => k_is)
    (case e_NoIndex => k_is)
    (case x_NoIndex => first | k_is | k_exc)
    (case ke_NoIndex => k_is)
    (case be_NoIndex => k_is)
    (case te_NoIndex => k_is)
    (case he_NoIndex => k_is)
    (case e_NoRooms => k_is)
    (case x_NoRooms => first | k_is | k_exc)
    (case ke_NoRooms => k_is)
    (case be_NoRooms => k_is)
    (case te_NoRooms => k_is)
    (case he_NoRooms => k_is)
    (case a_f__law_digit => k_is)
    (case l_f__law_digit => (refine' Sh.fnFact ?l ?c ?k; (case l => k_is); (case c => k_is); (case k => k_is)))
    (case a_f__law_room => k_is)
    (case l_f__law_room => (refine' Sh.fnFact ?l ?c ?k; (case l => k_is); (case c => k_is); (case k => k_is)))
    (case a_f__law_great => k_is)
    (case l_f__law_great => (refine' Sh.fnFact ?l ?c ?k; (case l => k_is); (case c => k_is); (case k => k_is)))
    (case a_f_is_whole => k_is)
    (case l_f_is_whole => (refine' Sh.fnFact ?l ?c ?k; (case l => k_is); (case c => k_is); (case k => k_is)))
    (case a_f_are_rooms => k_is)
    (case l_f_are_rooms => (refine' Sh.fnFact ?l ?c ?k; (case l => k_is); (case c => k_is); (case k => k_is)))
    (case a_f_lone_life => k_is)
    (case l_f_lone_life => (refine' Sh.fnFact ?l ?c ?k; (case l => k_is); (case c => k_is); (case k => k_is)))
    (case a_f__law_longest => k_is)
    (case l_f__law_longest => (refine' Sh.fnFact ?l ?c ?k; (case l => k_is); (case c => k_is); (case k => k_is)))
    (case a_f__law_is_life => k_is)
    (case l_f__law_is_life => (refine' Sh.fnFact ?l ?c ?k; (case l => k_is); (case c => k_is); (case k => k_is)))
    (case a_f__law_best_first => k_is)
    (case l_f__law_best_first => (refine' Sh.fnFact ?l ?c ?k; (case l => k_is); (case c => k_is); (case k => k_is)))
    (case a_f_law => k_is)
    (case l_f_law => (refine' Sh.fnFact ?l ?c ?k; (case l => k_is); (case c => k_is); (case k => k_is)))
