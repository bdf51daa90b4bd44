import PyProof.Rows.All
import Wide.All
import OpenK.AllK
import Wide.FinOn
import HandS.ForMost
import HandS.ForExc
import HandS.ExcOwn
import HandS.CallSlots
import HandS.IsInst
import HandS.TupAny
import HandS.TupMul
import HandS.Wide
import HandS.Deep
import HandS.Style
import HandS.Conv
import KE.DataFind
import KE.KIndexOf
import HandS.Defaults
import HandS.TryOnly
import HandS.TryMany
import HandS.MakeKw
import KE.GoesMore
import HandS.DictTup
import KE.SortData
import HandS.Zip
import HandS.ExcIs
import HandS.SetFor
import HandS.Flow
import HandS.Strs
import PySem.Challenge.RW_spentblocks_k07_whole_rows_of_acts
set_option Elab.async false
set_option linter.all false
set_option maxRecDepth 100000
set_option maxHeartbeats 4000000
/-! Our own layer over HandS: data without addresses, a heap that is a list, functions in the place of readings. -/
namespace Sh
open PySem L2

/-- data: tuples by their items, lists and instances by their number -/
inductive D where
  | non | bl (b : Bool) | int (i : Int) | str (s : Str) | tup (xs : List D) | ref (n : Nat) | scl (xs : List D)
/-- what stands at a number: a list; a list that is only read (the script); an instance; a dict -/
inductive O where
  | lst (xs : List D) | scr (xs : List D) | ins (c : Str) (fs : List (Str × D)) | dk (kvs : List (Key × D))
abbrev Hm := List O
inductive RD where
  | ok (d : D) (h : Hm) | exc (c : Str) (fs : List (Str × D)) (h : Hm) | bad
inductive RA where
  | ok (ds : List D) (h : Hm) | exc (c : Str) (fs : List (Str × D)) (h : Hm) | bad
abbrev DS := List (Option D)
inductive RT where
  | nx (s : DS) (h : Hm) | rt (d : D) (h : Hm) | bk (s : DS) (h : Hm) | ct (s : DS) (h : Hm) | exc (c : Str) (fs : List (Str × D)) (s : DS) (h : Hm) | bad
abbrev FE := DS → Hm → RD
abbrev FA := DS → Hm → RA
abbrev FS := DS → Hm → RT
abbrev FF := List D → Hm → RD
def RD.bind (r : RD) (k : D → Hm → RD) : RD := match r with
  | .ok d h => k d h
  | .exc c fs h => .exc c fs h
  | .bad => .bad
@[simp] theorem RD.bind_ok (d : D) (h : Hm) (k : D → Hm → RD) : (RD.ok d h).bind k = k d h := rfl
@[simp] theorem RD.bind_exc (c fs) (h : Hm) (k : D → Hm → RD) : (RD.exc c fs h).bind k = .exc c fs h := rfl
@[simp] theorem RD.bind_bad (k : D → Hm → RD) : RD.bad.bind k = .bad := rfl

mutual
def D.beq : D → D → Bool
  | .non, .non => true
  | .bl a, .bl b => a == b
  | .int a, .int b => a == b
  | .str a, .str b => a == b
  | .tup a, .tup b => D.beqL a b
  | .ref a, .ref b => a == b
  | .scl a, .scl b => D.beqL a b
  | _, _ => false
def D.beqL : List D → List D → Bool
  | [], [] => true
  | a :: l, b :: r => D.beq a b && D.beqL l r
  | _, _ => false
end
mutual
theorem D.beq_eq : ∀ a b : D, D.beq a b = true → a = b
  | .non, b, h => by cases b <;> simp [D.beq] at h ⊢
  | .bl a, b, h => by cases b <;> simp [D.beq] at h ⊢; exact h
  | .int a, b, h => by cases b <;> simp [D.beq] at h ⊢; exact h
  | .str a, b, h => by cases b <;> simp [D.beq] at h ⊢; exact h
  | .tup a, b, h => by
    cases b <;> simp [D.beq] at h ⊢
    exact D.beqL_eq _ _ h
  | .ref a, b, h => by cases b <;> simp [D.beq] at h ⊢; exact h
  | .scl a, b, h => by
    cases b <;> simp [D.beq] at h ⊢
    exact D.beqL_eq _ _ h
theorem D.beqL_eq : ∀ a b : List D, D.beqL a b = true → a = b
  | [], b, h => by cases b <;> simp [D.beqL] at h ⊢
  | a :: l, b, h => by
    cases b with
    | nil => simp [D.beqL] at h
    | cons c r =>
      simp [D.beqL] at h
      rw [D.beq_eq _ _ h.1, D.beqL_eq _ _ h.2]
end
mutual
theorem D.beq_self : ∀ a : D, D.beq a a = true
  | .non => rfl
  | .bl a => by simp [D.beq]
  | .int a => by simp [D.beq]
  | .str a => by simp [D.beq]
  | .tup a => by simp [D.beq]; exact D.beqL_self a
  | .ref a => by simp [D.beq]
  | .scl a => by simp [D.beq]; exact D.beqL_self a
theorem D.beqL_self : ∀ a : List D, D.beqL a a = true
  | [] => rfl
  | a :: l => by simp [D.beqL]; exact ⟨D.beq_self a, D.beqL_self l⟩
end
theorem D.beq_iff (a b : D) : D.beq a b = true ↔ a = b := ⟨D.beq_eq a b, fun h => h ▸ D.beq_self a⟩
theorem D.beqL_iff (a b : List D) : D.beqL a b = true ↔ a = b := ⟨D.beqL_eq a b, fun h => h ▸ D.beqL_self a⟩
instance : DecidableEq D := fun a b => decidable_of_iff _ (D.beq_iff a b)

/-! ### what a value says -/
/-- a tuple that is known to have no dict of its own -/
def TupS (K : PySem.W.Frag) (H : Hp) (a : Addr) (xs : List V) : Prop :=
  (∃ o, H a = some (.frz o (.tup xs)) ∧ o.dict = none) ∨
    ∃ (o : Obj) (its : Array Value) (n : Nat), K.lookup a = some o ∧ o.cls = .type "tuple" ∧ o.dict = none ∧ o.data = .seq its n ∧ its.size ≤ sizeLine ∧ Vals xs its.toList
theorem TupS.sqT {K : PySem.W.Frag} {H : Hp} {a : Addr} {xs : List V} (h : TupS K H a xs) : SqT K H a xs := by
  rcases h with ⟨o, h, _⟩ | ⟨o, its, n, h1, h2, _, h3⟩
  · exact .inl (.inr ⟨o, h⟩)
  · exact .inr ⟨o, its, n, h1, h2, h3⟩
/-- a list that nobody changes -/
def SclS (K : PySem.W.Frag) (H : Hp) (a : Addr) (xs : List V) : Prop :=
  (∃ o, H a = some (.frz o (.lst xs))) ∨
    ∃ (o : Obj) (its : Array Value) (n : Nat), K.lookup a = some o ∧ o.cls = .type "list" ∧ o.dict = none ∧ o.data = .seq its n ∧ its.size ≤ sizeLine ∧ Vals xs its.toList
theorem SclS.sqL {K : PySem.W.Frag} {H : Hp} {a : Addr} {xs : List V} (h : SclS K H a xs) : SqL K H a xs := by
  rcases h with ⟨o, h⟩ | h
  · exact .inl (.inr ⟨o, h⟩)
  · exact .inr h
section
variable (K : PySem.W.Frag) (m : List Addr) (H : Hp)
mutual
inductive Rep : V → D → Prop
  | non : Rep .non .non
  | bl (b : Bool) : Rep (.bl b) (.bl b)
  | int (i : Int) : Rep (.int i) (.int i)
  | str (x : Str) : Rep (.str x) (.str x)
  | tup {a : Addr} {vs : List V} {ds : List D} : TupS K H a vs → RepL vs ds → Rep (.ref a) (.tup ds)
  | ref {n : Nat} {a : Addr} : m[n]? = some a → Rep (.ref a) (.ref n)
  | scl {a : Addr} {vs : List V} {ds : List D} : SclS K H a vs → RepL vs ds → Rep (.ref a) (.scl ds)
inductive RepL : List V → List D → Prop
  | nil : RepL [] []
  | cons {v : V} {d : D} {vs : List V} {ds : List D} : Rep v d → RepL vs ds → RepL (v :: vs) (d :: ds)
end
end
structure Grow (m : List Addr) (H : Hp) (m' : List Addr) (H' : Hp) : Prop where
  loc : ∀ (n : Nat) (a : Addr), m[n]? = some a → m'[n]? = some a
  frz : ∀ (a : Addr) (o : Obj) (u : HO), H a = some (.frz o u) → H' a = some (.frz o u)
theorem Grow.refl (m : List Addr) (H : Hp) : Grow m H m H := ⟨fun _ _ h => h, fun _ _ _ h => h⟩
theorem Grow.trans {m m1 m2 : List Addr} {H H1 H2 : Hp} (a : Grow m H m1 H1) (b : Grow m1 H1 m2 H2) : Grow m H m2 H2 := ⟨fun n c h => b.loc n c (a.loc n c h), fun c o u h => b.frz c o u (a.frz c o u h)⟩
section
variable {K : PySem.W.Frag} {mg : Str → Option Value} {m m' : List Addr} {H H' : Hp}
theorem Grow.tupS (g : Grow m H m' H') {a : Addr} {vs : List V} (h : TupS K H a vs) : TupS K H' a vs := by
  rcases h with ⟨o, h, e⟩ | h
  · exact .inl ⟨o, g.frz _ _ _ h, e⟩
  · exact .inr h
theorem Grow.sclS (g : Grow m H m' H') {a : Addr} {vs : List V} (h : SclS K H a vs) : SclS K H' a vs := by
  rcases h with ⟨o, h⟩ | h
  · exact .inl ⟨o, g.frz _ _ _ h⟩
  · exact .inr h
mutual
theorem Rep.grow (g : Grow m H m' H') : ∀ {v : V} {d : D}, Rep K m H v d → Rep K m' H' v d
  | _, _, .non => .non
  | _, _, .bl b => .bl b
  | _, _, .int i => .int i
  | _, _, .str x => .str x
  | _, _, .tup h r => .tup (g.tupS h) (RepL.grow g r)
  | _, _, .ref h => .ref (g.loc _ _ h)
  | _, _, .scl h r => .scl (g.sclS h) (RepL.grow g r)
theorem RepL.grow (g : Grow m H m' H') : ∀ {vs : List V} {ds : List D}, RepL K m H vs ds → RepL K m' H' vs ds
  | _, _, .nil => .nil
  | _, _, .cons h r => .cons (Rep.grow g h) (RepL.grow g r)
end
theorem RepL.length : ∀ {vs : List V} {ds : List D}, RepL K m H vs ds → vs.length = ds.length
  | _, _, .nil => rfl
  | _, _, .cons _ r => by simp [RepL.length r]
theorem RepL.get : ∀ {vs : List V} {ds : List D} {i : Nat} {d : D}, RepL K m H vs ds → ds[i]? = some d → ∃ v, vs[i]? = some v ∧ Rep K m H v d
  | _, _, _, _, .nil, e => by simp at e
  | _, _, 0, _, .cons r _, e => by simp at e; subst e; exact ⟨_, rfl, r⟩
  | _, _, i + 1, d, .cons _ t, e => by
    obtain ⟨v, h1, h2⟩ := RepL.get (i := i) (d := d) t (by simpa using e)
    exact ⟨v, by simpa using h1, h2⟩
theorem RepL.get' : ∀ {vs : List V} {ds : List D} {i : Nat} {v : V}, RepL K m H vs ds → vs[i]? = some v → ∃ d, ds[i]? = some d ∧ Rep K m H v d
  | _, _, _, _, .nil, e => by simp at e
  | _, _, 0, _, .cons r _, e => by simp at e; subst e; exact ⟨_, rfl, r⟩
  | _, _, i + 1, d, .cons _ t, e => by
    obtain ⟨v, h1, h2⟩ := RepL.get' (i := i) (v := d) t (by simpa using e)
    exact ⟨v, by simpa using h1, h2⟩
theorem RepL.app : ∀ {vs ws : List V} {ds es : List D}, RepL K m H vs ds → RepL K m H ws es → RepL K m H (vs ++ ws) (ds ++ es)
  | _, _, _, _, .nil, s => s
  | _, _, _, _, .cons r t, s => .cons r (RepL.app t s)
theorem RepL.take : ∀ {vs : List V} {ds : List D} (n : Nat), RepL K m H vs ds → RepL K m H (vs.take n) (ds.take n)
  | _, _, 0, _ => .nil
  | _, _, _ + 1, .nil => .nil
  | _, _, n + 1, .cons r t => .cons r (RepL.take n t)
theorem RepL.drop : ∀ {vs : List V} {ds : List D} (n : Nat), RepL K m H vs ds → RepL K m H (vs.drop n) (ds.drop n)
  | _, _, 0, r => r
  | _, _, _ + 1, .nil => .nil
  | _, _, n + 1, .cons _ t => RepL.drop n t
theorem RepL.set {v : V} {d : D} (r : Rep K m H v d) : ∀ {vs : List V} {ds : List D} (n : Nat), RepL K m H vs ds → RepL K m H (vs.set n v) (ds.set n d)
  | _, _, _, .nil => .nil
  | _, _, 0, .cons _ t => .cons r t
  | _, _, n + 1, .cons q t => .cons q (RepL.set r n t)
theorem RepL.reverse : ∀ {vs : List V} {ds : List D}, RepL K m H vs ds → RepL K m H vs.reverse ds.reverse
  | _, _, .nil => .nil
  | _, _, .cons r t => by rw [List.reverse_cons, List.reverse_cons]; exact (RepL.reverse t).app (.cons r .nil)
theorem RepL.eraseIdx : ∀ {vs : List V} {ds : List D} (n : Nat), RepL K m H vs ds → RepL K m H (vs.eraseIdx n) (ds.eraseIdx n)
  | _, _, _, .nil => .nil
  | _, _, 0, .cons _ t => t
  | _, _, n + 1, .cons r t => .cons r (RepL.eraseIdx n t)
theorem RepL.rep {v : V} {d : D} (r : Rep K m H v d) : ∀ n : Nat, RepL K m H (List.replicate n v) (List.replicate n d)
  | 0 => .nil
  | n + 1 => .cons r (RepL.rep r n)

theorem Rep.int_inv {v : V} {i : Int} (r : Rep K m H v (.int i)) : v = .int i := by cases r; rfl
theorem Rep.bl_inv {v : V} {b : Bool} (r : Rep K m H v (.bl b)) : v = .bl b := by cases r; rfl
theorem Rep.str_inv {v : V} {x : Str} (r : Rep K m H v (.str x)) : v = .str x := by cases r; rfl
theorem Rep.non_inv {v : V} (r : Rep K m H v .non) : v = .non := by cases r; rfl
theorem Rep.tup_inv {v : V} {ds : List D} (r : Rep K m H v (.tup ds)) : ∃ a vs, v = .ref a ∧ TupS K H a vs ∧ RepL K m H vs ds := by cases r with | tup h r => exact ⟨_, _, rfl, h, r⟩
theorem Rep.scl_inv {v : V} {ds : List D} (r : Rep K m H v (.scl ds)) : ∃ a vs, v = .ref a ∧ SclS K H a vs ∧ RepL K m H vs ds := by cases r with | scl h r => exact ⟨_, _, rfl, h, r⟩
theorem Rep.ref_inv {v : V} {n : Nat} (r : Rep K m H v (.ref n)) : ∃ a, v = .ref a ∧ m[n]? = some a := by cases r with | ref h => exact ⟨_, rfl, h⟩
end

/-! ### the heap -/
def RepF (K : PySem.W.Frag) (m : List Addr) (H : Hp) : List (Str × V) → List (Str × D) → Prop := Paired fun p q => p.1 = q.1 ∧ Rep K m H p.2 q.2
def RepK (K : PySem.W.Frag) (m : List Addr) (H : Hp) : List (Key × V) → List (Key × D) → Prop := Paired fun p q => p.1 = q.1 ∧ Rep K m H p.2 q.2
def ObjR (K : PySem.W.Frag) (mg : Str → Option Value) (m : List Addr) (H : Hp) (a : Addr) : O → Prop
  | .lst ds => ∃ vs, H a = some (.lst vs) ∧ RepL K m H vs ds
  | .scr ds => ∃ vs, Rd H a (.lst vs) ∧ RepL K m H vs ds
  | .ins c fs => ∃ C dx fv, mg c = some (.ref C) ∧ H a = some (.ins C dx fv) ∧ RepF K m H fv fs
  | .dk kvs => ∃ kv, H a = some (.dK kv) ∧ RepK K m H kv kvs
structure R (K : PySem.W.Frag) (mg : Str → Option Value) (m : List Addr) (H : Hp) (h : Hm) : Prop where
  len : m.length = h.length
  nd : m.Nodup
  ob : ∀ (n : Nat) (a : Addr) (o : O), m[n]? = some a → h[n]? = some o → ObjR K mg m H a o
def RS (K : PySem.W.Frag) (m : List Addr) (H : Hp) (σ : L2.St) (s : DS) : Prop := σ.length = s.length ∧ ∀ (i : Nat) (d : D), s[i]? = some (some d) → ∃ v, σ[i]? = some (some v) ∧ Rep K m H v d
section
variable {K : PySem.W.Frag} {mg : Str → Option Value} {m m' : List Addr} {H H' : Hp} {h h' : Hm} {a p : Addr} {n : Nat} {o : O} {u : HO} {s : DS} {σ : L2.St}
theorem RepF.grow (g : Grow m H m' H') {x : List (Str × V)} {y : List (Str × D)} (r : RepF K m H x y) : RepF K m' H' x y := Paired.mapP r fun _ _ z => ⟨z.1, z.2.grow g⟩
theorem RepK.grow (g : Grow m H m' H') {x : List (Key × V)} {y : List (Key × D)} (r : RepK K m H x y) : RepK K m' H' x y := Paired.mapP r fun _ _ z => ⟨z.1, z.2.grow g⟩
theorem ObjR.grow (g : Grow m H m' H') (e : H' a = H a) : ObjR K mg m H a o → ObjR K mg m' H' a o := by
  cases o with
  | lst ds => rintro ⟨vs, h1, h2⟩; exact ⟨vs, by rw [e]; exact h1, h2.grow g⟩
  | scr ds => rintro ⟨vs, h1, h2⟩; exact ⟨vs, by unfold Rd; rw [e]; exact h1, h2.grow g⟩
  | ins c fs => rintro ⟨C, dx, fv, h0, h1, h2⟩; exact ⟨C, dx, fv, h0, by rw [e]; exact h1, h2.grow g⟩
  | dk kvs => rintro ⟨kv, h1, h2⟩; exact ⟨kv, by rw [e]; exact h1, h2.grow g⟩
theorem ObjR.there (x : ObjR K mg m H a o) : H a ≠ none := by
  cases o with
  | lst ds => obtain ⟨vs, h1, h2⟩ := x; rw [h1]; exact fun z => by cases z
  | scr ds =>
    obtain ⟨vs, h1 | ⟨_, h1⟩, h2⟩ := x
    · rw [h1]; exact fun z => by cases z
    · rw [h1]; exact fun z => by cases z
  | ins c fs => obtain ⟨C, dx, fv, h0, h1, h2⟩ := x; rw [h1]; exact fun z => by cases z
  | dk kvs => obtain ⟨kv, h1, h2⟩ := x; rw [h1]; exact fun z => by cases z
/-- of what may be changed -/
def O.isMut : O → Bool
  | .scr _ => false
  | _ => true
theorem ObjR.nofrz (x : ObjR K mg m H a o) (hm : o.isMut = true) {ob : Obj} {u : HO} : H a ≠ some (.frz ob u) := by
  cases o with
  | lst ds => obtain ⟨vs, h1, h2⟩ := x; rw [h1]; exact fun z => by cases z
  | scr ds => cases hm
  | ins c fs => obtain ⟨C, dx, fv, h0, h1, h2⟩ := x; rw [h1]; exact fun z => by cases z
  | dk kvs => obtain ⟨kv, h1, h2⟩ := x; rw [h1]; exact fun z => by cases z
theorem R.at (r : R K mg m H h) (e : h[n]? = some o) : ∃ a, m[n]? = some a ∧ ObjR K mg m H a o := by
  have hl := (List.getElem?_eq_some_iff.mp e).1
  have hm : n < m.length := by rw [r.len]; exact hl
  exact ⟨m[n], List.getElem?_eq_getElem hm, r.ob n _ o (List.getElem?_eq_getElem hm) e⟩
theorem R.at' (r : R K mg m H h) (e : m[n]? = some a) : ∃ o, h[n]? = some o ∧ ObjR K mg m H a o := by
  have hl := (List.getElem?_eq_some_iff.mp e).1
  have hm : n < h.length := by rw [← r.len]; exact hl
  exact ⟨h[n], List.getElem?_eq_getElem hm, r.ob n _ _ e (List.getElem?_eq_getElem hm)⟩
theorem R.there (r : R K mg m H h) (e : m[n]? = some a) : H a ≠ none := by
  obtain ⟨o, _, x⟩ := r.at' e
  exact x.there
theorem Grow.new (hp : H p = none) : Grow m H m (upd H p u) := ⟨fun _ _ h => h, fun a o u h => by
  rw [upd_ne (ne_of_none h hp)]
  exact h⟩
theorem Grow.more (t : List Addr) : Grow m H (m ++ t) H := ⟨fun n a e => by rw [List.getElem?_append_left (List.getElem?_eq_some_iff.mp e).1]; exact e, fun _ _ _ h => h⟩
theorem Grow.newr (hp : H p = none) : Grow m H (m ++ [p]) (upd H p u) := (Grow.new hp).trans (Grow.more _)
/-- a new thing that is no tuple -/
theorem R.new (r : R K mg m H h) (hp : H p = none) (x : ObjR K mg (m ++ [p]) (upd H p u) p o) : R K mg (m ++ [p]) (upd H p u) (h ++ [o]) := by
  have np : p ∉ m := fun z => by
    obtain ⟨n, hn, e⟩ := List.mem_iff_getElem.mp z
    exact r.there (n := n) (a := p) (by rw [List.getElem?_eq_getElem hn, e]) hp
  refine ⟨by simp [r.len], ?_, fun n a o' e1 e2 => ?_⟩
  · rw [List.nodup_append]
    refine ⟨r.nd, by simp, fun a ha b hb => ?_⟩
    have : b = p := by simpa using hb
    subst this
    rintro rfl
    exact np ha
  · by_cases hn : n < m.length
    · rw [List.getElem?_append_left hn] at e1
      rw [List.getElem?_append_left (by rw [← r.len]; exact hn)] at e2
      have ne : a ≠ p := by
        rintro rfl
        exact r.there e1 hp
      exact (r.ob n a o' e1 e2).grow (Grow.newr hp) (upd_ne ne)
    · have hn' : ¬ n < h.length := by rw [← r.len]; exact hn
      rw [List.getElem?_append_right (by omega)] at e1 e2
      have e : n - m.length = 0 := by
        have := (List.getElem?_eq_some_iff.mp e1).1
        simp at this
        omega
      rw [e] at e1
      rw [← r.len, e] at e2
      simp at e1 e2
      subst e1 e2
      exact x
theorem R.newAt (r : R K mg m H h) : (m ++ [p])[h.length]? = some p := by
  rw [← r.len, List.getElem?_append_right (Nat.le_refl _)]
  simp
/-- a new tuple -/
theorem R.tup (r : R K mg m H h) (hp : H p = none) : R K mg m (upd H p u) h :=
  ⟨r.len, r.nd, fun n a o e1 e2 => by
    have ne : a ≠ p := by
      rintro rfl
      exact r.there e1 hp
    exact (r.ob n a o e1 e2).grow (Grow.new hp) (upd_ne ne)⟩
theorem Grow.set {o' : O} (x : ObjR K mg m H a o') (hm : o'.isMut = true) : Grow m H m (upd H a u) := ⟨fun _ _ h => h, fun b ob u h => by
  have ne : b ≠ a := by
    rintro rfl
    exact x.nofrz hm h
  rw [upd_ne ne]
  exact h⟩
/-- a thing is changed -/
theorem R.set {o' : O} (r : R K mg m H h) (e : m[n]? = some a) (e' : h[n]? = some o') (hm : o'.isMut = true) (x : ObjR K mg m (upd H a u) a o) : R K mg m (upd H a u) (h.set n o) := by
  have xo := r.ob n a o' e e'
  have hl := (List.getElem?_eq_some_iff.mp e').1
  refine ⟨by simp [r.len], r.nd, fun k b ob e1 e2 => ?_⟩
  by_cases hk : k = n
  · subst hk
    rw [e] at e1
    cases e1
    rw [List.getElem?_set_self hl] at e2
    cases e2
    exact x
  · rw [List.getElem?_set_ne (fun z => hk z.symm)] at e2
    have ne : b ≠ a := by
      rintro rfl
      obtain ⟨h1, e1'⟩ := List.getElem?_eq_some_iff.mp e1
      obtain ⟨h2, e2'⟩ := List.getElem?_eq_some_iff.mp e
      exact hk ((List.getElem_inj r.nd).mp (e1'.trans e2'.symm))
    exact (r.ob k b ob e1 e2).grow (Grow.set xo hm) (upd_ne ne)
theorem RS.grow (g : Grow m H m' H') (x : RS K m H σ s) : RS K m' H' σ s := ⟨x.1, fun i d e => by
  obtain ⟨v, h1, h2⟩ := x.2 i d e
  exact ⟨v, h1, h2.grow g⟩⟩
theorem RS.set {v : V} {d : D} (x : RS K m H σ s) (i : Nat) (r : Rep K m H v d) : RS K m H (σ.set i (some v)) (s.set i (some d)) := ⟨by simp [x.1], fun j e hj => by
  by_cases hi : j = i
  · subst hi
    have hl : j < s.length := by
      have := (List.getElem?_eq_some_iff.mp hj).1
      simpa using this
    rw [List.getElem?_set_self hl] at hj
    cases hj
    exact ⟨v, by rw [List.getElem?_set_self (by rw [x.1]; exact hl)], r⟩
  · rw [List.getElem?_set_ne (fun z => hi z.symm)] at hj
    obtain ⟨w, h1, h2⟩ := x.2 j e hj
    exact ⟨w, by rw [List.getElem?_set_ne (fun z => hi z.symm)]; exact h1, h2⟩⟩
theorem RS.clr (x : RS K m H σ s) (i : Nat) : RS K m H (σ.set i none) (s.set i none) := ⟨by simp [x.1], fun j e hj => by
  by_cases hi : j = i
  · subst hi
    have hl : j < s.length := by
      have := (List.getElem?_eq_some_iff.mp hj).1
      simpa using this
    rw [List.getElem?_set_self hl] at hj
    cases hj
  · rw [List.getElem?_set_ne (fun z => hi z.symm)] at hj
    obtain ⟨w, h1, h2⟩ := x.2 j e hj
    exact ⟨w, by rw [List.getElem?_set_ne (fun z => hi z.symm)]; exact h1, h2⟩⟩
theorem RS.start {vs : List V} {ds : List D} (N : List Str) (r : RepL K m H vs ds) : RS K m H (start N vs) (ds.map some ++ List.replicate (N.length - ds.length) none) := by
  unfold L2.start
  refine ⟨by simp [r.length], fun i d e => ?_⟩
  by_cases hi : i < ds.length
  · rw [List.getElem?_append_left (by simpa using hi), List.getElem?_map] at e
    cases q : ds[i]? with
    | none => rw [q] at e; cases e
    | some d' =>
      rw [q] at e
      cases e
      obtain ⟨v, h1, h2⟩ := r.get q
      exact ⟨v, by rw [List.getElem?_append_left (by simpa [r.length] using hi), List.getElem?_map, h1]; rfl, h2⟩
  · rw [List.getElem?_append_right (by simpa using hi), List.getElem?_replicate] at e
    split at e <;> cases e
end

/-! ### what is wanted behind a result -/
def ExcAt (K : PySem.W.Frag) (mg : Str → Option Value) (m : List Addr) (H : Hp) (cls : Value) (dx : Option Addr) (c : Str) (fs : List (Str × D)) : Prop :=
  ∃ C, mg c = some (.ref C) ∧ cls = .ref C ∧ (fs ≠ [] → ∃ a fv, dx = some a ∧ H a = some (.xd fv) ∧ RepF K m H fv fs)
section
variable (K : PySem.W.Frag) (mg : Str → Option Value)
def PostE (W : XK) (m : List Addr) (H : Hp) (r : RD) (Q : VK) : Prop := match r with
  | .ok d h' => ∀ m' H' v, Grow m H m' H' → R K mg m' H' h' → Rep K m' H' v d → Q v H'
  | .exc c fs h' => ∀ m' H' cls dx, Grow m H m' H' → R K mg m' H' h' → ExcAt K mg m' H' cls dx c fs → W cls dx H'
  | .bad => False
def PostA (W : XK) (m : List Addr) (H : Hp) (r : RA) (Q : List V → Hp → Prop) : Prop := match r with
  | .ok ds h' => ∀ m' H' vs, Grow m H m' H' → R K mg m' H' h' → RepL K m' H' vs ds → Q vs H'
  | .exc c fs h' => ∀ m' H' cls dx, Grow m H m' H' → R K mg m' H' h' → ExcAt K mg m' H' cls dx c fs → W cls dx H'
  | .bad => False
def PostT (W : XK) (m : List Addr) (H : Hp) (r : RD) (Q : Bool → Hp → Prop) : Prop := match r with
  | .ok (.bl b) h' => ∀ m' H', Grow m H m' H' → R K mg m' H' h' → Q b H'
  | .ok _ _ => False
  | .exc c fs h' => ∀ m' H' cls dx, Grow m H m' H' → R K mg m' H' h' → ExcAt K mg m' H' cls dx c fs → W cls dx H'
  | .bad => False
def PostS (W : WX) (m : List Addr) (H : Hp) (r : RT) (E : Ends) : Prop := match r with
  | .nx s' h' => ∀ m' H' σ', Grow m H m' H' → R K mg m' H' h' → RS K m' H' σ' s' → E.nx σ' H'
  | .bk s' h' => ∀ m' H' σ', Grow m H m' H' → R K mg m' H' h' → RS K m' H' σ' s' → E.bk σ' H'
  | .ct s' h' => ∀ m' H' σ', Grow m H m' H' → R K mg m' H' h' → RS K m' H' σ' s' → E.ct σ' H'
  | .rt d h' => ∀ m' H' v, Grow m H m' H' → R K mg m' H' h' → Rep K m' H' v d → E.rt v H'
  | .exc c fs s' h' => ∀ m' H' σ' cls dx, Grow m H m' H' → R K mg m' H' h' → RS K m' H' σ' s' → ExcAt K mg m' H' cls dx c fs → W cls dx σ' H'
  | .bad => False
def tS (W : WX) (f : FE) : TE := fun σ H Q => ∃ m s h, R K mg m H h ∧ RS K m H σ s ∧ PostE K mg (fun c d H' => W c d σ H') m H (f s h) Q
def tSA (W : WX) (f : FA) : TA := fun σ H Q => ∃ m s h, R K mg m H h ∧ RS K m H σ s ∧ PostA K mg (fun c d H' => W c d σ H') m H (f s h) Q
def tST (W : WX) (f : FE) : TT := fun σ H Q => ∃ m s h, R K mg m H h ∧ RS K m H σ s ∧ PostT K mg (fun c d H' => W c d σ H') m H (f s h) Q
def tSS (W : WX) (f : FS) : TS := fun E σ H => ∃ m s h, R K mg m H h ∧ RS K m H σ s ∧ PostS K mg W m H (f s h) E
end
def SE (X : Cx) (W : WX) (e : Expr) (f : FE) : Prop := PE X e (tS X.K X.mg W f)
def SA (X : Cx) (W : WX) (es : List Expr) (f : FA) : Prop := PA X es (tSA X.K X.mg W f)
def ST (X : Cx) (W : WX) (e : Expr) (f : FE) : Prop := PT X e (tST X.K X.mg W f)
def SW (X : Cx) (W : WX) (e : Expr) (f : FE) : Prop := PW X e (tST X.K X.mg W f)
def SS (X : Cx) (W : WX) (st : Stmt) (f : FS) : Prop := PS X st (tSS X.K X.mg W f)
def SSs (X : Cx) (W : WX) (st : List Stmt) (f : FS) : Prop := PSs X st (tSS X.K X.mg W f)

theorem PE.imp {X : Cx} {e : Expr} {t t' : TE} (h : PE X e t) (k : ∀ σ H Q, t' σ H Q → t σ H Q) : PE X e t' := ⟨fun pins s σ H Q I q => h.run pins s σ H Q I (k _ _ _ q)⟩
theorem PA.imp {X : Cx} {e : List Expr} {t t' : TA} (h : PA X e t) (k : ∀ σ H Q, t' σ H Q → t σ H Q) : PA X e t' := ⟨fun pos pins s σ H Q I q => h.run pos pins s σ H Q I (k _ _ _ q)⟩
theorem PT.imp {X : Cx} {e : Expr} {t t' : TT} (h : PT X e t) (k : ∀ σ H Q, t' σ H Q → t σ H Q) : PT X e t' := ⟨fun pins s σ H Q I q => h.run pins s σ H Q I (k _ _ _ q)⟩
theorem PW.imp {X : Cx} {e : Expr} {t t' : TT} (h : PW X e t) (k : ∀ σ H Q, t' σ H Q → t σ H Q) : PW X e t' := ⟨fun wh pins s σ H Q I q => h.run wh pins s σ H Q I (k _ _ _ q)⟩
theorem PS.imp {X : Cx} {e : Stmt} {t t' : TS} (h : PS X e t) (k : ∀ D σ H, t' D σ H → t D σ H) : PS X e t' := ⟨fun pins s σ H D I q => h.run pins s σ H D I (k _ _ _ q)⟩
theorem PSs.imp {X : Cx} {e : List Stmt} {t t' : TS} (h : PSs X e t) (k : ∀ D σ H, t' D σ H → t D σ H) : PSs X e t' := ⟨fun pins s σ H D I q => h.run pins s σ H D I (k _ _ _ q)⟩

section
variable {K : PySem.W.Frag} {mg : Str → Option Value} {W : XK} {WW : WX} {m m1 : List Addr} {H H1 : Hp} {r : RD}
theorem PostE.grow {Q : VK} (p : PostE K mg W m H r Q) (g : Grow m H m1 H1) : PostE K mg W m1 H1 r Q := by
  cases r with
  | ok d h => exact fun m' H' v g' => p m' H' v (g.trans g')
  | exc c fs h => exact fun m' H' cls dx g' => p m' H' cls dx (g.trans g')
  | bad => exact p
theorem PostT.grow {Q : Bool → Hp → Prop} (p : PostT K mg W m H r Q) (g : Grow m H m1 H1) : PostT K mg W m1 H1 r Q := by
  cases r with
  | ok d h => cases d <;> first | exact p | exact fun m' H' g' => p m' H' (g.trans g')
  | exc c fs h => exact fun m' H' cls dx g' => p m' H' cls dx (g.trans g')
  | bad => exact p
theorem PostA.grow {r : RA} {Q : List V → Hp → Prop} (p : PostA K mg W m H r Q) (g : Grow m H m1 H1) : PostA K mg W m1 H1 r Q := by
  cases r with
  | ok d h => exact fun m' H' v g' => p m' H' v (g.trans g')
  | exc c fs h => exact fun m' H' cls dx g' => p m' H' cls dx (g.trans g')
  | bad => exact p
theorem PostS.grow {r : RT} {E : Ends} (p : PostS K mg WW m H r E) (g : Grow m H m1 H1) : PostS K mg WW m1 H1 r E := by
  cases r with
  | nx s h => exact fun m' H' σ' g' => p m' H' σ' (g.trans g')
  | bk s h => exact fun m' H' σ' g' => p m' H' σ' (g.trans g')
  | ct s h => exact fun m' H' σ' g' => p m' H' σ' (g.trans g')
  | rt d h => exact fun m' H' v g' => p m' H' v (g.trans g')
  | exc c fs s h => exact fun m' H' σ' cls dx g' => p m' H' σ' cls dx (g.trans g')
  | bad => exact p
theorem PostE.mono {Q Q' : VK} (p : PostE K mg W m H r Q) (k : ∀ v H', Q v H' → Q' v H') : PostE K mg W m H r Q' := by
  cases r with
  | ok d h => exact fun m' H' v g' r' rep => k _ _ (p m' H' v g' r' rep)
  | exc c fs h => exact p
  | bad => exact p
theorem PostA.mono {r : RA} {Q Q' : List V → Hp → Prop} (p : PostA K mg W m H r Q) (k : ∀ v H', Q v H' → Q' v H') : PostA K mg W m H r Q' := by
  cases r with
  | ok d h => exact fun m' H' v g' r' rep => k _ _ (p m' H' v g' r' rep)
  | exc c fs h => exact p
  | bad => exact p
/-- what a value of d in the heap h, grown out of (m, H), is wanted for -/
def Got (K : PySem.W.Frag) (mg : Str → Option Value) (m : List Addr) (H : Hp) (P : List Addr → Hp → D → Hm → Prop) : VK := fun v H' => ∃ m' d h', Grow m H m' H' ∧ R K mg m' H' h' ∧ Rep K m' H' v d ∧ P m' H' d h'
theorem PostE.bind {k : D → Hm → RD} {Q : VK} (p : PostE K mg W m H (r.bind k) Q) : PostE K mg W m H r (Got K mg m H fun m' H' d h' => PostE K mg W m' H' (k d h') Q) := by
  cases r with
  | ok d h => exact fun m' H' v g' r' rep => ⟨m', d, h, g', r', rep, PostE.grow p g'⟩
  | exc c fs h => exact p
  | bad => exact p
end
end Sh

set_option Elab.async false
set_option linter.all false
set_option maxRecDepth 100000
set_option maxHeartbeats 4000000
namespace Sh
open PySem L2 PyProof.Rows
section
variable {K : PySem.W.Frag} {mg : Str → Option Value} {W : XK} {WW : WX} {m m1 : List Addr} {H H1 : Hp} {r : RD}
/-- a value as it is -/
theorem PostE.val {Q : VK} {d : D} {h : Hm} {v : V} (p : PostE K mg W m H (.ok d h) Q) (r : R K mg m H h) (x : Rep K m H v d) : Q v H := p m H v (Grow.refl _ _) r x
/-- a new tuple -/
theorem PostE.tup {Q : VK} {ds : List D} {h : Hm} {vs : List V} (p : PostE K mg W m H (.ok (.tup ds) h) Q) (r : R K mg m H h) (x : RepL K m H vs ds) : ∀ q o, H q = none → o.dict = none → Q (.ref q) (upd H q (.frz o (.tup vs))) := fun q o hq ho =>
  p m _ _ (Grow.new hq) (r.tup hq) (.tup (.inl ⟨o, upd_same, ho⟩) (x.grow (Grow.new hq)))
/-- a new list -/
theorem PostE.lst {Q : VK} {ds : List D} {h : Hm} {vs : List V} (p : PostE K mg W m H (.ok (.ref h.length) (h ++ [.lst ds])) Q) (r : R K mg m H h) (x : RepL K m H vs ds) : ∀ q, H q = none → Q (.ref q) (upd H q (.lst vs)) := fun q hq =>
  p _ _ _ (Grow.newr hq) (r.new hq ⟨vs, upd_same, x.grow (Grow.newr hq)⟩) (.ref r.newAt)
theorem PostT.toE {Q : Bool → Hp → Prop} (p : PostT K mg W m H r Q) : PostE K mg W m H r (fun v H' => ∃ k, v = .bl k ∧ Q k H') := by
  cases r with
  | ok d h =>
    cases d with
    | bl b => exact fun m' H' v g r' rep => ⟨b, rep.bl_inv, p m' H' g r'⟩
    | _ => exact False.elim p
  | exc c fs h => exact p
  | bad => exact p
theorem PostT.bind {k : D → Hm → RD} {Q : Bool → Hp → Prop} (hk : ∀ d h, (∀ b, d ≠ .bl b) → k d h = .bad) (p : PostT K mg W m H (r.bind k) Q) :
    PostT K mg W m H r (fun b H' => ∃ m' h', Grow m H m' H' ∧ R K mg m' H' h' ∧ PostT K mg W m' H' (k (.bl b) h') Q) := by
  cases r with
  | ok d h =>
    obtain ⟨b, rfl⟩ | hn : (∃ b, d = .bl b) ∨ ∀ b, d ≠ .bl b := by cases d <;> simp
    · exact fun m' H' g r' => ⟨m', h, g, r', PostT.grow p g⟩
    · have e := hk d h hn
      have p' : PostT K mg W m H (k d h) Q := p
      rw [e] at p'
      exact False.elim p'
  | exc c fs h => exact p
  | bad => exact p
theorem PostT.bindE {k : D → Hm → RD} {Q : Bool → Hp → Prop} (p : PostT K mg W m H (r.bind k) Q) : PostE K mg W m H r (Got K mg m H fun m' H' d h' => PostT K mg W m' H' (k d h') Q) := by
  cases r with
  | ok d h => exact fun m' H' v g' r' rep => ⟨m', d, h, g', r', rep, PostT.grow p g'⟩
  | exc c fs h => exact p
  | bad => exact p
end

/-! ### names, constants -/
def eVar (i : Nat) : FE := fun s h => match s[i]? with
  | some (some d) => .ok d h
  | _ => .bad
def eC (d : D) : FE := fun _ h => .ok d h
section
variable {X : Cx} {W : WX} {e a b c : Expr} {f fa fb fc : FE} {pos : Pos}
theorem se_var (i : Nat) {x : Str} (hN : X.N[i]? = some x := by rfl) (hv : Vis X.env.scope x := by first | exact Or.inl rfl | exact Or.inr (Or.inl rfl) | exact Or.inr (Or.inr rfl)) (hd : (x == ("__debug__" : Str)) = false := by decide)
    (hcd : (x == ("__classdict__" : Str)) = false := by decide) : SE X W (.Name x pos) (eVar i) := by
  refine PE.imp (pe_var hN hv hd hcd) fun σ H Q h => ?_
  obtain ⟨m, s, h, r, rs, p⟩ := h
  unfold eVar at p
  split at p
  · rename_i d hd
    obtain ⟨v, h1, h2⟩ := rs.2 i d hd
    exact ⟨v, h1, p.val r h2⟩
  · exact False.elim p
theorem se_int {i j} : SE X W (.Constant (.int i) j pos) (eC (.int i)) := PE.imp pe_int fun σ H Q ⟨m, s, h, r, rs, p⟩ => p.val r (.int i)
theorem se_bl {i j} : SE X W (.Constant (.bool i) j pos) (eC (.bl i)) := PE.imp pe_bl fun σ H Q ⟨m, s, h, r, rs, p⟩ => p.val r (.bl i)
theorem se_non {j} : SE X W (.Constant .none j pos) (eC .non) := PE.imp pe_non fun σ H Q ⟨m, s, h, r, rs, p⟩ => p.val r .non
theorem se_str {x j} : SE X W (.Constant (.str x) j pos) (eC (.str x)) := PE.imp pe_str fun σ H Q ⟨m, s, h, r, rs, p⟩ => p.val r (.str x)
/-- an int of the module's top -/
theorem se_gint {x : Str} {i : Int} {t : Tok} (hg : Gl X x) (hm : X.mg x = some (.int i t)) (hd : (x == ("__debug__" : Str)) = false := by decide) : SE X W (.Name x pos) (eC (.int i)) :=
  PE.imp (pe_glob (v := .int i) hg hm ⟨_, rfl⟩ hd) fun σ H Q ⟨m, s, h, r, rs, p⟩ => p.val r (.int i)

/-! ### two-place operations -/
def eBin (fop : D → D → Hm → RD) (fa fb : FE) : FE := fun s h => (fa s h).bind fun x h1 => (fb s h1).bind fun y h2 => fop x y h2
/-- the operation by values bears the one by data -/
def OpS (X : Cx) (r : R2) (fop : D → D → Hm → RD) : Prop := ∀ (W : XK) (m : List Addr) (H : Hp) (h : Hm) (x y : V) (dx dy : D) (Q : VK),
  R X.K X.mg m H h → Rep X.K m H x dx → Rep X.K m H y dy → PostE X.K X.mg W m H (fop dx dy h) Q → r x y H Q
theorem bin_ok {r : R2} {fop : D → D → Hm → RD} (hop : OpS X r fop) {σ : L2.St} {H : Hp} {Q : VK} (h : tS X.K X.mg W (eBin fop fa fb) σ H Q) : tOp r (tS X.K X.mg W fa) (tS X.K X.mg W fb) σ H Q := by
  obtain ⟨m, s, h, R0, rs, p⟩ := h
  refine ⟨m, s, h, R0, rs, PostE.mono (PostE.bind p) ?_⟩
  rintro x H1 ⟨m1, dx, h1, g1, R1, rx, p1⟩
  refine ⟨m1, s, h1, R1, rs.grow g1, PostE.mono (PostE.bind p1) ?_⟩
  rintro y H2 ⟨m2, dy, h2, g2, R2, ry, p2⟩
  exact hop _ m2 H2 h2 x y dx dy Q R2 (rx.grow g2) ry p2
theorem se_op {op : Operator} {r : R2} {fop : D → D → Hm → RD} (ho : OpR X (binaryOp op) r) (hop : OpS X r fop) (ha : SE X W a fa) (hb : SE X W b fb) : SE X W (.BinOp a op b pos) (eBin fop fa fb) :=
  PE.imp (pe_op ho ha hb) fun σ H Q h => bin_ok hop h
theorem se_cmp {op : CmpOp} {r : R2} {fop : D → D → Hm → RD} (ho : OpR X (compareOp op) r) (hop : OpS X r fop) (ha : SE X W a fa) (hb : SE X W b fb) (hm : behindInMarks op b = false) : SE X W (.Compare a [op] [b] pos) (eBin fop fa fb) :=
  PE.imp (pe_cmpR ho ha hb hm) fun σ H Q h => bin_ok hop h
theorem tST_E {f : FE} {σ : L2.St} {H : Hp} {Q : Bool → Hp → Prop} (h : tST X.K X.mg W f σ H Q) : tS X.K X.mg W f σ H (fun v H' => ∃ k, v = .bl k ∧ Q k H') := by
  obtain ⟨m, s, h, R0, rs, p⟩ := h
  exact ⟨m, s, h, R0, rs, p.toE⟩
theorem st_cmp {op : CmpOp} {r : R2} {fop : D → D → Hm → RD} (ho : OpR X (compareOp op) r) (hop : OpS X r fop) (ha : SE X W a fa) (hb : SE X W b fb) (hm : behindInMarks op b = false) : ST X W (.Compare a [op] [b] pos) (eBin fop fa fb) :=
  PT.imp (pt_cmpR ho ha hb hm) fun σ H Q h => bin_ok hop (tST_E h)
/-- a value that is a truth value, as a test -/
theorem st_val (he : SE X W e f) (hw : ∀ whole, isTrue e X.env whole = (do let v ← whole; standAt e.pos; holding [v] (truthy v)) := by intro _; rfl) : ST X W e f :=
  PT.imp (pt_val he hw) fun σ H Q h => tST_E h
theorem SW.st (h : SW X W e f) : ST X W e f := PW.pt h

def IxS := 1
/-! ### and, or, not, if -/
def eAnd (fa fb : FE) : FE := fun s h => (fa s h).bind fun d h1 => match d with
  | .bl true => fb s h1
  | .bl false => .ok (.bl false) h1
  | _ => .bad
def eOr (fa fb : FE) : FE := fun s h => (fa s h).bind fun d h1 => match d with
  | .bl true => .ok (.bl true) h1
  | .bl false => fb s h1
  | _ => .bad
def eNot (fa : FE) : FE := fun s h => (fa s h).bind fun d h1 => match d with
  | .bl b => .ok (.bl (!b)) h1
  | _ => .bad
def eIf (fc fa fb : FE) : FE := fun s h => (fc s h).bind fun d h1 => match d with
  | .bl true => fa s h1
  | .bl false => fb s h1
  | _ => .bad
variable {rest : List Expr}
theorem sw_and1 (ha : ST X W a fa) : SW X W (.BoolOp .And [a] pos) fa := pw_and1 ha
theorem sw_or1 (ha : ST X W a fa) : SW X W (.BoolOp .Or [a] pos) fa := pw_or1 ha
theorem sw_and (ha : ST X W a fa) (hb : SW X W (.BoolOp .And (b :: rest) pos) fb) : SW X W (.BoolOp .And (a :: b :: rest) pos) (eAnd fa fb) := by
  refine PW.imp (pw_and ha hb) fun σ H Q h => ?_
  obtain ⟨m, s, h, R0, rs, p⟩ := h
  refine ⟨m, s, h, R0, rs, ?_⟩
  have p' := PostT.bind (fun d h hd => by cases d <;> first | rfl | exact absurd rfl (hd _)) p
  generalize fa s h = r at p'
  cases r with
  | ok d h1 =>
    cases d with
    | bl c =>
      intro m' H' g r'
      obtain ⟨m2, h2, g2, r2, p2⟩ := p' m' H' g r'
      cases c with
      | true => exact iteT ⟨m2, s, h2, r2, rs.grow g2, p2⟩
      | false => exact iteF (p2 m2 H' (Grow.refl _ _) r2)
    | _ => exact p'
  | exc c fs h1 => exact p'
  | bad => exact p'
theorem sw_or (ha : ST X W a fa) (hb : SW X W (.BoolOp .Or (b :: rest) pos) fb) : SW X W (.BoolOp .Or (a :: b :: rest) pos) (eOr fa fb) := by
  refine PW.imp (pw_or ha hb) fun σ H Q h => ?_
  obtain ⟨m, s, h, R0, rs, p⟩ := h
  refine ⟨m, s, h, R0, rs, ?_⟩
  have p' := PostT.bind (fun d h hd => by cases d <;> first | rfl | exact absurd rfl (hd _)) p
  generalize fa s h = r at p'
  cases r with
  | ok d h1 =>
    cases d with
    | bl c =>
      intro m' H' g r'
      obtain ⟨m2, h2, g2, r2, p2⟩ := p' m' H' g r'
      cases c with
      | false => exact iteF ⟨m2, s, h2, r2, rs.grow g2, p2⟩
      | true => exact iteT (p2 m2 H' (Grow.refl _ _) r2)
    | _ => exact p'
  | exc c fs h1 => exact p'
  | bad => exact p'
theorem st_not (ha : ST X W a fa) : ST X W (.UnaryOp .Not a pos) (eNot fa) := by
  refine PT.imp (pt_not ha) fun σ H Q h => ?_
  obtain ⟨m, s, h, R0, rs, p⟩ := h
  refine ⟨m, s, h, R0, rs, ?_⟩
  have p' := PostT.bind (fun d h hd => by cases d <;> first | rfl | exact absurd rfl (hd _)) p
  generalize fa s h = r at p'
  cases r with
  | ok d h1 =>
    cases d with
    | bl c =>
      intro m' H' g r'
      obtain ⟨m2, h2, g2, r2, p2⟩ := p' m' H' g r'
      exact p2 m2 H' (Grow.refl _ _) r2
    | _ => exact p'
  | exc c fs h1 => exact p'
  | bad => exact p'
theorem se_one {op} (h : SE X W a fa) : SE X W (.BoolOp op [a] pos) fa := pe_one h
theorem se_and (ha : SE X W a fa) (hb : SE X W (.BoolOp .And (b :: rest) pos) fb) : SE X W (.BoolOp .And (a :: b :: rest) pos) (eAnd fa fb) := by
  refine PE.imp (pe_and ha hb) fun σ H Q h => ?_
  obtain ⟨m, s, h, R0, rs, p⟩ := h
  refine ⟨m, s, h, R0, rs, PostE.mono (PostE.bind p) ?_⟩
  rintro x H1 ⟨m1, dx, h1, g1, R1, rx, p1⟩
  cases dx with
  | bl c =>
    refine ⟨c, rx.bl_inv, ?_⟩
    cases c with
    | true => exact iteT ⟨m1, s, h1, R1, rs.grow g1, p1⟩
    | false => exact iteF (p1.val R1 (.bl false))
  | _ => exact False.elim p1
theorem se_or (ha : SE X W a fa) (hb : SE X W (.BoolOp .Or (b :: rest) pos) fb) : SE X W (.BoolOp .Or (a :: b :: rest) pos) (eOr fa fb) := by
  refine PE.imp (pe_or ha hb) fun σ H Q h => ?_
  obtain ⟨m, s, h, R0, rs, p⟩ := h
  refine ⟨m, s, h, R0, rs, PostE.mono (PostE.bind p) ?_⟩
  rintro x H1 ⟨m1, dx, h1, g1, R1, rx, p1⟩
  cases dx with
  | bl c =>
    refine ⟨c, rx.bl_inv, ?_⟩
    cases c with
    | false => exact iteF ⟨m1, s, h1, R1, rs.grow g1, p1⟩
    | true => exact iteT (p1.val R1 (.bl true))
  | _ => exact False.elim p1
theorem se_not (ha : SE X W a fa) : SE X W (.UnaryOp .Not a pos) (eNot fa) := by
  refine PE.imp (pe_not ha) fun σ H Q h => ?_
  obtain ⟨m, s, h, R0, rs, p⟩ := h
  refine ⟨m, s, h, R0, rs, PostE.mono (PostE.bind p) ?_⟩
  rintro x H1 ⟨m1, dx, h1, g1, R1, rx, p1⟩
  cases dx with
  | bl c => exact ⟨c, rx.bl_inv, p1.val R1 (.bl _)⟩
  | _ => exact False.elim p1
theorem se_if (hc : ST X W c fc) (ha : SE X W a fa) (hb : SE X W b fb) : SE X W (.IfExp c a b pos) (eIf fc fa fb) := by
  refine PE.imp (pe_ifExp hc ha hb) fun σ H Q h => ?_
  obtain ⟨m, s, h, R0, rs, p⟩ := h
  refine ⟨m, s, h, R0, rs, ?_⟩
  unfold eIf at p
  generalize fc s h = r at p
  cases r with
  | ok d h1 =>
    cases d with
    | bl c =>
      intro m' H' g r'
      cases c with
      | true => exact iteT ⟨m', s, h1, r', rs.grow g, PostE.grow p g⟩
      | false => exact iteF ⟨m', s, h1, r', rs.grow g, PostE.grow p g⟩
    | _ => exact p
  | exc c fs h1 => exact p
  | bad => exact p
/-- a op1 b op2 c -/
def eChain (f1 f2 : D → D → Hm → RD) (fa fb fc : FE) : FE := fun s h => (fa s h).bind fun x h1 => (fb s h1).bind fun y h2 => (f1 x y h2).bind fun d h3 => match d with
  | .bl true => (fc s h3).bind fun z h4 => f2 y z h4
  | .bl false => .ok (.bl false) h3
  | _ => .bad
theorem chain_ok {r r' : R2} {f1 f2 : D → D → Hm → RD} (h1 : OpS X r f1) (h2 : OpS X r' f2) {σ : L2.St} {H : Hp} {Q : VK} (h : tS X.K X.mg W (eChain f1 f2 fa fb fc) σ H Q) :
    tChain r r' (tS X.K X.mg W fa) (tS X.K X.mg W fb) (tS X.K X.mg W fc) σ H Q := by
  obtain ⟨m, s, h, R0, rs, p⟩ := h
  refine ⟨m, s, h, R0, rs, PostE.mono (PostE.bind p) ?_⟩
  rintro x H1 ⟨m1, dx, h1', g1, R1, rx, p1⟩
  refine ⟨m1, s, h1', R1, rs.grow g1, PostE.mono (PostE.bind p1) ?_⟩
  rintro y H2 ⟨m2, dy, h2', g2, R2, ry, p2⟩
  refine h1 _ m2 H2 h2' x y dx dy _ R2 (rx.grow g2) ry (PostE.mono (PostE.bind p2) ?_)
  rintro z H3 ⟨m3, dz, h3, g3, R3, rz, p3⟩
  cases dz with
  | bl k =>
    refine ⟨k, rz.bl_inv, ?_⟩
    cases k with
    | true =>
      refine iteT ⟨m3, s, h3, R3, rs.grow (g1.trans (g2.trans g3)), PostE.mono (PostE.bind p3) ?_⟩
      rintro z H4 ⟨m4, dz, h4, g4, R4, rz, p4⟩
      exact h2 _ m4 H4 h4 y z dy dz Q R4 (ry.grow (g3.trans g4)) rz p4
    | false => exact iteF (p3.val R3 (.bl false))
  | _ => exact False.elim p3
theorem se_chain {op op' : CmpOp} {r r' : R2} {f1 f2 : D → D → Hm → RD} (ho : OpR X (compareOp op) r) (ho' : OpR X (compareOp op') r') (h1 : OpS X r f1) (h2 : OpS X r' f2) (ha : SE X W a fa) (hb : SE X W b fb) (hc : SE X W c fc)
    (hm : lastMarks [op, op'] [b, c] = false := by with_unfolding_all rfl) : SE X W (.Compare a [op, op'] [b, c] pos) (eChain f1 f2 fa fb fc) :=
  PE.imp (pe_chain ho ho' ha hb hc hm) fun σ H Q h => chain_ok h1 h2 h
theorem st_chain {op op' : CmpOp} {r r' : R2} {f1 f2 : D → D → Hm → RD} (ho : OpR X (compareOp op) r) (ho' : OpR X (compareOp op') r') (h1 : OpS X r f1) (h2 : OpS X r' f2) (ha : SE X W a fa) (hb : SE X W b fb) (hc : SE X W c fc)
    (hm : lastMarks [op, op'] [b, c] = false := by with_unfolding_all rfl) : ST X W (.Compare a [op, op'] [b, c] pos) (eChain f1 f2 fa fb fc) :=
  PT.imp (pt_chain ho ho' ha hb hc hm) fun σ H Q h => chain_ok h1 h2 (tST_E h)

/-! ### argument lists, displays -/
def evalL : List FE → FA
  | [], _, h => .ok [] h
  | f :: fs, s, h => match f s h with
    | .ok d h1 => (match evalL fs s h1 with
      | .ok ds h2 => .ok (d :: ds) h2
      | r => r)
    | .exc c x h1 => .exc c x h1
    | .bad => .bad
variable {es : List Expr} {fs : List FE}
theorem evalL_length : ∀ {fs : List FE} {s : DS} {h h' : Hm} {ds : List D}, evalL fs s h = .ok ds h' → ds.length = fs.length
  | [], s, h, h', ds, e => by
    unfold evalL at e
    cases e
    rfl
  | f :: fs, s, h, h', ds, e => by
    unfold evalL at e
    split at e
    · split at e
      · rename_i q
        cases e
        simp [evalL_length q]
      · rename_i hne
        exact absurd e (hne _ _)
    · cases e
    · cases e
theorem sa_nil : SA X W [] (evalL []) := PA.imp pa_nil fun σ H Q ⟨m, s, h, r, rs, p⟩ => p m H [] (Grow.refl _ _) r .nil
theorem sa_cons (ha : SE X W e f) (hr : SA X W es (evalL fs)) (hs : starEach (e :: es) X.env = (false, eval e X.env) :: starEach es X.env := by rfl) : SA X W (e :: es) (evalL (f :: fs)) := by
  refine PA.imp (pa_cons ha hr hs) fun σ H Q h => ?_
  obtain ⟨m, s, h, R0, rs, p⟩ := h
  refine ⟨m, s, h, R0, rs, ?_⟩
  unfold evalL at p
  generalize f s h = r at p
  cases r with
  | ok d h1 =>
    intro m1 H1 v g1 R1 rv
    refine ⟨m1, s, h1, R1, rs.grow g1, ?_⟩
    replace p := PostA.grow p g1
    dsimp only at p
    generalize evalL fs s h1 = r2 at p
    cases r2 with
    | ok ds h2 => exact fun m2 H2 vs g2 R2 rvs => p m2 H2 (v :: vs) g2 R2 (.cons (rv.grow g2) rvs)
    | exc c fs h1 => exact p
    | bad => exact p
  | exc c fs h1 => exact p
  | bad => exact p
def eArgs (g : List D → Hm → RD) (fs : List FE) : FE := fun s h => match evalL fs s h with
  | .ok ds h1 => g ds h1
  | .exc c x h1 => .exc c x h1
  | .bad => .bad
/-- what follows an argument list -/
theorem args_ok {g : List D → Hm → RD} {r : List V → Hp → VK → Prop} {σ : L2.St} {H : Hp} {Q : VK}
    (k : ∀ m1 H1 vs ds h1 s h, R X.K X.mg m1 H1 h1 → RepL X.K m1 H1 vs ds → evalL fs s h = .ok ds h1 → PostE X.K X.mg (fun c d H' => W c d σ H') m1 H1 (g ds h1) Q → r vs H1 Q)
    (h : tS X.K X.mg W (eArgs g fs) σ H Q) : tSA X.K X.mg W (evalL fs) σ H fun vs H1 => r vs H1 Q := by
  obtain ⟨m, s, h, R0, rs, p⟩ := h
  refine ⟨m, s, h, R0, rs, ?_⟩
  unfold eArgs at p
  generalize q : evalL fs s h = r at p
  cases r with
  | ok ds h1 => exact fun m1 H1 vs g1 R1 rvs => k m1 H1 vs ds h1 s h R1 rvs q (PostE.grow p g1)
  | exc c fs h1 => exact p
  | bad => exact p
theorem args_ok' {g : List D → Hm → RD} {r : List V → Hp → VK → Prop} {σ : L2.St} {H : Hp} {Q : VK} {m : List Addr} {s : DS} {h : Hm} (R0 : R X.K X.mg m H h) (rs : RS X.K m H σ s) (p : PostE X.K X.mg (fun c d H' => W c d σ H') m H (eArgs g fs s h) Q)
    (k : ∀ m1 H1 vs ds h1, Grow m H m1 H1 → R X.K X.mg m1 H1 h1 → RepL X.K m1 H1 vs ds → evalL fs s h = .ok ds h1 → PostE X.K X.mg (fun c d H' => W c d σ H') m1 H1 (g ds h1) Q → r vs H1 Q) : tSA X.K X.mg W (evalL fs) σ H fun vs H1 => r vs H1 Q := by
  refine ⟨m, s, h, R0, rs, ?_⟩
  unfold eArgs at p
  generalize q : evalL fs s h = r at p
  cases r with
  | ok ds h1 => exact fun m1 H1 vs g1 R1 rvs => k m1 H1 vs ds h1 g1 R1 rvs q (PostE.grow p g1)
  | exc c fs h1 => exact p
  | bad => exact p
def eTup (fs : List FE) : FE := eArgs (fun ds h => .ok (.tup ds) h) fs
def eLst (fs : List FE) : FE := eArgs (fun ds h => .ok (.ref h.length) (h ++ [.lst ds])) fs
/-- (a, b, ..): the new tuple's object is known -/
def tTupF (t : TA) : TE := fun σ H Q => t σ H fun xs H1 => xs.length ≤ sizeLine ∧ ∀ p o, H1 p = none → o.dict = none → Q (.ref p) (upd H1 p (.frz o (.tup xs)))
theorem pe_tupF {t : TA} {x1} (h : PA X es t) : PE X (.Tuple es x1 pos) (tTupF t) := by
  refine ⟨fun pins s σ H Q I hq => ?_⟩
  refine wpAny_Tuple_spliced (thn (h.run pos pins s σ H _ I hq) fun us s1 ⟨xs, H1, I1, r, z, q⟩ => ⟨by rw [← r.length]; exact z, ?_⟩)
  have hf : H1 s1.heap.objs.size = none := I1.hok.fresh (Nat.le_refl _)
  refine ⟨.ref s1.heap.objs.size, upd H1 s1.heap.objs.size (.frz { cls := .type "tuple", data := .seq us.toArray } (.tup xs)), I1.laid (t' := s1.toks) (fun b u e => Heap.get?_push_of_some _ e) (Nat.le_refl _) ?_, rfl, q _ { cls := .type "tuple", data := .seq us.toArray } hf rfl⟩
  exact ⟨Heap.get?_push_size _ rfl, z, us, r, ⟨_, Heap.get?_push_size _ rfl, rfl, _, rfl⟩⟩
theorem se_tup {x1} (h : SA X W es (evalL fs)) (hl : decide (fs.length ≤ 1000) = true := by rfl) : SE X W (.Tuple es x1 pos) (eTup fs) := by
  refine PE.imp (pe_tupF h) fun σ H Q h => ?_
  refine args_ok (r := fun xs H1 Q => xs.length ≤ sizeLine ∧ ∀ p o, H1 p = none → o.dict = none → Q (.ref p) (upd H1 p (.frz o (.tup xs)))) (fun m1 H1 vs ds h1 s h0 R1 rvs e p => ⟨?_, PostE.tup p R1 rvs⟩) h
  rw [rvs.length, evalL_length e, sizeLine_eq]
  exact Nat.le_trans (of_decide_eq_true hl) (by decide)
theorem se_lst (h : SA X W es (evalL fs)) (hl : decide (fs.length ≤ 1000) = true := by rfl) : SE X W (.List es pos) (eLst fs) := by
  refine PE.imp (pe_lst h) fun σ H Q h => ?_
  refine args_ok (r := fun xs H1 Q => xs.length ≤ sizeLine ∧ ∀ p, H1 p = none → Q (.ref p) (upd H1 p (.lst xs))) (fun m1 H1 vs ds h1 s h0 R1 rvs e p => ⟨?_, PostE.lst p R1 rvs⟩) h
  rw [rvs.length, evalL_length e, sizeLine_eq]
  exact Nat.le_trans (of_decide_eq_true hl) (by decide)

/-! ### calls -/
/-- a def's promise: what the function F of data gives -/
def spF (K : PySem.W.Frag) (mg : Str → Option Value) (n : Nat) (F : FF) : Sp := fun vs H Q E => vs.length = n ∧ ∃ m ds h, R K mg m H h ∧ RepL K m H vs ds ∧ PostE K mg E m H (F ds h) Q
variable {P : Program} {w : World} {k n : Nat} {fa' : Addr} {fd : FuncData} {ps : List Str} {F : FF} {x : Str} {p : Pos}
/-- the callee keeps what F tells -/
abbrev FnS (X : Cx) (k : Nat) (f : Addr) (fd : FuncData) (ps : List Str) (F : FF) : Prop := FnOk X.prog X.w X.K X.mg X.base (L2.CX X.prog X.w) k f fd ps (spF X.K X.mg ps.length F)
theorem se_call (G : FnS X k fa' fd ps F) (tk : Takes X W) (hr : Room k X.A) (hg : Gl X x) (hm : X.mg x = some (.ref fa')) (hk : PySem.W.keepIn X.K (.ref fa') = true) (hb : Binds X.K fd ps []) (ha : SA X W (e :: es) (evalL fs))
    (hl : decide (fs.length = ps.length) = true := by rfl) (hdb : (x == ("__debug__" : Str)) = false := by decide) (he : starEach (e :: es) X.env = (false, eval e X.env) :: starEach es X.env := by rfl) (hpl : (backTo pos (starEach es X.env)).any (·.1) = false := by rfl) :
    SE X W (.Call (.Name x p) (e :: es) [] pos) (eArgs F fs) := by
  refine PE.imp (pe_callS G hr hg hm hk hb (fun σ => passAt tk σ) ha hdb he hpl) fun σ H Q h => ?_
  exact args_ok (r := fun vs H1 Q => spF X.K X.mg ps.length F vs H1 Q (WE W σ)) (fun m1 H1 vs ds h1 s h0 R1 rvs ee p => ⟨by rw [rvs.length, evalL_length ee]; exact of_decide_eq_true hl, m1, ds, h1, R1, rvs, p⟩) h
/-- a built-in function or type, by values -/
def CallS (X : Cx) (r : List V → Hp → VK → Prop) (g : List D → Hm → RD) : Prop := ∀ (W : XK) (m : List Addr) (H : Hp) (h : Hm) (vs : List V) (ds : List D) (Q : VK), R X.K X.mg m H h → RepL X.K m H vs ds → PostE X.K X.mg W m H (g ds h) Q → r vs H Q
variable {id T : String} {r : List V → Hp → VK → Prop} {g : List D → Hm → RD}
theorem se_callB (hc : CallR X (.builtin id) r) (hs : CallS X r g) (hg : Gl X x) (hm : X.mg x = none) (hv : bootBuiltins x = some (.builtin id)) (ha : SA X W (e :: es) (evalL fs)) (hn : x ≠ "__name__" := by decide) (hdb : (x == ("__debug__" : Str)) = false := by decide)
    (he : starEach (e :: es) X.env = (false, eval e X.env) :: starEach es X.env := by rfl) (hpl : (backTo pos (starEach es X.env)).any (·.1) = false := by rfl) : SE X W (.Call (.Name x p) (e :: es) [] pos) (eArgs g fs) :=
  PE.imp (pe_callB hc hg hm hv ha hn hdb he hpl) fun σ H Q h => args_ok (r := r) (fun m1 H1 vs ds h1 s h0 R1 rvs ee p => hs _ m1 H1 h1 vs ds Q R1 rvs p) h
theorem se_callTy (hc : CallR X (.type T) r) (hs : CallS X r g) (hg : Gl X x) (hm : X.mg x = none) (hv : bootBuiltins x = some (.type T)) (ha : SA X W (e :: es) (evalL fs)) (hn : x ≠ "__name__" := by decide) (hdb : (x == ("__debug__" : Str)) = false := by decide)
    (he : starEach (e :: es) X.env = (false, eval e X.env) :: starEach es X.env := by rfl) (hpl : (backTo pos (starEach es X.env)).any (·.1) = false := by rfl) : SE X W (.Call (.Name x p) (e :: es) [] pos) (eArgs g fs) :=
  PE.imp (pe_callTy hc hg hm hv ha hn hdb he hpl) fun σ H Q h => args_ok (r := r) (fun m1 H1 vs ds h1 s h0 R1 rvs ee p => hs _ m1 H1 h1 vs ds Q R1 rvs p) h
end
end Sh

set_option Elab.async false
set_option linter.all false
set_option maxRecDepth 100000
set_option maxHeartbeats 4000000
namespace Sh
open PySem L2 PyProof.Rows
def big : Nat := 1000000
theorem big_line {n : Nat} (h : n ≤ big) : n ≤ sizeLine := by
  rw [sizeLine_eq]
  unfold big at h
  omega
/-! ### new tuples whose object is known -/
section
variable {X : Cx}
theorem Inv.tupF {pins : List (Addr × Obj)} {σ : L2.St} {H : Hp} {s : Shared} (I : Inv X pins σ H s) {ys : List V} {its : List Value} (r : Vals ys its) (hz : ys.length ≤ sizeLine) (t : Nat) :
    Inv X pins σ (upd H s.heap.objs.size (.frz { cls := .type "tuple", data := .seq its.toArray } (.tup ys))) { s with heap := s.heap.push { cls := .type "tuple", data := .seq its.toArray }, toks := t } :=
  I.laid (t' := t) (o := .frz { cls := .type "tuple", data := .seq its.toArray } (.tup ys)) (fun b ob q => Heap.get?_push_of_some _ q) (Nat.le_refl _) ⟨Heap.get?_push_size _ rfl, hz, its, r, IsTup.new _ _⟩
def rTupF (ys : List V) (H : Hp) (Q : VK) : Prop := ∀ p o, H p = none → o.dict = none → Q (.ref p) (upd H p (.frz o (.tup ys)))
theorem call_tuple_ofF : CallR X (.type "tuple") (fun xs H Q => ∃ p ys, xs = [.ref p] ∧ ((SqL X.K H p ys ∧ rTupF ys H Q) ∨ (SqT X.K H p ys ∧ Q (.ref p) H))) := by
  intro pins s σ H xs us Q I r h
  obtain ⟨p, ys, rfl, h⟩ := h
  obtain ⟨u, rfl, rx⟩ := vals1 r
  cases rx
  rcases h with ⟨hq, q⟩ | ⟨hq, q⟩
  · obtain ⟨its, r', pl, hz⟩ := I.list hq
    have hlen := r'.length
    refine call_tuple_list pl.isList (fun h' kp => ?_) (by simp only [List.size_toArray] <;> omega)
    have I1 : Inv X pins σ H { s with heap := h' } := I.kept (t' := s.toks) kp
    exact ⟨.ref h'.objs.size, _, Inv.tupF I1 r' hz s.toks, rfl, q _ _ (I1.hok.fresh (Nat.le_refl _)) rfl⟩
  · obtain ⟨its, r', pl, hz⟩ := I.tuple hq
    exact call_tuple_same pl ⟨.ref p, H, I, rfl, q⟩
def rCatF (K : PySem.W.Frag) : R2 := fun x y H Q => ∃ a b xs ys, x = .ref a ∧ y = .ref b ∧ SqT K H a xs ∧ SqT K H b ys ∧ xs.length + ys.length ≤ sizeLine ∧
  (xs = [] → Q (.ref b) H) ∧ (xs ≠ [] → ys = [] → Q (.ref a) H) ∧ (xs ≠ [] → ys ≠ [] → rTupF (xs ++ ys) H Q)
theorem op_catF : OpR X (binaryOp .Add) (rCatF X.K) := by
  intro pins s σ H x y v u Q I rx ry h
  obtain ⟨a, b, xs, ys, rfl, rfl, ha, hb, hz, q0, q1, q2⟩ := h
  by_cases hx : xs = []
  · exact op_catA pins s σ H _ _ v u Q I rx ry ⟨a, b, xs, ys, rfl, rfl, ha, hb, hz, q0, q1, fun z => absurd hx z⟩
  · cases rx
    cases ry
    obtain ⟨its, r1, p1, _⟩ := I.tuple ha
    obtain ⟨its2, r2, p2, _⟩ := I.tuple hb
    refine HT.cat_tup p1 p2 (fun z => hx (r1.nil_iff.mp z)) (fun z => ⟨.ref a, H, I, rfl, q1 hx (r2.nil_iff.mp z)⟩) (fun z => ?_) (by rw [← r1.length, ← r2.length]; exact hz)
    exact ⟨.ref s.heap.objs.size, _, Inv.tupF I (r1.append r2) (by rw [List.length_append]; exact hz) s.toks, rfl, q2 hx (fun w => z (r2.nil_iff.mpr w)) _ _ (I.hok.fresh (Nat.le_refl _)) rfl⟩
def rSlF (K : PySem.W.Frag) : V → Option Int → Option Int → Hp → VK → Prop := fun x lo hi H Q => ∃ a xs, x = .ref a ∧ SqT K H a xs ∧
  (HT.sIx xs.length 0 lo = 0 ∧ HT.sIx xs.length xs.length hi = xs.length → Q (.ref a) H) ∧ (¬ (HT.sIx xs.length 0 lo = 0 ∧ HT.sIx xs.length xs.length hi = xs.length) → rTupF (cutV xs lo hi) H Q)
theorem sl_tupF : SlR X (rSlF X.K) := by
  intro pins s σ H x v vl vu lo hi sl Q I rx hs pl pu h
  obtain ⟨a, xs, rfl, hx, q1, q2⟩ := h
  by_cases hw : HT.sIx xs.length 0 lo = 0 ∧ HT.sIx xs.length xs.length hi = xs.length
  · exact sl_tupA pins s σ H _ v vl vu lo hi sl Q I rx hs pl pu ⟨a, xs, rfl, hx, q1, fun z => absurd hw z⟩
  · cases rx
    obtain ⟨its, r, ht, hz⟩ := I.tuple hx
    have hlen : its.toArray.size = xs.length := by rw [List.size_toArray]; exact r.length.symm
    refine ⟨"tuple", _, PyProof.Rows.slot_tuple_getitem.lookup, ht.typeIs, ?_⟩
    refine HT.getItem_tuple_cut ht hs pl pu (by rw [hlen]; exact hw) ?_ (by rw [hlen]; exact hz)
    rw [hlen]
    exact ⟨.ref s.heap.objs.size, _, Inv.tupF I ((r.drop (HT.sIx xs.length 0 lo)).take (HT.sIx xs.length xs.length hi - HT.sIx xs.length 0 lo)) (Nat.le_trans (cutV_length xs lo hi) hz) s.toks, rfl, q2 hw _ _ (I.hok.fresh (Nat.le_refl _)) rfl⟩
/-- a call of a tuple's own method, the tuple's object known -/
def tupV (K : PySem.W.Frag) (x : V) (H : Hp) : Prop := ∃ p xs, x = .ref p ∧ TupS K H p xs
theorem tupV_is {pins : List (Addr × Obj)} {σ : L2.St} {H : Hp} {s : Shared} {x : V} {v : Value} (I : Inv X pins σ H s) (r : RelV x v) (ty : tupV X.K x H) :
    s.TypeIs v "tuple" ∧ ∀ a, v = .ref a → ∃ ob, s.heap.get? a = some ob ∧ ob.dict = none := by
  obtain ⟨p, xs, rfl, h⟩ := ty
  cases r
  obtain ⟨its, rv, pl, hz⟩ := I.tuple h.sqT
  refine ⟨pl.typeIs, fun a e => ?_⟩
  cases e
  rcases h with ⟨o, h1, h2⟩ | ⟨o, its, n, h1, h2, h3, _⟩
  · exact ⟨o, (I.hok _ _ h1).1, h2⟩
  · exact ⟨o, I.kIn _ o h1, h3⟩
def tTM (K : PySem.W.Frag) (r : V → List V → Hp → VK → Prop) (to : TE) (t : TA) : TE := fun σ H Q => to σ H fun x H1 => tupV K x H1 ∧ t σ H1 fun xs H2 => r x xs H2 Q
variable {o e : Expr} {es : List Expr} {to : TE} {t : TA} {name : Str} {apos cpos : Pos} {id : String} {r : V → List V → Hp → VK → Prop}
theorem pe_tm (pa : PlainAttrs "tuple") (slot : Slot "tuple" name id) (hty : typeOf (.builtin id) = pure (.type "method_descriptor")) (hm : MtR X id r) (ho : PE X o to) (ha : PA X (e :: es) t)
    (hbase : attributeBase o name X.env (eval o X.env) = eval o X.env := by rfl)
    (hfew : ((backTo cpos (starEach (e :: es) X.env)).all (fun x => !x.1) && (backToKw cpos (keywordEach [] X.env)).all (fun x => x.1.isSome)
      && decide ((e :: es).length + ([] : List Keyword).length + (if ([] : List Keyword).isEmpty then 0 else 1) < 30)) = true := by rfl)
    (hline : (apos.endLine == cpos.line) = true := by rfl) (hs : starEach (e :: es) X.env = (false, eval e X.env) :: starEach es X.env := by rfl) (hplain : (backTo cpos (starEach es X.env)).any (·.1) = false := by rfl) :
    PE X (.Call (.Attribute o name apos) (e :: es) [] cpos) (tTM X.K r to t) := by
  refine ⟨fun pins s σ H Q I h => ?_⟩
  refine wpAny_Call_method_late hbase hfew hline rfl (thn (ho.run pins s σ H _ I h) fun v s1 ⟨x, H1, I1, r1, ty, q1⟩ => ?_)
  obtain ⟨h1, h2⟩ := tupV_is I1 r1 ty
  refine ⟨"tuple", id, pa, slot, hty, h1, h2, ?_⟩
  have hA := ha.run cpos pins s1 σ H1 _ I1 q1
  rw [hs] at hA ⊢
  refine Calls.callWith_builtin (by show (false || (backTo cpos (starEach es X.env)).any (·.1)) = false; rw [hplain] <;> rfl) (Calls.evalArgs_plain ?_)
  exact thn hA fun us s2 ⟨vs, H2, I2, r2, q2⟩ => hm pins s2 σ H2 x vs v us Q I2 r1 r2 q2
end

/-! ### data as the library has it -/
def mapO (f : D → Option PyData) : List D → Option (List PyData)
  | [] => some []
  | d :: ds => match f d, mapO f ds with
    | some p, some ps => some (p :: ps)
    | _, _ => none
def toPy : Nat → Hm → D → Option PyData
  | _, _, .non => some .none
  | _, _, .bl b => some (.bool b)
  | _, _, .int i => some (.int i)
  | _, _, .str x => some (.str x)
  | 0, _, _ => none
  | n + 1, h, .tup ds => (mapO (toPy n h) ds).map .tuple
  | n + 1, h, .ref k => match h[k]? with
    | some (.lst ds) => (mapO (toPy n h) ds).map .list
    | some (.scr ds) => (mapO (toPy n h) ds).map .list
    | _ => none
  | n + 1, h, .scl ds => (mapO (toPy n h) ds).map .list
section
variable {K : PySem.W.Frag} {mg : Str → Option Value} {m : List Addr} {H : Hp} {h : Hm}
theorem mapO_dp {f : D → Option PyData} (k : ∀ v d p, Rep K m H v d → f d = some p → Dp K H v p) : ∀ (ds : List D) (vs : List V) (ps : List PyData), RepL K m H vs ds → mapO f ds = some ps → DpAll K H vs ps
  | [], _, ps, .nil, e => by cases e; exact .nil
  | d :: ds, _, ps, .cons r t, e => by
    unfold mapO at e
    split at e
    · rename_i p qs h1 h2
      cases e
      exact .cons (k _ _ _ r h1) (mapO_dp k ds _ _ t h2)
    · cases e
theorem ObjR.sqL {a : Addr} {ds : List D} (x : ObjR K mg m H a (.lst ds) ∨ ObjR K mg m H a (.scr ds)) : ∃ vs, SqL K H a vs ∧ RepL K m H vs ds := by
  rcases x with ⟨vs, h1, h2⟩ | ⟨vs, h1, h2⟩
  · exact ⟨vs, .inl (.inl h1), h2⟩
  · exact ⟨vs, .inl h1, h2⟩
theorem toPy_dp (r : R K mg m H h) : ∀ (n : Nat) (v : V) (d : D) (p : PyData), Rep K m H v d → toPy n h d = some p → Dp K H v p
  | n, _, .non, p, x, e => by cases x; simp only [toPy] at e; cases e; exact .non
  | n, _, .bl b, p, x, e => by cases x; simp only [toPy] at e; cases e; exact .bl b
  | n, _, .int b, p, x, e => by cases x; simp only [toPy] at e; cases e; exact .int b
  | n, _, .str b, p, x, e => by cases x; simp only [toPy] at e; cases e; exact .str b
  | 0, _, .tup ds, p, x, e => by simp only [toPy] at e; cases e
  | 0, _, .ref k, p, x, e => by simp only [toPy] at e; cases e
  | 0, _, .scl k, p, x, e => by simp only [toPy] at e; cases e
  | n + 1, _, .scl ds, p, x, e => by
    simp only [toPy] at e
    obtain ⟨ps, h1, rfl⟩ := Option.map_eq_some_iff.mp e
    obtain ⟨a, vs, rfl, h2, h3⟩ := x.scl_inv
    exact .lst h2.sqL (mapO_dp (fun v d p => toPy_dp r n v d p) ds vs ps h3 h1)
  | n + 1, _, .tup ds, p, x, e => by
    simp only [toPy] at e
    obtain ⟨ps, h1, rfl⟩ := Option.map_eq_some_iff.mp e
    obtain ⟨a, vs, rfl, h2, h3⟩ := x.tup_inv
    exact .tup h2.sqT (mapO_dp (fun v d p => toPy_dp r n v d p) ds vs ps h3 h1)
  | n + 1, _, .ref k, p, x, e => by
    simp only [toPy] at e
    obtain ⟨a, rfl, hm⟩ := x.ref_inv
    split at e
    · rename_i ds hk
      obtain ⟨ps, h1, rfl⟩ := Option.map_eq_some_iff.mp e
      obtain ⟨vs, q1, q2⟩ := ObjR.sqL (.inl (r.ob _ _ _ hm hk))
      exact .lst q1 (mapO_dp (fun v d p => toPy_dp r n v d p) ds vs ps q2 h1)
    · rename_i ds hk
      obtain ⟨ps, h1, rfl⟩ := Option.map_eq_some_iff.mp e
      obtain ⟨vs, q1, q2⟩ := ObjR.sqL (.inr (r.ob _ _ _ hm hk))
      exact .lst q1 (mapO_dp (fun v d p => toPy_dp r n v d p) ds vs ps q2 h1)
    · cases e
end
/-- the items of a list or tuple -/
def items (h : Hm) : D → Option (List D)
  | .tup ds => some ds
  | .ref k => match h[k]? with
    | some (.lst ds) => some ds
    | some (.scr ds) => some ds
    | _ => none
  | .scl ds => some ds
  | _ => none
section
variable {K : PySem.W.Frag} {mg : Str → Option Value} {m : List Addr} {H : Hp} {h : Hm}
theorem items_sq (r : R K mg m H h) {v : V} {d : D} {ds : List D} (x : Rep K m H v d) (e : items h d = some ds) : ∃ a vs, v = .ref a ∧ (SqL K H a vs ∨ SqT K H a vs) ∧ RepL K m H vs ds := by
  cases d with
  | tup es =>
    cases e
    obtain ⟨a, vs, rfl, h2, h3⟩ := x.tup_inv
    exact ⟨a, vs, rfl, .inr h2.sqT, h3⟩
  | scl es =>
    cases e
    obtain ⟨a, vs, rfl, h2, h3⟩ := x.scl_inv
    exact ⟨a, vs, rfl, .inl h2.sqL, h3⟩
  | ref k =>
    obtain ⟨a, rfl, hm⟩ := x.ref_inv
    unfold items at e
    simp only at e
    split at e
    · rename_i es hk
      cases e
      obtain ⟨vs, q1, q2⟩ := ObjR.sqL (.inl (r.ob _ _ _ hm hk))
      exact ⟨a, vs, rfl, .inl q1, q2⟩
    · rename_i es hk
      cases e
      obtain ⟨vs, q1, q2⟩ := ObjR.sqL (.inr (r.ob _ _ _ hm hk))
      exact ⟨a, vs, rfl, .inl q1, q2⟩
    · cases e
  | _ => cases e
end

/-! ### + - * // % ** -/
def dAdd (x y : D) (h : Hm) : RD := match x, y with
  | .int i, .int j => .ok (.int (i + j)) h
  | .tup a, .tup b => if a.length + b.length ≤ big then .ok (.tup (a ++ b)) h else .bad
  | .ref a, .ref b => match h[a]?, h[b]? with
    | some (.lst xs), some (.lst ys) => if xs.length + ys.length ≤ big then .ok (.ref h.length) (h ++ [.lst (xs ++ ys)]) else .bad
    | _, _ => .bad
  | .str a, .str b => if a.length + b.length ≤ big then .ok (.str (a ++ b)) h else .bad
  | _, _ => .bad
def rAdd4 (K : PySem.W.Frag) : R2 := fun x y H Q => (rI0 fun i j => .int (i + j)) x y H Q ∨ rCatF K x y H Q ∨ rCat x y H Q ∨ (∃ i j, x = .str i ∧ y = .str j ∧ i.length + j.length ≤ sizeLine ∧ Q (.str (i ++ j)) H)
section
variable {X : Cx}
theorem op_add4 : OpR X (binaryOp .Add) (rAdd4 X.K) := op_add.or (op_catF.or (op_cat.or op_add_str))
theorem os_add : OpS X (rAdd4 X.K) dAdd := by
  intro W m H h x y dx dy Q r rx ry p
  unfold dAdd at p
  split at p
  · cases rx; cases ry
    exact .inl ⟨_, _, rfl, rfl, p.val r (.int _)⟩
  · rename_i a b
    split at p
    · rename_i hz
      obtain ⟨p1, vs, rfl, t1, l1⟩ := rx.tup_inv
      obtain ⟨p2, ws, rfl, t2, l2⟩ := ry.tup_inv
      have e1 := l1.length
      have e2 := l2.length
      refine .inr (.inl ⟨p1, p2, vs, ws, rfl, rfl, t1.sqT, t2.sqT, big_line (by omega), fun z => ?_, fun _ z => ?_, fun _ _ q o hq ho => PostE.tup p r (l1.app l2) q o hq ho⟩)
      · subst z
        cases l1
        exact p.val r ry
      · subst z
        cases l2
        rw [List.append_nil] at p
        exact p.val r rx
    · exact False.elim p
  · split at p
    · rename_i xs ys h1 h2
      split at p
      · rename_i hz
        obtain ⟨p1, rfl, m1⟩ := rx.ref_inv
        obtain ⟨p2, rfl, m2⟩ := ry.ref_inv
        obtain ⟨vs, q1, l1⟩ := r.ob _ _ _ m1 h1
        obtain ⟨ws, q2, l2⟩ := r.ob _ _ _ m2 h2
        have e1 := l1.length
        have e2 := l2.length
        exact .inr (.inr (.inl ⟨p1, p2, vs, ws, rfl, rfl, q1, q2, big_line (by omega), PostE.lst p r (l1.app l2)⟩))
      · exact False.elim p
    · exact False.elim p
  · split at p
    · rename_i hz
      cases rx; cases ry
      exact .inr (.inr (.inr ⟨_, _, rfl, rfl, big_line hz, p.val r (.str _)⟩))
    · exact False.elim p
  · exact False.elim p
def dInt2 (c : Int → Int → Bool) (g : Int → Int → Int) (x y : D) (h : Hm) : RD := match x, y with
  | .int i, .int j => if c i j = true then .ok (.int (g i j)) h else .bad
  | _, _ => .bad
theorem os_int2 {c : Int → Int → Bool} {g : Int → Int → Int} {C : Int → Int → Prop} (k : ∀ i j, c i j = true → C i j) : OpS X (rI C fun i j => .int (g i j)) (dInt2 c g) := by
  intro W m H h x y dx dy Q r rx ry p
  unfold dInt2 at p
  split at p
  · split at p
    · rename_i hc
      cases rx; cases ry
      exact ⟨_, _, rfl, rfl, k _ _ hc, p.val r (.int _)⟩
    · exact False.elim p
  · exact False.elim p
def dInt0 (g : Int → Int → Int) (x y : D) (h : Hm) : RD := match x, y with
  | .int i, .int j => .ok (.int (g i j)) h
  | _, _ => .bad
theorem os_int0 {g : Int → Int → Int} : OpS X (rI0 fun i j => .int (g i j)) (dInt0 g) := by
  intro W m H h x y dx dy Q r rx ry p
  unfold dInt0 at p
  split at p
  · cases rx; cases ry
    exact ⟨_, _, rfl, rfl, p.val r (.int _)⟩
  · exact False.elim p
def dCmp (g : Int → Int → Bool) (x y : D) (h : Hm) : RD := match x, y with
  | .int i, .int j => .ok (.bl (g i j)) h
  | _, _ => .bad
theorem os_cmp {g : Int → Int → Bool} : OpS X (rI0 fun i j => .bl (g i j)) (dCmp g) := by
  intro W m H h x y dx dy Q r rx ry p
  unfold dCmp at p
  split at p
  · cases rx; cases ry
    exact ⟨_, _, rfl, rfl, p.val r (.bl _)⟩
  · exact False.elim p
/-- a product, one factor within a word -/
def dSub := dInt0 fun i j => i - j
def dMod := dInt2 (fun _ j => decide (0 < j)) fun i j => i % j
def dDiv := dInt2 (fun _ j => decide (0 < j ∧ j < 2 ^ 200)) fun i j => i / j
def dPow := dInt2 (fun i j => decide (0 ≤ j ∧ j ≤ 1000000 ∧ i.natAbs < 2 ^ 64)) fun i j => i ^ j.toNat
def cM (i j : Int) : Bool := decide ((-(2 ^ 64) < i ∧ i < 2 ^ 64) ∨ (-(2 ^ 64) < j ∧ j < 2 ^ 64))
theorem os_sub : OpS X (rI0 fun i j => .int (i - j)) dSub := os_int0
theorem os_mod : OpS X (rI (fun _ j => 0 < j) fun i j => .int (i % j)) dMod := os_int2 fun _ _ h => of_decide_eq_true h
theorem os_div : OpS X (rI CDivW fun i j => .int (i / j)) dDiv := os_int2 fun i j h => by
  have q := of_decide_eq_true h
  exact wide_div (b := 200) q.1 (by have := q.2; omega) (by decide) (by decide)
theorem os_pow : OpS X (rI CPow fun i j => .int (i ^ j.toNat)) dPow := os_int2 fun i j h => by
  have q : 0 ≤ j ∧ j ≤ 1000000 ∧ i.natAbs < 2 ^ 64 := of_decide_eq_true h
  exact q
/-- * : ints, a list times an int -/
def dMul (x y : D) (h : Hm) : RD := match x, y with
  | .int i, .int j => if cM i j = true then .ok (.int (i * j)) h else .bad
  | .ref a, .int k => match h[a]? with
    | some (.lst xs) => if -(2 ^ 63) ≤ k ∧ k < 2 ^ 63 ∧ xs.length * k.toNat ≤ big then .ok (.ref h.length) (h ++ [.lst (List.replicate k.toNat xs).flatten]) else .bad
    | _ => .bad
  | _, _ => .bad
theorem RepL.flat {K : PySem.W.Frag} {m : List Addr} {H : Hp} {vs : List V} {ds : List D} (r : RepL K m H vs ds) : ∀ n : Nat, RepL K m H (List.replicate n vs).flatten (List.replicate n ds).flatten
  | 0 => .nil
  | n + 1 => by
    rw [List.replicate_succ, List.replicate_succ, List.flatten_cons, List.flatten_cons]
    exact r.app (RepL.flat r n)
theorem op_mul2 : OpR X (binaryOp .Mult) (fun x y H Q => (rI CMul fun i j => .int (i * j)) x y H Q ∨ rRep x y H Q) := op_mul.or op_rep
theorem os_mul : OpS X (fun x y H Q => (rI CMul fun i j => .int (i * j)) x y H Q ∨ rRep x y H Q) dMul := by
  intro W m H h x y dx dy Q r rx ry p
  unfold dMul at p
  split at p
  · split at p
    · rename_i hc
      cases rx; cases ry
      rename_i i j
      have q : (-(2 ^ 64) < i ∧ i < 2 ^ 64) ∨ (-(2 ^ 64) < j ∧ j < 2 ^ 64) := of_decide_eq_true hc
      exact .inl ⟨i, j, rfl, rfl, q, p.val r (.int _)⟩
    · exact False.elim p
  · split at p
    · rename_i xs h1
      split at p
      · rename_i hz
        obtain ⟨p1, rfl, m1⟩ := rx.ref_inv
        cases ry
        obtain ⟨vs, q1, l1⟩ := r.ob _ _ _ m1 h1
        have e1 := l1.length
        exact .inr ⟨p1, _, vs, rfl, rfl, q1, hz.1, hz.2.1, big_line (by rw [e1]; exact hz.2.2), PostE.lst p r (l1.flat _)⟩
      · exact False.elim p
    · exact False.elim p
  · exact False.elim p
end

/-! ### == != is in -/
def eqSc : D → D → Option Bool
  | .non, .non => some true
  | .non, .int _ => some false | .int _, .non => some false | .non, .bl _ => some false | .bl _, .non => some false | .non, .str _ => some false | .str _, .non => some false
  | .int i, .int j => some (decide (i = j)) | .bl i, .bl j => some (decide (i = j)) | .str i, .str j => some (decide (i = j))
  | .int _, .str _ => some false | .str _, .int _ => some false | .bl _, .str _ => some false | .str _, .bl _ => some false
  | _, _ => none
/-- == of data -/
def eqB (h : Hm) (x y : D) : Option Bool := match eqSc x y with
  | some b => some b
  | none => match toPy 20 h x, toPy 20 h y with
    | some a, some b => if SeqAt.shaped a = true ∧ SeqAt.shaped b = true then some (PyData.eqv a b) else none
    | _, _ => none
def dEq (x y : D) (h : Hm) : RD := match eqB h x y with
  | some b => .ok (.bl b) h
  | none => .bad
def dNe (x y : D) (h : Hm) : RD := match eqB h x y with
  | some b => .ok (.bl (!b)) h
  | none => .bad
section
variable {X : Cx}
theorem eqSc_ok {K : PySem.W.Frag} {m : List Addr} {H : Hp} {x y : V} {dx dy : D} {b : Bool} (rx : Rep K m H x dx) (ry : Rep K m H y dy) (e : eqSc dx dy = some b) : scal x y = true ∧ decide (x = y) = b := by
  cases dx <;> cases dy <;> first
    | (simp [eqSc] at e; done)
    | (cases rx; cases ry; simp [eqSc] at e; subst e; refine ⟨rfl, ?_⟩; simp)
theorem op_eq2 (hr : X.A.units + 64 < cLine) : OpR X (compareOp .Eq) (fun x y H Q => rEq x y H Q ∨ rEqD X.K x y H Q) := op_eq.or (op_eqD hr)
theorem op_ne2 (hr : X.A.units + 64 < cLine) : OpR X (compareOp .NotEq) (fun x y H Q => rNe x y H Q ∨ rNeD X.K x y H Q) := op_ne.or (op_neD hr)
theorem eqB_ok {K : PySem.W.Frag} {mg : Str → Option Value} {m : List Addr} {H : Hp} {h : Hm} {x y : V} {dx dy : D} {b : Bool} (r : R K mg m H h) (rx : Rep K m H x dx) (ry : Rep K m H y dy) (e : eqB h dx dy = some b) :
    (scal x y = true ∧ decide (x = y) = b) ∨ ∃ d e, Dp K H x d ∧ Dp K H y e ∧ SeqAt.shaped d = true ∧ SeqAt.shaped e = true ∧ PyData.eqv d e = b := by
  unfold eqB at e
  split at e
  · rename_i b' h1
    cases e
    exact .inl (eqSc_ok rx ry h1)
  · split at e
    · rename_i a c h1 h2
      split at e
      · rename_i hs
        cases e
        exact .inr ⟨a, c, toPy_dp r _ _ _ _ rx h1, toPy_dp r _ _ _ _ ry h2, hs.1, hs.2, rfl⟩
      · cases e
    · cases e
theorem os_eq : OpS X (fun x y H Q => rEq x y H Q ∨ rEqD X.K x y H Q) dEq := by
  intro W m H h x y dx dy Q r rx ry p
  unfold dEq at p
  split at p
  · rename_i b e
    rcases eqB_ok r rx ry e with ⟨h1, h2⟩ | ⟨d, c, h1, h2, h3, h4, h5⟩
    · exact .inl ⟨h1, by rw [h2]; exact p.val r (.bl _)⟩
    · exact .inr ⟨d, c, h1, h2, h3, h4, by rw [h5]; exact p.val r (.bl _)⟩
  · exact False.elim p
theorem os_ne : OpS X (fun x y H Q => rNe x y H Q ∨ rNeD X.K x y H Q) dNe := by
  intro W m H h x y dx dy Q r rx ry p
  unfold dNe at p
  split at p
  · rename_i b e
    rcases eqB_ok r rx ry e with ⟨h1, h2⟩ | ⟨d, c, h1, h2, h3, h4, h5⟩
    · exact .inl ⟨h1, by rw [h2]; exact p.val r (.bl _)⟩
    · exact .inr ⟨d, c, h1, h2, h3, h4, by rw [h5]; exact p.val r (.bl _)⟩
  · exact False.elim p
/-- is None, is True, is False -/
def dIs (x y : D) (h : Hm) : RD := match y with
  | .non => .ok (.bl (decide (x = .non))) h
  | .bl b => .ok (.bl (decide (x = .bl b))) h
  | _ => .bad
def dIsNot (x y : D) (h : Hm) : RD := match y with
  | .non => .ok (.bl (!decide (x = .non))) h
  | .bl b => .ok (.bl (!decide (x = .bl b))) h
  | _ => .bad
def rIs3 : R2 := fun x y H Q => (y = .non ∨ ∃ b, y = .bl b) ∧ Q (.bl (decide (x = y))) H
def rIsNot3 : R2 := fun x y H Q => (y = .non ∨ ∃ b, y = .bl b) ∧ Q (.bl (!decide (x = y))) H
theorem plain_bool {x : V} {v : Value} (r : RelV x v) (b : Bool) : plainIs v (.bool b) = true := by
  cases x <;> first | (obtain ⟨t, rfl⟩ := r; rfl) | (cases r; rfl)
theorem relV_bl {x : V} {v : Value} (r : RelV x v) (b : Bool) : v = .bool b ↔ x = .bl b := by
  cases x <;> first | (obtain ⟨t, rfl⟩ := r; simp) | (cases r; simp)
theorem op_is3 : OpR X (compareOp .Is) rIs3 := by
  rintro pins s σ H x y v u Q I rx ry ⟨rfl | ⟨b, rfl⟩, q⟩
  · exact op_isN pins s σ H x _ v u Q I rx ry ⟨rfl, q⟩
  · cases (show u = Value.bool b from ry)
    by_cases e : v = .bool b
    · subst e
      exact wpAny_is_self rfl ⟨.bl true, H, I, rfl, by rw [decide_eq_true ((relV_bl rx b).mp rfl)] at q; exact q⟩
    · exact wpAny_is_other (plain_bool rx b) e ⟨.bl false, H, I, rfl, by rw [decide_eq_false (fun z => e ((relV_bl rx b).mpr z))] at q; exact q⟩
theorem op_isNot3 : OpR X (compareOp .IsNot) rIsNot3 := by
  rintro pins s σ H x y v u Q I rx ry ⟨rfl | ⟨b, rfl⟩, q⟩
  · exact op_notN pins s σ H x _ v u Q I rx ry ⟨rfl, q⟩
  · cases (show u = Value.bool b from ry)
    by_cases e : v = .bool b
    · subst e
      exact wpAny_isNot_self rfl ⟨.bl false, H, I, rfl, by rw [decide_eq_true ((relV_bl rx b).mp rfl)] at q; exact q⟩
    · exact wpAny_isNot_other (plain_bool rx b) e ⟨.bl true, H, I, rfl, by rw [decide_eq_false (fun z => e ((relV_bl rx b).mpr z))] at q; exact q⟩
theorem rep_non {K : PySem.W.Frag} {m : List Addr} {H : Hp} {x : V} {d : D} (r : Rep K m H x d) : decide (x = .non) = decide (d = .non) := by cases r <;> simp
theorem rep_bl {K : PySem.W.Frag} {m : List Addr} {H : Hp} {x : V} {d : D} (r : Rep K m H x d) (b : Bool) : decide (x = .bl b) = decide (d = .bl b) := by cases r <;> simp
theorem os_is : OpS X rIs3 dIs := by
  intro W m H h x y dx dy Q r rx ry p
  unfold dIs at p
  split at p
  · cases ry
    exact ⟨.inl rfl, by rw [rep_non rx]; exact p.val r (.bl _)⟩
  · cases ry
    exact ⟨.inr ⟨_, rfl⟩, by rw [rep_bl rx]; exact p.val r (.bl _)⟩
  · exact False.elim p
theorem os_isNot : OpS X rIsNot3 dIsNot := by
  intro W m H h x y dx dy Q r rx ry p
  unfold dIsNot at p
  split at p
  · cases ry
    exact ⟨.inl rfl, by rw [rep_non rx]; exact p.val r (.bl _)⟩
  · cases ry
    exact ⟨.inr ⟨_, rfl⟩, by rw [rep_bl rx]; exact p.val r (.bl _)⟩
  · exact False.elim p
/-- x in y: flat things in a tuple, data in a list -/
def flatD : D → Bool
  | .non => true | .bl _ => true | .int _ => true | .str _ => true
  | _ => false
def eqF : D → D → Bool
  | .non, .non => true
  | .bl a, .bl b => a == b
  | .bl a, .int b => (if a then 1 else 0) == b
  | .int a, .bl b => a == (if b then 1 else 0)
  | .int a, .int b => a == b
  | .str a, .str b => a == b
  | _, _ => false
def inB (h : Hm) (x y : D) : Option Bool := match y with
  | .tup ys => if flatD x = true ∧ ys.all flatD = true then some (ys.any fun z => eqF z x) else none
  | _ => match toPy 20 h x, toPy 20 h y with
    | some a, some (.list b) => if SeqAt.shaped a = true ∧ SeqAt.shaped (.list b) = true then some (b.any fun z => PyData.eqv z a) else none
    | _, _ => none
def dIn (x y : D) (h : Hm) : RD := match inB h x y with
  | some b => .ok (.bl b) h
  | none => .bad
def dNotIn (x y : D) (h : Hm) : RD := match inB h x y with
  | some b => .ok (.bl (!b)) h
  | none => .bad
theorem flat_rep {K : PySem.W.Frag} {m : List Addr} {H : Hp} {x : V} {d : D} (r : Rep K m H x d) (f : flatD d = true) : flatV x = true := by cases r <;> first | rfl | cases f
theorem flat_repL {K : PySem.W.Frag} {m : List Addr} {H : Hp} : ∀ {vs : List V} {ds : List D}, RepL K m H vs ds → ds.all flatD = true → vs.all flatV = true
  | _, _, .nil, _ => rfl
  | _, _, .cons r t, f => by
    rw [List.all_cons, Bool.and_eq_true] at f ⊢
    exact ⟨flat_rep r f.1, flat_repL t f.2⟩
theorem eqF_rep {K : PySem.W.Frag} {m : List Addr} {H : Hp} {x y : V} {d e : D} (r : Rep K m H x d) (q : Rep K m H y e) : eqV x y = eqF d e := by
  cases r <;> cases q <;> rfl
theorem any_rep {K : PySem.W.Frag} {m : List Addr} {H : Hp} {x : V} {d : D} (r : Rep K m H x d) : ∀ {vs : List V} {ds : List D}, RepL K m H vs ds → inV x vs = ds.any fun z => eqF z d
  | _, _, .nil => rfl
  | _, _, .cons q t => by
    unfold inV
    rw [List.any_cons, List.any_cons, eqF_rep q r]
    have := any_rep r t
    unfold inV at this
    rw [this]
theorem op_in2 (hu : X.A.units + 65 < cLine) : OpR X (compareOp .In) (fun x y H Q => rIn X.K false x y H Q ∨ rInD X.K x y H Q) := op_in_seq.or (op_inD hu)
theorem op_notIn2 (hu : X.A.units + 65 < cLine) : OpR X (compareOp .NotIn) (fun x y H Q => rIn X.K true x y H Q ∨ rNotInD X.K x y H Q) := op_notIn_seq.or (op_notInD hu)
theorem inB_ok {mg : Str → Option Value} {K : PySem.W.Frag} {m : List Addr} {H : Hp} {h : Hm} {x y : V} {dx dy : D} {b : Bool} (r : R K mg m H h) (rx : Rep K m H x dx) (ry : Rep K m H y dy) (e : inB h dx dy = some b) :
    (∃ p xs, y = .ref p ∧ (SqL K H p xs ∨ SqT K H p xs) ∧ flatV x = true ∧ xs.all flatV = true ∧ inV x xs = b) ∨
      ∃ d ds, Dp K H x d ∧ Dp K H y (.list ds) ∧ SeqAt.shaped d = true ∧ SeqAt.shaped (.list ds) = true ∧ (ds.any fun z => PyData.eqv z d) = b := by
  unfold inB at e
  split at e
  · split at e
    · rename_i hf
      cases e
      obtain ⟨p, vs, rfl, t1, l1⟩ := ry.tup_inv
      exact .inl ⟨p, vs, rfl, .inr t1.sqT, flat_rep rx hf.1, flat_repL l1 hf.2, any_rep rx l1⟩
    · cases e
  · split at e
    · rename_i a c h1 h2
      split at e
      · rename_i hs
        cases e
        exact .inr ⟨a, c, toPy_dp r _ _ _ _ rx h1, toPy_dp r _ _ _ _ ry h2, hs.1, hs.2, rfl⟩
      · cases e
    · cases e
theorem os_in : OpS X (fun x y H Q => rIn X.K false x y H Q ∨ rInD X.K x y H Q) dIn := by
  intro W m H h x y dx dy Q r rx ry p
  unfold dIn at p
  split at p
  · rename_i b e
    rcases inB_ok r rx ry e with ⟨q, vs, h1, h2, h3, h4, h5⟩ | ⟨d, c, h1, h2, h3, h4, h5⟩
    · exact .inl ⟨q, vs, h1, h2, h3, h4, by rw [h5]; exact p.val r (.bl _)⟩
    · exact .inr ⟨d, c, h1, h2, h3, h4, by rw [h5]; exact p.val r (.bl _)⟩
  · exact False.elim p
theorem os_notIn : OpS X (fun x y H Q => rIn X.K true x y H Q ∨ rNotInD X.K x y H Q) dNotIn := by
  intro W m H h x y dx dy Q r rx ry p
  unfold dNotIn at p
  split at p
  · rename_i b e
    rcases inB_ok r rx ry e with ⟨q, vs, h1, h2, h3, h4, h5⟩ | ⟨d, c, h1, h2, h3, h4, h5⟩
    · exact .inl ⟨q, vs, h1, h2, h3, h4, by rw [h5]; exact p.val r (.bl _)⟩
    · exact .inr ⟨d, c, h1, h2, h3, h4, by rw [h5]; exact p.val r (.bl _)⟩
  · exact False.elim p
end
end Sh

set_option Elab.async false
set_option linter.all false
set_option maxRecDepth 100000
set_option maxHeartbeats 4000000
namespace Sh
open PySem L2 PyProof.Rows
/-! ### subscripts, slices -/
theorem atI_rep {K : PySem.W.Frag} {m : List Addr} {H : Hp} {vs : List V} {ds : List D} {i : Int} {d : D} (r : RepL K m H vs ds) (e : atI ds i = some d) : ∃ v, atI vs i = some v ∧ Rep K m H v d := by
  unfold atI at e ⊢
  rw [r.length]
  cases q : ixN ds.length i with
  | none => rw [q] at e; cases e
  | some j =>
    rw [q] at e
    exact r.get e
def dIx (x y : D) (h : Hm) : RD := match y with
  | .int i => match items h x with
    | some ds => match atI ds i with
      | some d => .ok d h
      | none => .bad
    | none => .bad
  | _ => .bad
section
variable {X : Cx} {W : WX} {e a b c o : Expr} {f fa fb fc fo : FE} {pos apos cpos : Pos} {es : List Expr} {fs : List FE}
theorem os_ix : OpS X (fun x y H Q => rIxL X.K x y H Q ∨ rIxT X.K x y H Q) dIx := by
  intro W m H h x y dx dy Q r rx ry p
  unfold dIx at p
  split at p
  · split at p
    · rename_i ds hi
      split at p
      · rename_i d hd
        cases ry
        obtain ⟨q, vs, rfl, h1, l1⟩ := items_sq r rx hi
        obtain ⟨v, h2, h3⟩ := atI_rep l1 hd
        rcases h1 with h1 | h1
        · exact .inl ⟨q, vs, _, v, rfl, rfl, h1, h2, p.val r h3⟩
        · exact .inr ⟨q, vs, _, v, rfl, rfl, h1, h2, p.val r h3⟩
      · exact False.elim p
    · exact False.elim p
  · exact False.elim p
theorem ix_two : IxR X (fun x y H Q => rIxL X.K x y H Q ∨ rIxT X.K x y H Q) := ix_list.or ix_tup
theorem se_ix (ha : SE X W a fa) (hb : SE X W b fb) (hs : PlainIx b := by exact fun _ _ => rfl) : SE X W (.Subscript a b pos) (eBin dIx fa fb) :=
  PE.imp (pe_ix ix_two ha hb hs) fun σ H Q h => bin_ok os_ix h
def cutD (xs : List D) (lo hi : Option Int) : List D := (xs.drop (HT.sIx xs.length 0 lo)).take (HT.sIx xs.length xs.length hi - HT.sIx xs.length 0 lo)
theorem cut_rep {K : PySem.W.Frag} {m : List Addr} {H : Hp} {vs : List V} {ds : List D} (r : RepL K m H vs ds) (lo hi : Option Int) : RepL K m H (cutV vs lo hi) (cutD ds lo hi) := by
  unfold cutV cutD
  rw [r.length]
  exact (r.drop _).take _
def dSl (x : D) (lo hi : Option Int) (h : Hm) : RD := match x with
  | .tup ds => .ok (.tup (cutD ds lo hi)) h
  | .ref k => match h[k]? with
    | some (.lst ds) => .ok (.ref h.length) (h ++ [.lst (cutD ds lo hi)])
    | some (.scr ds) => .ok (.ref h.length) (h ++ [.lst (cutD ds lo hi)])
    | _ => .bad
  | _ => .bad
theorem sl_two : SlR X (fun x lo hi H Q => rSlL X.K x lo hi H Q ∨ rSlF X.K x lo hi H Q) := sl_list.or sl_tupF
def ePart (lo : Option FE) (s : DS) (h : Hm) (k : Option Int → Hm → RD) : RD := match lo with
  | none => k none h
  | some f => (f s h).bind fun d h1 => match d with
    | .int i => k (some i) h1
    | _ => .bad
def eSl (fa : FE) (lo hi : Option FE) : FE := fun s h => (fa s h).bind fun x h1 => ePart lo s h1 fun l h2 => ePart hi s h2 fun u h3 => dSl x l u h3
inductive SO (X : Cx) (W : WX) : Option Expr → Option FE → Prop
  | no : SO X W none none
  | yes {e : Expr} {f : FE} (h : SE X W e f) : SO X W (some e) (some f)
def tPO (K : PySem.W.Frag) (mg : Str → Option Value) (W : WX) (lo : Option FE) : TO := fun σ H Q => ∃ m s h, R K mg m H h ∧ RS K m H σ s ∧
  (match lo with
    | none => Q none H
    | some f => PostE K mg (fun c d H' => W c d σ H') m H (f s h) (fun v H' => ∃ i, v = .int i ∧ Q (some i) H'))
theorem po_of {lo : Option Expr} {fl : Option FE} (h : SO X W lo fl) : PO X lo (tPO X.K X.mg W fl) := by
  cases h with
  | no => exact ⟨fun pins s σ H Q I ⟨m, s', h, R0, rs, q⟩ => po_none.run pins s σ H Q I q⟩
  | yes h => exact ⟨fun pins s σ H Q I ⟨m, s', hh, R0, rs, q⟩ => (po_some h).run pins s σ H Q I ⟨m, s', hh, R0, rs, q⟩⟩
theorem se_sl {lo hi : Option Expr} {fl fu : Option FE} {p2 : Pos} (ha : SE X W a fa) (hl : SO X W lo fl) (hu : SO X W hi fu) : SE X W (.Subscript a (.Slice lo hi none p2) pos) (eSl fa fl fu) := by
  refine PE.imp (pe_slice sl_two ha (po_of hl) (po_of hu)) fun σ H Q h => ?_
  obtain ⟨m, s, h, R0, rs, p⟩ := h
  refine ⟨m, s, h, R0, rs, PostE.mono (PostE.bind p) ?_⟩
  rintro x H1 ⟨m1, dx, h1, g1, R1, rx, p1⟩
  -- what stands at the end
  have fin : ∀ (l u : Option Int) (m3 : List Addr) (H3 : Hp) (h3 : Hm), Grow m1 H1 m3 H3 → R X.K X.mg m3 H3 h3 → PostE X.K X.mg (fun c d H' => W c d σ H') m3 H3 (dSl dx l u h3) Q → (rSlL X.K x l u H3 Q ∨ rSlF X.K x l u H3 Q) := by
    intro l u m3 H3 h3 g R3 p3
    unfold dSl at p3
    split at p3
    · obtain ⟨q, vs, rfl, t1, l1⟩ := (rx.grow g).tup_inv
      refine .inr ⟨q, vs, rfl, t1.sqT, fun z => ?_, fun _ q' o hq ho => PostE.tup p3 R3 (cut_rep l1 l u) q' o hq ho⟩
      have e : cutV vs l u = vs := by
        unfold cutV
        rw [z.1, z.2]
        simp
      have e2 := cut_rep l1 l u
      rw [e] at e2
      exact p3.val R3 (.tup t1 e2)
    · split at p3
      · rename_i ds hk
        obtain ⟨q, rfl, hm⟩ := (rx.grow g).ref_inv
        obtain ⟨vs, q1, q2⟩ := ObjR.sqL (.inl (R3.ob _ _ _ hm hk))
        exact .inl ⟨q, vs, rfl, q1, PostE.lst p3 R3 (cut_rep q2 l u)⟩
      · rename_i ds hk
        obtain ⟨q, rfl, hm⟩ := (rx.grow g).ref_inv
        obtain ⟨vs, q1, q2⟩ := ObjR.sqL (.inr (R3.ob _ _ _ hm hk))
        exact .inl ⟨q, vs, rfl, q1, PostE.lst p3 R3 (cut_rep q2 l u)⟩
      · exact False.elim p3
    · exact False.elim p3
  have hi_ : ∀ (l : Option Int) (m2 : List Addr) (H2 : Hp) (h2 : Hm), Grow m1 H1 m2 H2 → R X.K X.mg m2 H2 h2 → PostE X.K X.mg (fun c d H' => W c d σ H') m2 H2 (ePart fu s h2 fun u h3 => dSl dx l u h3) Q →
      tPO X.K X.mg W fu σ H2 fun u H3 => (rSlL X.K x l u H3 Q ∨ rSlF X.K x l u H3 Q) := by
    intro l m2 H2 h2 g R2 p2
    refine ⟨m2, s, h2, R2, rs.grow (g1.trans g), ?_⟩
    cases fu with
    | none => exact fin l none m2 H2 h2 g R2 p2
    | some f =>
      refine PostE.mono (PostE.bind p2) ?_
      rintro v H3 ⟨m3, dv, h3, g3, R3, rv, p3⟩
      cases dv with
      | int i => exact ⟨i, rv.int_inv, fin l (some i) m3 H3 h3 (g.trans g3) R3 p3⟩
      | _ => exact False.elim p3
  refine ⟨m1, s, h1, R1, rs.grow g1, ?_⟩
  cases fl with
  | none => exact hi_ none m1 H1 h1 (Grow.refl _ _) R1 p1
  | some f =>
    refine PostE.mono (PostE.bind p1) ?_
    rintro v H2 ⟨m2, dv, h2, g2, R2, rv, p2⟩
    cases dv with
    | int i => exact ⟨i, rv.int_inv, hi_ (some i) m2 H2 h2 g2 R2 p2⟩
    | _ => exact False.elim p2

/-! ### fields -/
theorem lookupC {α : Type} (k : Str) (p : Str × α) (l : List (Str × α)) : (p :: l).lookup k = if k = p.1 then some p.2 else l.lookup k := by
  obtain ⟨q, v⟩ := p
  by_cases e : k = q
  · subst e; simp [List.lookup]
  · have : (k == q) = false := by simpa using e
    simp [List.lookup, this, e]
theorem RepF.look {K : PySem.W.Frag} {m : List Addr} {H : Hp} {k : Str} : ∀ {fv : List (Str × V)} {fs : List (Str × D)}, RepF K m H fv fs → (∀ d, fs.lookup k = some d → ∃ v, fv.lookup k = some v ∧ Rep K m H v d) ∧ (fs.lookup k = none → fv.lookup k = none)
  | _, _, .nil => ⟨fun d e => by simp at e, fun _ => rfl⟩
  | p :: fv, q :: fs, .cons r t => by
    obtain ⟨e1, r⟩ := r
    have ih := RepF.look (k := k) (fv := fv) (fs := fs) t
    rw [lookupC, lookupC, e1]
    by_cases e : k = q.1
    · rw [if_pos e, if_pos e]
      exact ⟨fun d z => ⟨p.2, rfl, by cases z; exact r⟩, fun z => by cases z⟩
    · rw [if_neg e, if_neg e]
      exact ih
def eFld (c f : Str) (fo : FE) : FE := fun s h => (fo s h).bind fun d h1 => match d with
  | .ref n => match h1[n]? with
    | some (.ins c' fs) => if c' = c then (match fs.lookup f with
      | some d => .ok d h1
      | none => .bad) else .bad
    | _ => .bad
  | _ => .bad
theorem se_fld {c f : Str} {C : Addr} (he : SE X W o fo) (gC : X.mg c = some (.ref C)) (cl : Cls X.K C) (na : NoAttr X.K C f) (hb : attributeBase o f X.env (eval o X.env) = eval o X.env := by rfl) : SE X W (.Attribute o f pos) (eFld c f fo) := by
  refine PE.imp (pe_fld he hb) fun σ H Q h => ?_
  obtain ⟨m, s, h, R0, rs, p⟩ := h
  refine ⟨m, s, h, R0, rs, PostE.mono (PostE.bind p) ?_⟩
  rintro x H1 ⟨m1, dx, h1, g1, R1, rx, p1⟩
  try dsimp only at p1
  split at p1
  · split at p1
    · rename_i n c' fs hn
      split at p1
      · rename_i hc
        subst hc
        split at p1
        · rename_i d hd
          obtain ⟨a, rfl, hm⟩ := rx.ref_inv
          obtain ⟨C', dx', fv, q0, q1, q2⟩ := R1.ob _ _ _ hm hn
          rw [gC] at q0
          cases q0
          obtain ⟨v, h3, h4⟩ := (RepF.look q2).1 _ hd
          exact ⟨a, C, dx', fv, v, rfl, q1, cl, na, h3, p1.val R1 h4⟩
        · exact False.elim p1
      · exact False.elim p1
    · exact False.elim p1
  · exact False.elim p1

/-! ### built-ins -/
def bLen (ds : List D) (h : Hm) : RD := match ds with
  | [.str z] => if z.length ≤ big then .ok (.int z.length) h else .bad
  | [d] => match items h d with
    | some xs => .ok (.int xs.length) h
    | none => .bad
  | _ => .bad
theorem cs_len : CallS X (fun xs H Q => ∃ x n, xs = [x] ∧ LenV X.K x H n ∧ Q (.int n) H) bLen := by
  intro W m H h vs ds Q r rv p
  unfold bLen at p
  split at p
  · split at p
    · rename_i hz
      cases rv with | cons r1 r2 => cases r2; cases r1; exact ⟨_, _, rfl, ⟨big_line hz, rfl⟩, p.val r (.int _)⟩
    · exact False.elim p
  · split at p
    · rename_i xs hi
      cases rv with
      | cons r1 r2 =>
        cases r2
        obtain ⟨q, ws, rfl, h1, l1⟩ := items_sq r r1 hi
        have e := l1.length
        rcases h1 with h1 | h1
        · exact ⟨_, xs.length, rfl, .inl ⟨ws, h1, e.symm⟩, p.val r (.int _)⟩
        · exact ⟨_, xs.length, rfl, .inr ⟨ws, h1, e.symm⟩, p.val r (.int _)⟩
    · exact False.elim p
  · exact False.elim p
def bInt (ds : List D) (h : Hm) : RD := match ds with
  | [.int i] => .ok (.int i) h
  | _ => .bad
theorem cs_int : CallS X (fun xs H Q => (∃ i, xs = [.int i] ∧ Q (.int i) H) ∨ ∃ k, xs = [.bl k] ∧ Q (.int (if k then 1 else 0)) H) bInt := by
  intro W m H h vs ds Q r rv p
  unfold bInt at p
  split at p
  · cases rv with | cons r1 r2 => cases r2; cases r1; exact .inl ⟨_, rfl, p.val r (.int _)⟩
  · exact False.elim p
def bList (ds : List D) (h : Hm) : RD := match ds with
  | [d] => match items h d with
    | some xs => .ok (.ref h.length) (h ++ [.lst xs])
    | none => .bad
  | _ => .bad
theorem cs_list : CallS X (fun xs H Q => ∃ p ys, xs = [.ref p] ∧ (SqL X.K H p ys ∨ SqT X.K H p ys) ∧ ∀ l, H l = none → Q (.ref l) (upd H l (.lst ys))) bList := by
  intro W m H h vs ds Q r rv p
  unfold bList at p
  split at p
  · split at p
    · rename_i xs hi
      cases rv with
      | cons r1 r2 =>
        cases r2
        obtain ⟨q, ws, rfl, h1, l1⟩ := items_sq r r1 hi
        exact ⟨q, ws, rfl, h1, PostE.lst p r l1⟩
    · exact False.elim p
  · exact False.elim p
def bTuple (ds : List D) (h : Hm) : RD := match ds with
  | [d] => match items h d with
    | some xs => .ok (.tup xs) h
    | none => .bad
  | _ => .bad
theorem cs_tuple : CallS X (fun xs H Q => ∃ p ys, xs = [.ref p] ∧ ((SqL X.K H p ys ∧ rTupF ys H Q) ∨ (SqT X.K H p ys ∧ Q (.ref p) H))) bTuple := by
  intro W m H h vs ds Q r rv p
  unfold bTuple at p
  split at p
  · rename_i d
    split at p
    · rename_i xs hi
      cases rv with
      | cons r1 r2 =>
        cases r2
        cases d with
        | tup es =>
          cases hi
          obtain ⟨q, ws, rfl, h1, l1⟩ := r1.tup_inv
          exact ⟨q, ws, rfl, .inr ⟨h1.sqT, p.val r (.tup h1 l1)⟩⟩
        | scl es =>
          cases hi
          obtain ⟨q, ws, rfl, h1, l1⟩ := r1.scl_inv
          exact ⟨q, ws, rfl, .inl ⟨h1.sqL, fun q o hq ho => PostE.tup p r l1 q o hq ho⟩⟩
        | ref k =>
          obtain ⟨a, rfl, hm⟩ := r1.ref_inv
          unfold items at hi
          simp only at hi
          split at hi
          · rename_i es hk
            cases hi
            obtain ⟨vs, q1, q2⟩ := ObjR.sqL (.inl (r.ob _ _ _ hm hk))
            exact ⟨a, vs, rfl, .inl ⟨q1, fun q o hq ho => PostE.tup p r q2 q o hq ho⟩⟩
          · rename_i es hk
            cases hi
            obtain ⟨vs, q1, q2⟩ := ObjR.sqL (.inr (r.ob _ _ _ hm hk))
            exact ⟨a, vs, rfl, .inl ⟨q1, fun q o hq ho => PostE.tup p r q2 q o hq ho⟩⟩
          · cases hi
        | _ => cases hi
    · exact False.elim p
  · exact False.elim p
def bls : List D → Option (List Bool)
  | [] => some []
  | .bl b :: r => (bls r).map (b :: ·)
  | _ => none
theorem bls_rep {K : PySem.W.Frag} {m : List Addr} {H : Hp} : ∀ {vs : List V} {ds : List D} {bs : List Bool}, RepL K m H vs ds → bls ds = some bs → vs = bs.map V.bl
  | _, _, bs, .nil, e => by cases e; rfl
  | _, _, bs, .cons (d := d) r t, e => by
    cases d with
    | bl b =>
      obtain ⟨bs', h1, rfl⟩ := Option.map_eq_some_iff.mp e
      rw [r.bl_inv, bls_rep t h1]
      rfl
    | _ => cases e
/-- all, any of a list of truth values -/
def bQuant (g : List Bool → Bool) (ds : List D) (h : Hm) : RD := match ds with
  | [.ref k] => match h[k]? with
    | some (.lst xs) => match bls xs with
      | some bs => .ok (.bl (g bs)) h
      | none => .bad
    | _ => .bad
  | _ => .bad
theorem cs_quant (g : List Bool → Bool) : CallS X (fun vs H Q => ∃ (a : Addr) (bs : List Bool), vs = [V.ref a] ∧ SqL X.K H a (bs.map V.bl) ∧ Q (.bl (g bs)) H) (bQuant g) := by
  intro W m H h vs ds Q r rv p
  unfold bQuant at p
  split at p
  · split at p
    · rename_i k xs hk
      split at p
      · rename_i bs hb
        cases rv with
        | cons r1 r2 =>
          cases r2
          obtain ⟨a, rfl, hm⟩ := r1.ref_inv
          obtain ⟨ws, q1, q2⟩ := r.ob _ _ _ hm hk
          exact ⟨a, bs, rfl, .inl (.inl (by rw [q1, bls_rep q2 hb])), p.val r (.bl _)⟩
      · exact False.elim p
    · exact False.elim p
  · exact False.elim p
abbrev bAll := bQuant fun bs => bs.all id
abbrev bAny := bQuant fun bs => bs.any id

/-! ### isinstance(x, T), T a built-in type -/
def tyN (h : Hm) : D → Option String
  | .non => some "NoneType"
  | .bl _ => some "bool"
  | .int _ => some "int"
  | .str _ => some "str"
  | .tup _ => some "tuple"
  | .ref n => match h[n]? with
    | some (.lst _) => some "list"
    | some (.scr _) => some "list"
    | some (.dk _) => some "dict"
    | _ => none
  | .scl _ => none
def isiB (T : String) (h : Hm) (d : D) : Option Bool := (tyN h d).bind fun a => kitB a T
def eIsi (T : String) (fo : FE) : FE := fun s h => (fo s h).bind fun d h1 => match isiB T h1 d with
  | some b => .ok (.bl b) h1
  | none => .bad
theorem tyN_ok {K : PySem.W.Frag} {mg : Str → Option Value} {m : List Addr} {H : Hp} {h : Hm} (r : R K mg m H h) {v : V} {d : D} {n : String} (x : Rep K m H v d) (e : tyN h d = some n) : TyX K H v (.type n) := by
  cases d with
  | non => cases e; cases x; exact .base .non
  | bl b => cases e; cases x; exact .base (.bl b)
  | int b => cases e; cases x; exact .base (.int b)
  | str b => cases e; cases x; exact .base (.str b)
  | tup ds =>
    cases e
    obtain ⟨a, vs, rfl, t, _⟩ := x.tup_inv
    rcases t with ⟨o, h1, _⟩ | ⟨o, its, n, h1, h2, _⟩
    · exact .fTuple h1
    · exact .kTuple h1 h2
  | scl ds => cases e
  | ref k =>
    obtain ⟨a, rfl, hm⟩ := x.ref_inv
    unfold tyN at e
    simp only at e
    split at e
    · rename_i ds hk
      cases e
      obtain ⟨vs, q1, q2⟩ := r.ob _ _ _ hm hk
      exact .base (.lst q1)
    · rename_i ds hk
      cases e
      obtain ⟨vs, q1, q2⟩ := r.ob _ _ _ hm hk
      rcases q1 with q1 | ⟨ob, q1⟩
      · exact .base (.lst q1)
      · exact .base (.frz q1)
    · rename_i ds hk
      cases e
      obtain ⟨vs, q1, q2⟩ := r.ob _ _ _ hm hk
      exact .base (.dK q1)
    · cases e
theorem se_isi {x T : Str} {t : String} {p p2 : Pos} (he : SE X W o fo) (hg : Gl X x) (hm : X.mg x = none) (hv : bootBuiltins x = some (.builtin "isinstance")) (hT : Gl X T) (hmT : X.mg T = none) (hvT : bootBuiltins T = some (.type t)) (hn : x ≠ "__name__" := by decide)
    (hdb : (x == ("__debug__" : Str)) = false := by decide) (hnT : T ≠ "__name__" := by decide) (hdbT : (T == ("__debug__" : Str)) = false := by decide)
    (hst : starEach (o :: [.Name T p2]) X.env = (false, eval o X.env) :: starEach [.Name T p2] X.env := by rfl) (hpl : (backTo pos (starEach [.Name T p2] X.env)).any (·.1) = false := by rfl) (hst2 : starEach [.Name T p2] X.env = (false, eval (.Name T p2) X.env) :: starEach [] X.env := by rfl) :
    SE X W (.Call (.Name x p) (o :: [.Name T p2]) [] pos) (eIsi t fo) := by
  refine PE.imp (pe_callB call_isi hg hm hv (pa_cons he (pa_cons (pe_bltn (v := .ty t) hT hmT hvT rfl hnT hdbT) pa_nil hst2) hst) hn hdb hst hpl) fun σ H Q h => ?_
  obtain ⟨m, s, h, R0, rs, p⟩ := h
  refine ⟨m, s, h, R0, rs, PostE.mono (PostE.bind p) ?_⟩
  rintro x H1 ⟨m1, dx, h1, g1, R1, rx, p1⟩
  try dsimp only at p1
  split at p1
  · rename_i b hb
    obtain ⟨n, h1, h2⟩ := Option.bind_eq_some_iff.mp hb
    exact ⟨x, .ty t, .type n, .type t, b, rfl, .ty t, tyN_ok R1 rx h1, kit_ty h2, p1.val R1 (.bl _)⟩
  · exact False.elim p1

/-! ### a list's own methods -/
def eLm (g : Nat → List D → List D → Hm → RD) (fo : FE) (fs : List FE) : FE := fun s h => (fo s h).bind fun d h1 => match d with
  | .ref n => match h1[n]? with
    | some (.lst _) => eArgs (fun ds h2 => match h2[n]? with
      | some (.lst xs) => g n xs ds h2
      | _ => .bad) fs s h1
    | _ => .bad
  | _ => .bad
/-- the method by values bears the one by data -/
def LmS (X : Cx) (r : V → List V → Hp → VK → Prop) (g : Nat → List D → List D → Hm → RD) : Prop := ∀ (W : XK) (m : List Addr) (H : Hp) (h : Hm) (n : Nat) (a : Addr) (xs : List D) (us vs : List V) (ds : List D) (Q : VK),
  R X.K X.mg m H h → m[n]? = some a → h[n]? = some (.lst xs) → H a = some (.lst us) → RepL X.K m H us xs → RepL X.K m H vs ds → PostE X.K X.mg W m H (g n xs ds h) Q → r (.ref a) vs H Q
variable {name : Str} {id : String} {r : V → List V → Hp → VK → Prop} {g : Nat → List D → List D → Hm → RD}
theorem lm_ok (hr : LmS X r g) {σ : L2.St} {H : Hp} {Q : VK} {to : TE} {t : TA} (ht : t = tSA X.K X.mg W (evalL fs)) (h : tS X.K X.mg W (eLm g fo fs) σ H Q) : tBM X.K "list" r (tS X.K X.mg W fo) t σ H Q := by
  subst ht
  obtain ⟨m, s, h, R0, rs, p⟩ := h
  refine ⟨m, s, h, R0, rs, PostE.mono (PostE.bind p) ?_⟩
  rintro x H1 ⟨m1, dx, h1, g1, R1, rx, p1⟩
  try dsimp only at p1
  split at p1
  · split at p1
    · rename_i n _ xs hk
      obtain ⟨a, rfl, hm⟩ := rx.ref_inv
      obtain ⟨us, q1, q2⟩ := R1.ob _ _ _ hm hk
      refine ⟨.inl ⟨rfl, us, .inl (.inl q1)⟩, ?_⟩
      refine args_ok' (r := fun xs H2 Q => r (.ref a) xs H2 Q) R1 (rs.grow g1) p1 fun m2 H2 vs ds h2 g2 R2 rvs ee p2 => ?_
      try dsimp only at p2
      split at p2
      · rename_i ys hk2
        have hm2 := g2.loc _ _ hm
        obtain ⟨us2, q3, q4⟩ := R2.ob _ _ _ hm2 hk2
        exact hr _ m2 H2 h2 n a ys us2 vs ds Q R2 hm2 hk2 q3 q4 rvs p2
      · exact False.elim p2
    · exact False.elim p1
  · exact False.elim p1
end
end Sh

set_option Elab.async false
set_option linter.all false
set_option maxRecDepth 100000
set_option maxHeartbeats 4000000
namespace Sh
open PySem L2 PyProof.Rows
section
variable {X : Cx} {W : WX} {e a b c o : Expr} {f fa fb fc fo : FE} {pos apos cpos : Pos} {es : List Expr} {fs : List FE} {name : Str} {id : String} {r : V → List V → Hp → VK → Prop} {g : Nat → List D → List D → Hm → RD}
theorem se_lm (pa : PlainAttrs "list") (slot : Slot "list" name id) (hty : typeOf (.builtin id) = pure (.type "method_descriptor")) (hm : MtR X id r) (hr : LmS X r g) (ho : SE X W o fo) (ha : SA X W (e :: es) (evalL fs))
    (hbase : attributeBase o name X.env (eval o X.env) = eval o X.env := by rfl)
    (hfew : ((backTo cpos (starEach (e :: es) X.env)).all (fun x => !x.1) && (backToKw cpos (keywordEach [] X.env)).all (fun x => x.1.isSome)
      && decide ((e :: es).length + ([] : List Keyword).length + (if ([] : List Keyword).isEmpty then 0 else 1) < 30)) = true := by rfl)
    (hline : (apos.endLine == cpos.line) = true := by rfl) (hs : starEach (e :: es) X.env = (false, eval e X.env) :: starEach es X.env := by rfl) (hplain : (backTo cpos (starEach es X.env)).any (·.1) = false := by rfl) :
    SE X W (.Call (.Attribute o name apos) (e :: es) [] cpos) (eLm g fo fs) :=
  PE.imp (pe_bm pa slot hty hm ho ha hbase hfew hline hs hplain) fun σ H Q h => lm_ok (to := tS X.K X.mg W fo) hr rfl h
theorem se_lm0 (pa : PlainAttrs "list") (slot : Slot "list" name id) (hty : typeOf (.builtin id) = pure (.type "method_descriptor")) (hm : MtR X id r) (hr : LmS X r g) (ho : SE X W o fo)
    (hbase : attributeBase o name X.env (eval o X.env) = eval o X.env := by rfl) (hline : (apos.endLine == cpos.line) = true := by rfl) : SE X W (.Call (.Attribute o name apos) [] [] cpos) (eLm g fo []) := by
  refine PE.imp (pe_bm0 pa slot hty hm ho hbase hline) fun σ H Q h => ?_
  obtain ⟨m, s, h, R0, rs, p⟩ := h
  refine ⟨m, s, h, R0, rs, PostE.mono (PostE.bind p) ?_⟩
  rintro x H1 ⟨m1, dx, h1, g1, R1, rx, p1⟩
  try dsimp only at p1
  split at p1
  · split at p1
    · rename_i n _ xs hk
      obtain ⟨a, rfl, hm⟩ := rx.ref_inv
      obtain ⟨us, q1, q2⟩ := R1.ob _ _ _ hm hk
      refine ⟨.inl ⟨rfl, us, .inl (.inl q1)⟩, ?_⟩
      simp only [eArgs, evalL, hk] at p1
      exact hr _ m1 H1 h1 n a xs us [] [] Q R1 hm hk q1 q2 .nil p1
    · exact False.elim p1
  · exact False.elim p1

/-! the methods -/
def lAppend (n : Nat) (xs ds : List D) (h : Hm) : RD := match ds with
  | [d] => if xs.length < big then .ok .non (h.set n (.lst (xs ++ [d]))) else .bad
  | _ => .bad
theorem big_lt {n : Nat} (h : n < big) : n < sizeLine := by
  rw [sizeLine_eq]
  unfold big at h
  omega
theorem R.lset {K : PySem.W.Frag} {mg : Str → Option Value} {m : List Addr} {H : Hp} {h : Hm} {n : Nat} {a : Addr} {xs ys : List D} {vs : List V} (r : R K mg m H h) (hm : m[n]? = some a) (hk : h[n]? = some (.lst xs)) (l : RepL K m H vs ys) :
    Grow m H m (upd H a (.lst vs)) ∧ R K mg m (upd H a (.lst vs)) (h.set n (.lst ys)) := by
  have xo := r.ob _ _ _ hm hk
  have g : Grow m H m (upd H a (.lst vs)) := Grow.set xo rfl
  exact ⟨g, r.set hm hk rfl ⟨vs, upd_same, l.grow g⟩⟩
theorem ls_append : LmS X rAppend lAppend := by
  intro W m H h n a xs us vs ds Q r hm hk hu l1 l2 p
  unfold lAppend at p
  split at p
  · split at p
    · rename_i d hz
      cases l2 with
      | cons rv rn =>
        cases rn
        obtain ⟨g, r2⟩ := r.lset hm hk (l1.app (.cons rv .nil))
        exact ⟨a, us, _, rfl, rfl, hu, big_lt (by rw [l1.length]; exact hz), p m _ _ g r2 .non⟩
    · exact False.elim p
  · exact False.elim p
def lExtend (n : Nat) (xs ds : List D) (h : Hm) : RD := match ds with
  | [.ref k] => match h[k]? with
    | some (.lst ys) => if xs.length + ys.length ≤ big then .ok .non (h.set n (.lst (xs ++ ys))) else .bad
    | _ => .bad
  | _ => .bad
theorem ls_extend : LmS X rExtend lExtend := by
  intro W m H h n a xs us vs ds Q r hm hk hu l1 l2 p
  unfold lExtend at p
  split at p
  · split at p
    · rename_i k _ ys hy
      split at p
      · rename_i hz
        cases l2 with
        | cons rv rn =>
          cases rn
          obtain ⟨b, rfl, hb⟩ := rv.ref_inv
          obtain ⟨ws, q1, q2⟩ := r.ob _ _ _ hb hy
          obtain ⟨g, r2⟩ := r.lset hm hk (l1.app q2)
          have e1 := l1.length
          have e2 := q2.length
          exact ⟨a, b, us, ws, rfl, rfl, hu, q1, big_line (by omega), p m _ _ g r2 .non⟩
      · exact False.elim p
    · exact False.elim p
  · exact False.elim p
def lPopAt (n : Nat) (xs ds : List D) (h : Hm) : RD := match ds with
  | [.int i] => if -(2 ^ 63) ≤ i ∧ i < 2 ^ 63 then (match seqIndex? i xs.length with
    | some k => match xs[k]? with
      | some d => .ok d (h.set n (.lst (xs.eraseIdx k)))
      | none => .bad
    | none => .bad) else .bad
  | _ => .bad
theorem ls_popAt : LmS X rPopAt lPopAt := by
  intro W m H h n a xs us vs ds Q r hm hk hu l1 l2 p
  unfold lPopAt at p
  split at p
  · split at p
    · rename_i i hz
      split at p
      · rename_i k hk2
        split at p
        · rename_i d hd
          cases l2 with
          | cons rv rn =>
            cases rn
            cases rv
            obtain ⟨v, h1, h2⟩ := l1.get hd
            obtain ⟨g, r2⟩ := r.lset hm hk (l1.eraseIdx k)
            exact ⟨a, us, i, k, v, rfl, rfl, hu, hz.1, hz.2, by rw [l1.length]; exact hk2, h1, p m _ _ g r2 (h2.grow g)⟩
        · exact False.elim p
      · exact False.elim p
    · exact False.elim p
  · exact False.elim p
def lClear (n : Nat) (xs ds : List D) (h : Hm) : RD := match ds with
  | [] => .ok .non (h.set n (.lst []))
  | _ => .bad
theorem ls_clear : LmS X rClear lClear := by
  intro W m H h n a xs us vs ds Q r hm hk hu l1 l2 p
  unfold lClear at p
  split at p
  · cases l2
    obtain ⟨g, r2⟩ := r.lset hm hk .nil
    exact ⟨a, us, rfl, rfl, hu, p m _ _ g r2 .non⟩
  · exact False.elim p

/-! ### a tuple's count -/
def eTm (g : List D → List D → Hm → RD) (fo : FE) (fs : List FE) : FE := fun s h => (fo s h).bind fun d h1 => match d with
  | .tup xs => eArgs (fun ds h2 => g xs ds h2) fs s h1
  | _ => .bad
def TmS (X : Cx) (r : V → List V → Hp → VK → Prop) (g : List D → List D → Hm → RD) : Prop := ∀ (W : XK) (m : List Addr) (H : Hp) (h : Hm) (a : Addr) (xs : List D) (us vs : List V) (ds : List D) (Q : VK),
  R X.K X.mg m H h → TupS X.K H a us → RepL X.K m H us xs → RepL X.K m H vs ds → PostE X.K X.mg W m H (g xs ds h) Q → r (.ref a) vs H Q
variable {gt : List D → List D → Hm → RD}
theorem se_tm (pa : PlainAttrs "tuple") (slot : Slot "tuple" name id) (hty : typeOf (.builtin id) = pure (.type "method_descriptor")) (hm : MtR X id r) (hr : TmS X r gt) (ho : SE X W o fo) (ha : SA X W (e :: es) (evalL fs))
    (hbase : attributeBase o name X.env (eval o X.env) = eval o X.env := by rfl)
    (hfew : ((backTo cpos (starEach (e :: es) X.env)).all (fun x => !x.1) && (backToKw cpos (keywordEach [] X.env)).all (fun x => x.1.isSome)
      && decide ((e :: es).length + ([] : List Keyword).length + (if ([] : List Keyword).isEmpty then 0 else 1) < 30)) = true := by rfl)
    (hline : (apos.endLine == cpos.line) = true := by rfl) (hs : starEach (e :: es) X.env = (false, eval e X.env) :: starEach es X.env := by rfl) (hplain : (backTo cpos (starEach es X.env)).any (·.1) = false := by rfl) :
    SE X W (.Call (.Attribute o name apos) (e :: es) [] cpos) (eTm gt fo fs) := by
  refine PE.imp (pe_tm pa slot hty hm ho ha hbase hfew hline hs hplain) fun σ H Q h => ?_
  obtain ⟨m, s, h, R0, rs, p⟩ := h
  refine ⟨m, s, h, R0, rs, PostE.mono (PostE.bind p) ?_⟩
  rintro x H1 ⟨m1, dx, h1, g1, R1, rx, p1⟩
  cases dx with
  | tup xs =>
    obtain ⟨a, us, rfl, t1, l1⟩ := rx.tup_inv
    refine ⟨⟨a, us, rfl, t1⟩, ?_⟩
    exact args_ok' (r := fun xs H2 Q => r (.ref a) xs H2 Q) R1 (rs.grow g1) p1 fun m2 H2 vs ds h2 g2 R2 rvs ee p2 => hr _ m2 H2 h2 a xs us vs ds Q R2 (g2.tupS t1) (l1.grow g2) rvs p2
  | _ => exact False.elim p1
def rCntT (K : PySem.W.Frag) : V → List V → Hp → VK → Prop := fun x vs H Q => ∃ (p : Addr) (ys : List V) (y : V) (ps : List PyData) (d : PyData), x = .ref p ∧ vs = [y] ∧ SqT K H p ys ∧ DpAll K H ys ps ∧ Dp K H y d ∧
  PyData.plainAll ps = true ∧ d.plain = true ∧ PyData.depthAll ps ≤ 60 ∧ Q (.int ((ps.countP fun z => PyData.eqv z d : Nat) : Int)) H
theorem mt_tcount (hu : X.A.units + 64 < cLine) : MtR X "tuple.count" (rCntT X.K) := by
  intro pins s σ H x xs v us Q I rx rxs h
  obtain ⟨p, ys, y, ps, d, rfl, rfl, ht, hp, hd, h1, h2, h3, q⟩ := h
  cases rx
  obtain ⟨u, rfl, ru⟩ := rxs.one
  obtain ⟨its, rv, pl, hz⟩ := I.tuple ht
  obtain ⟨as, r1⟩ := Dp.readsAll I ps _ its hp rv
  obtain ⟨bs, r2⟩ := Dp.reads I d y u hd ru
  exact SeqAt.count_tuple_data (show s.heap.IsTuple p its.toArray from pl) (show ReadsAll s.heap its.toArray.toList ps as from r1) r2 h1 h2 (by have := Nat.min_le_left (PyData.depthAll ps) d.depth; omega) ⟨.int _, H, I.tok _, ⟨_, rfl⟩, q⟩
/-- flat things as the library has them -/
def flatP : D → PyData
  | .bl b => .bool b | .int i => .int i | .str x => .str x
  | _ => .none
theorem flat_dp {K : PySem.W.Frag} {m : List Addr} {H : Hp} {x : V} {d : D} (r : Rep K m H x d) (f : flatD d = true) : Dp K H x (flatP d) := by
  cases r <;> first | exact .non | exact .bl _ | exact .int _ | exact .str _ | cases f
theorem flat_dpL {K : PySem.W.Frag} {m : List Addr} {H : Hp} : ∀ {vs : List V} {ds : List D}, RepL K m H vs ds → ds.all flatD = true → DpAll K H vs (ds.map flatP)
  | _, _, .nil, _ => .nil
  | _, _, .cons r t, f => by
    rw [List.all_cons, Bool.and_eq_true] at f
    exact .cons (flat_dp r f.1) (flat_dpL t f.2)
theorem flat_plain : ∀ d : D, (flatP d).plain = true := by intro d; cases d <;> rfl
theorem flat_plainAll : ∀ ds : List D, PyData.plainAll (ds.map flatP) = true
  | [] => rfl
  | d :: ds => by
    rw [List.map_cons]
    show ((flatP d).plain && PyData.plainAll (ds.map flatP)) = true
    rw [flat_plain, flat_plainAll ds]
    rfl
theorem flat_depth : ∀ d : D, (flatP d).depth = 0 := by intro d; cases d <;> rfl
theorem flat_depthAll : ∀ ds : List D, PyData.depthAll (ds.map flatP) ≤ 60
  | [] => by simp [PyData.depthAll]
  | d :: ds => by
    have ih := flat_depthAll ds
    have e := flat_depth d
    rw [List.map_cons]
    simp only [PyData.depthAll]
    omega
theorem flat_eqv {a b : D} (ha : flatD a = true) (hb : flatD b = true) : PyData.eqv (flatP a) (flatP b) = eqF a b := by
  cases a <;> cases b <;> first
    | rfl
    | (cases ha; done)
    | (cases hb; done)
    | (rename_i x y; cases x <;> cases y <;> rfl)
    | (rename_i x y; cases x <;> rfl)
    | (rename_i x y; cases y <;> rfl)
def tCount (xs ds : List D) (h : Hm) : RD := match ds with
  | [d] => if flatD d = true ∧ xs.all flatD = true then .ok (.int ((xs.countP fun z => eqF z d : Nat) : Int)) h else .bad
  | _ => .bad
theorem ts_count : TmS X (rCntT X.K) tCount := by
  intro W m H h a xs us vs ds Q r ht l1 l2 p
  unfold tCount at p
  split at p
  · split at p
    · rename_i d hf
      cases l2 with
      | cons rv rn =>
        cases rn
        refine ⟨a, us, _, xs.map flatP, flatP d, rfl, rfl, ht.sqT, flat_dpL l1 hf.2, flat_dp rv hf.1, flat_plainAll _, flat_plain _, flat_depthAll _, ?_⟩
        have e : (xs.map flatP).countP (fun z => PyData.eqv z (flatP d)) = xs.countP fun z => eqF z d := by
          rw [List.countP_map]
          refine List.countP_congr fun z hz => ?_
          have hz' := List.all_eq_true.mp hf.2 z hz
          simp only [Function.comp]
          rw [flat_eqv hz' hf.1]
        rw [e]
        exact p.val r (.int _)
    · exact False.elim p
  · exact False.elim p

/-! ### list(range(..)) -/
def rgD (a b : Int) : List D := (List.range (b - a).toNat).map fun i => D.int (a + (i : Nat))
theorem rg_rep {K : PySem.W.Frag} {m : List Addr} {H : Hp} (a b : Int) : RepL K m H (rgV a b) (rgD a b) := by
  unfold rgV rgD
  generalize List.range (b - a).toNat = l
  induction l with
  | nil => exact .nil
  | cons i l ih => exact .cons (.int _) ih
def bListRg (d : D) (h : Hm) : RD := match d with
  | .int n => if n ≤ 1000000 ∧ -1000000 ≤ n then .ok (.ref h.length) (h ++ [.lst (rgD 0 n)]) else .bad
  | _ => .bad
def eListRg (fo : FE) : FE := fun s h => (fo s h).bind bListRg
theorem se_listRg {p p2 pos2 : Pos} (hc : X.calm = true) (hg : Gl X "list") (hm : X.mg "list" = none) (hg2 : Gl X "range") (hm2 : X.mg "range" = none) (ho : SE X W o fo)
    (na : starEach [o] X.env = (false, eval o X.env) :: starEach [] X.env := by rfl) (na2 : starEach [.Call (.Name "range" p2) [o] [] pos2] X.env = (false, eval (.Call (.Name "range" p2) [o] [] pos2) X.env) :: starEach [] X.env := by rfl) :
    SE X W (.Call (.Name "list" p) [.Call (.Name "range" p2) [o] [] pos2] [] pos) (eListRg fo) := by
  refine PE.imp (pe_listRg hc hg hm (prg_1 hg2 hm2 ho na) na2) fun σ H Q h => ?_
  obtain ⟨m, s, h, R0, rs, p⟩ := h
  refine ⟨m, s, h, R0, rs, PostE.mono (PostE.bind p) ?_⟩
  rintro x H1 ⟨m1, dx, h1, g1, R1, rx, p1⟩
  unfold bListRg at p1
  split at p1
  · split at p1
    · rename_i n hn
      cases rx
      exact ⟨n, rfl, ⟨by omega, by omega, by omega, by omega, by omega⟩, PostE.lst p1 R1 (rg_rep 0 n)⟩
    · exact False.elim p1
  · exact False.elim p1

/-! ### own methods, instances -/
variable {k n : Nat} {fA C : Addr} {fd : FuncData} {ps : List Str} {F : FF} {mn : Str}
def tMethS (C : Addr) (m : Str) (sp : Sp) (E : L2.St → XK) (ta : TE) (t : TA) : TE := fun σ H Q => ta σ H fun x H1 => ∃ a dx fs, x = .ref a ∧ H1 a = some (.ins C dx fs) ∧ fs.lookup m = none ∧ t σ H1 fun vs H2 => sp (x :: vs) H2 Q (E σ)
theorem pe_methS {CX : CXT} {sp : Sp} {E : L2.St → XK} {ta : TE} {t : TA} {pl : Sem Bool} (he : PE X o ta) (c : Cls X.K C) (hm : Meth X.K C mn fA) (F : FnOk X.prog X.w X.K X.mg X.base CX k fA fd ps sp) (hr : Room k X.A) (hb : Binds X.K fd ps []) (hx : ∀ σ, PassesAt CX X σ (E σ)) (ha : PA X (e :: es) t)
    (hst : starEach (e :: es) X.env = (false, eval e X.env) :: starEach es X.env := by rfl) (hpl : (backTo pos (starEach es X.env)).any (·.1) = false := by rfl)
    (ht : eval (.Call (.Attribute o mn apos) (e :: es) [] pos) X.env = (do
      let ov ← eval o X.env
      standAt apos.atName
      let (f, first) ← holding [ov] (getMethod ov mn pl)
      callWith pos f first (backTo pos (starEach (e :: es) X.env)) (backToKw pos (keywordEach [] X.env))) := by rfl) :
    PE X (.Call (.Attribute o mn apos) (e :: es) [] pos) (tMethS C mn sp E ta t) := by
  refine ⟨fun pins s σ H Q I h => ?_⟩
  refine PySem.W.methodCall_KW (pl := pl) (thn (he.run pins s σ H _ I h) fun u s1 ⟨x, H1, I1, rx, a, dx, fs, ex, ea, l, q⟩ => ?_) ht
  subst ex
  obtain rfl : u = Value.ref a := rx
  refine getmeth_ok I1 ea c hm l ?_
  refine PySem.W.callWith_K (first := [.ref a]) (h₀ := X.base) I.ok.mod.kin hm.kp (thn (ha.run pos pins s1 σ H1 _ I1 q) fun us s2 ⟨vs, H2, I2, r, q2⟩ => ⟨I2.kIn, ?_⟩) hst hpl
  exact run_fnS (us := .ref a :: us) (vs := .ref a :: vs) F hr hb (hx σ) I2 (.cons rfl r) q2
theorem pe_methS0 {CX : CXT} {sp : Sp} {E : L2.St → XK} {ta : TE} {pl : Sem Bool} (he : PE X o ta) (c : Cls X.K C) (hm : Meth X.K C mn fA) (F : FnOk X.prog X.w X.K X.mg X.base CX k fA fd ps sp) (hr : Room k X.A) (hb : Binds X.K fd ps []) (hx : ∀ σ, PassesAt CX X σ (E σ))
    (ht : eval (.Call (.Attribute o mn apos) [] [] pos) X.env = (do
      let ov ← eval o X.env
      standAt apos.atName
      let (f, first) ← holding [ov] (getMethod ov mn pl)
      callWith pos f first (backTo pos (starEach [] X.env)) (backToKw pos (keywordEach [] X.env))) := by rfl) :
    PE X (.Call (.Attribute o mn apos) [] [] pos) (tMethS C mn sp E ta tNil) := by
  refine ⟨fun pins s σ H Q I h => ?_⟩
  refine PySem.W.methodCall_KW (pl := pl) (thn (he.run pins s σ H _ I h) fun u s1 ⟨x, H1, I1, rx, a, dx, fs, ex, ea, l, q⟩ => ?_) ht
  subst ex
  obtain rfl : u = Value.ref a := rx
  refine getmeth_ok I1 ea c hm l ?_
  exact PySem.W.callWith_K0 (first := [.ref a]) I1.kIn hm.kp (run_fnS (us := [.ref a]) (vs := [.ref a]) F hr hb (hx σ) I1 (.cons rfl .nil) q)
def eMeth (c mn : Str) (F : FF) (fo : FE) (fs : List FE) : FE := fun s h => (fo s h).bind fun d h1 => match d with
  | .ref n => match h1[n]? with
    | some (.ins c' fl) => if c' = c ∧ fl.lookup mn = none then eArgs (fun ds h2 => F (.ref n :: ds) h2) fs s h1 else .bad
    | _ => .bad
  | _ => .bad
theorem meth_ok {cn : Str} (gC : X.mg cn = some (.ref C)) (hl : fs.length + 1 = ps.length) {σ : L2.St} {H : Hp} {Q : VK} {t : TA} (ht : t = tSA X.K X.mg W (evalL fs)) (h : tS X.K X.mg W (eMeth cn mn F fo fs) σ H Q) : tMethS C mn (spF X.K X.mg ps.length F) (WE W) (tS X.K X.mg W fo) t σ H Q := by
  subst ht
  obtain ⟨m, s, h, R0, rs, p⟩ := h
  refine ⟨m, s, h, R0, rs, PostE.mono (PostE.bind p) ?_⟩
  rintro x H1 ⟨m1, dx, h1, g1, R1, rx, p1⟩
  try dsimp only at p1
  split at p1
  · split at p1
    · rename_i n _ c' fl hk
      split at p1
      · rename_i hc
        obtain ⟨hc, hl2⟩ := hc
        subst hc
        obtain ⟨a, rfl, hm⟩ := rx.ref_inv
        obtain ⟨C', dx', fv, q0, q1, q2⟩ := R1.ob _ _ _ hm hk
        rw [gC] at q0
        cases q0
        refine ⟨a, dx', fv, rfl, q1, (RepF.look q2).2 hl2, ?_⟩
        refine args_ok' (r := fun vs H2 Q => spF X.K X.mg ps.length F (.ref a :: vs) H2 Q (WE W σ)) R1 (rs.grow g1) p1 fun m2 H2 vs ds h2 g2 R2 rvs ee p2 => ?_
        refine ⟨?_, m2, .ref n :: ds, h2, R2, .cons (.ref (g2.loc _ _ hm)) rvs, p2⟩
        rw [List.length_cons, rvs.length, evalL_length ee]
        exact hl
      · exact False.elim p1
    · exact False.elim p1
  · exact False.elim p1
theorem se_meth {cn : Str} {pl : Sem Bool} (G : FnS X k fA fd ps F) (tk : Takes X W) (hr : Room k X.A) (gC : X.mg cn = some (.ref C)) (cl : Cls X.K C) (hm : Meth X.K C mn fA) (hb : Binds X.K fd ps []) (ho : SE X W o fo) (ha : SA X W (e :: es) (evalL fs)) (hl : decide (fs.length + 1 = ps.length) = true := by rfl)
    (hst : starEach (e :: es) X.env = (false, eval e X.env) :: starEach es X.env := by rfl) (hpl : (backTo pos (starEach es X.env)).any (·.1) = false := by rfl)
    (ht : eval (.Call (.Attribute o mn apos) (e :: es) [] pos) X.env = (do
      let ov ← eval o X.env
      standAt apos.atName
      let (f, first) ← holding [ov] (getMethod ov mn pl)
      callWith pos f first (backTo pos (starEach (e :: es) X.env)) (backToKw pos (keywordEach [] X.env))) := by rfl) : SE X W (.Call (.Attribute o mn apos) (e :: es) [] pos) (eMeth cn mn F fo fs) :=
  PE.imp (pe_methS ho cl hm G hr hb (fun σ => passAt tk σ) ha hst hpl ht) fun σ H Q h => meth_ok gC (of_decide_eq_true hl) rfl h
theorem se_meth0 {cn : Str} {pl : Sem Bool} (G : FnS X k fA fd ps F) (tk : Takes X W) (hr : Room k X.A) (gC : X.mg cn = some (.ref C)) (cl : Cls X.K C) (hm : Meth X.K C mn fA) (hb : Binds X.K fd ps []) (ho : SE X W o fo) (hl : decide (1 = ps.length) = true := by rfl)
    (ht : eval (.Call (.Attribute o mn apos) [] [] pos) X.env = (do
      let ov ← eval o X.env
      standAt apos.atName
      let (f, first) ← holding [ov] (getMethod ov mn pl)
      callWith pos f first (backTo pos (starEach [] X.env)) (backToKw pos (keywordEach [] X.env))) := by rfl) : SE X W (.Call (.Attribute o mn apos) [] [] pos) (eMeth cn mn F fo []) := by
  refine PE.imp (pe_methS0 ho cl hm G hr hb (fun σ => passAt tk σ) ht) fun σ H Q h => ?_
  obtain ⟨m, s, h, R0, rs, p⟩ := h
  refine ⟨m, s, h, R0, rs, PostE.mono (PostE.bind p) ?_⟩
  rintro x H1 ⟨m1, dx, h1, g1, R1, rx, p1⟩
  try dsimp only at p1
  split at p1
  · split at p1
    · rename_i n _ c' fl hk
      split at p1
      · rename_i hc
        obtain ⟨hc, hl2⟩ := hc
        subst hc
        obtain ⟨a, rfl, hm⟩ := rx.ref_inv
        obtain ⟨C', dx', fv, q0, q1, q2⟩ := R1.ob _ _ _ hm hk
        rw [gC] at q0
        cases q0
        exact ⟨a, dx', fv, rfl, q1, (RepF.look q2).2 hl2, of_decide_eq_true hl, m1, [.ref n], h1, R1, .cons (.ref hm) .nil, p1⟩
      · exact False.elim p1
    · exact False.elim p1
  · exact False.elim p1
/-- self.f = e -/
def gFld (c f : Str) (fo fe : FE) : FS := fun s h => match fe s h with
  | .ok y h1 => (match fo s h1 with
    | .ok (.ref n) h2 => match h2[n]? with
      | some (.ins c' fl) => if c' = c ∧ fl.length < 900 ∧ fl.lookup f = none then .nx s (h2.set n (.ins c (fl ++ [(f, y)]))) else .bad
      | _ => .bad
    | .ok _ _ => .bad
    | .exc x fs h2 => .exc x fs s h2
    | .bad => .bad)
  | .exc x fs h2 => .exc x fs s h2
  | .bad => .bad
end
end Sh

set_option Elab.async false
set_option linter.all false
set_option maxRecDepth 100000
set_option maxHeartbeats 4000000
namespace Sh
open PySem L2 PyProof.Rows
/-! ### results of expressions in statements -/
def RD.st (r : RD) (s : DS) (k : D → Hm → RT) : RT := match r with
  | .ok d h => k d h
  | .exc c fs h => .exc c fs s h
  | .bad => .bad
@[simp] theorem RD.st_ok (d : D) (h : Hm) (s : DS) (k : D → Hm → RT) : (RD.ok d h).st s k = k d h := rfl
@[simp] theorem RD.st_exc (c fs) (h : Hm) (s : DS) (k : D → Hm → RT) : (RD.exc c fs h).st s k = .exc c fs s h := rfl
@[simp] theorem RD.st_bad (s : DS) (k : D → Hm → RT) : RD.bad.st s k = .bad := rfl
section
variable {K : PySem.W.Frag} {mg : Str → Option Value} {W : WX} {m m1 : List Addr} {H H1 : Hp} {r : RD}
theorem PostS.ofE {s : DS} {σ : L2.St} {k : D → Hm → RT} {E : Ends} (rs : RS K m H σ s) (p : PostS K mg W m H (r.st s k) E) :
    PostE K mg (fun c d H' => W c d σ H') m H r (Got K mg m H fun m' H' d h' => PostS K mg W m' H' (k d h') E) := by
  cases r with
  | ok d h => exact fun m' H' v g' r' rep => ⟨m', d, h, g', r', rep, PostS.grow p g'⟩
  | exc c fs h => exact fun m' H' cls dx g r' x => p m' H' σ cls dx g r' (rs.grow g) x
  | bad => exact p
end
def gSeq (a b : FS) : FS := fun s h => match a s h with
  | .nx s' h' => b s' h'
  | r => r
def gNext : FS := fun s h => .nx s h
def gDrop (f : FE) : FS := fun s h => (f s h).st s fun _ h1 => .nx s h1
def gRet (f : FE) : FS := fun s h => (f s h).st s fun d h1 => .rt d h1
def gRetN : FS := fun _ h => .rt .non h
def gSet (i : Nat) (f : FE) : FS := fun s h => (f s h).st s fun d h1 => .nx (s.set i (some d)) h1
def gIf (c : FE) (a b : FS) : FS := fun s h => (c s h).st s fun d h1 => match d with
  | .bl true => a s h1
  | .bl false => b s h1
  | _ => .bad
def gBad : FS := fun _ _ => .bad
def gCont : FS := fun s h => .ct s h
def gBreak : FS := fun s h => .bk s h
section
variable {X : Cx} {W : WX} {e a b c o : Expr} {f fa fb fc fo : FE} {pos apos cpos : Pos} {st : Stmt} {sts rest : List Stmt} {g g1 g2 : FS}
theorem sss_nil : SSs X W [] gNext := PSs.imp pss_nil fun D σ H ⟨m, s, h, R0, rs, p⟩ => p m H σ (Grow.refl _ _) R0 rs
theorem sss_cons (h1 : SS X W st g1) (h2 : SSs X W rest g2) : SSs X W (st :: rest) (gSeq g1 g2) := by
  refine PSs.imp (pss_cons h1 h2) fun D σ H h => ?_
  obtain ⟨m, s, h, R0, rs, p⟩ := h
  refine ⟨m, s, h, R0, rs, ?_⟩
  unfold gSeq at p
  generalize g1 s h = r at p
  cases r with
  | nx s1 h1 => exact fun m' H' σ' g r' rs' => ⟨m', s1, h1, r', rs', PostS.grow p g⟩
  | bk s h => exact p
  | ct s h => exact p
  | rt d h => exact p
  | exc c fs s h => exact p
  | bad => exact p
theorem sss_one (h1 : SS X W st g1) : SSs X W [st] g1 := pss_one h1
theorem ss_pass : SS X W (.Pass pos) gNext := PS.imp ps_pass fun D σ H ⟨m, s, h, R0, rs, p⟩ => p m H σ (Grow.refl _ _) R0 rs
theorem ss_cont : SS X W (.Continue pos) gCont := PS.imp ps_continue fun D σ H ⟨m, s, h, R0, rs, p⟩ => p m H σ (Grow.refl _ _) R0 rs
theorem ss_break : SS X W (.Break pos) gBreak := PS.imp ps_break fun D σ H ⟨m, s, h, R0, rs, p⟩ => p m H σ (Grow.refl _ _) R0 rs
theorem ss_bad : SS X W st gBad := PS.imp ps_never fun D σ H ⟨m, s, h, R0, rs, p⟩ => p
theorem ss_expr (he : SE X W e f) (hs : swapsWith e none pos.line X.env = pure false := by rfl) : SS X W (.Expr e pos) (gDrop f) := by
  refine PS.imp (ps_expr he hs) fun D σ H h => ?_
  obtain ⟨m, s, h, R0, rs, p⟩ := h
  refine ⟨m, s, h, R0, rs, PostE.mono (PostS.ofE rs p) ?_⟩
  rintro x H1 ⟨m1, dx, h1, g1, R1, rx, p1⟩
  exact p1 m1 H1 σ (Grow.refl _ _) R1 (rs.grow g1)
theorem ss_ret (he : SE X W e f) : SS X W (.Return (some e) pos) (gRet f) := by
  refine PS.imp (ps_ret he) fun D σ H h => ?_
  obtain ⟨m, s, h, R0, rs, p⟩ := h
  refine ⟨m, s, h, R0, rs, PostE.mono (PostS.ofE rs p) ?_⟩
  rintro x H1 ⟨m1, dx, h1, g1, R1, rx, p1⟩
  exact p1 m1 H1 x (Grow.refl _ _) R1 rx
theorem ss_retN : SS X W (.Return none pos) gRetN := PS.imp ps_retN fun D σ H ⟨m, s, h, R0, rs, p⟩ => p m H .non (Grow.refl _ _) R0 .non
theorem ss_set {i : Nat} {x : Str} {pos' : Pos} (hN : X.N.Nodup) (hi : X.N[i]? = some x) (hx : Loc X.env.scope x) (he : SE X W e f) (hs : swapsWith e (some (.Name x pos')) pos.line X.env = pure false := by rfl) (hf : X.fn x = true ∨ X.env.scope.names.lookup x = some .local := by first | exact .inl rfl | exact .inr rfl) :
    SS X W (.Assign [.Name x pos'] e pos) (gSet i f) := by
  refine PS.imp (ps_set hN hi hx he hs hf) fun D σ H h => ?_
  obtain ⟨m, s, h, R0, rs, p⟩ := h
  refine ⟨m, s, h, R0, rs, PostE.mono (PostS.ofE rs p) ?_⟩
  rintro x H1 ⟨m1, dx, h1, g1, R1, rx, p1⟩
  exact p1 m1 H1 _ (Grow.refl _ _) R1 ((rs.grow g1).set i rx)
theorem ss_if {c : Expr} {a b : List Stmt} {fc : FE} (hc : ST X W c fc) (ha : SSs X W a g1) (hb : SSs X W b g2) : SS X W (.If c a b pos) (gIf fc g1 g2) := by
  refine PS.imp (ps_if hc ha hb) fun D σ H h => ?_
  obtain ⟨m, s, h, R0, rs, p⟩ := h
  refine ⟨m, s, h, R0, rs, ?_⟩
  unfold gIf at p
  generalize fc s h = r at p
  cases r with
  | ok d h1 =>
    cases d with
    | bl c =>
      intro m' H' g r'
      cases c with
      | true => exact iteT ⟨m', s, h1, r', rs.grow g, PostS.grow p g⟩
      | false => exact iteF ⟨m', s, h1, r', rs.grow g, PostS.grow p g⟩
    | _ => exact p
  | exc c fs h1 => exact fun m' H' cls dx g r' x => p m' H' σ cls dx g r' (rs.grow g) x
  | bad => exact p
/-- self.f = e -/
def putD (f : Str) (y : D) : List (Str × D) → List (Str × D)
  | [] => [(f, y)]
  | (k, v) :: r => if k = f then (k, y) :: r else (k, v) :: putD f y r
theorem putD_rep {K : PySem.W.Frag} {m : List Addr} {H : Hp} {f : Str} {y : V} {d : D} (r : Rep K m H y d) : ∀ {fv : List (Str × V)} {fs : List (Str × D)}, RepF K m H fv fs → RepF K m H (putF f y fv) (putD f d fs)
  | _, _, .nil => .cons ⟨rfl, r⟩ .nil
  | (k, v) :: fv, (k', d') :: fs, .cons q t => by
    obtain ⟨e1, q⟩ := q
    simp only at e1
    subst e1
    show RepF K m H (if k = f then (k, y) :: fv else (k, v) :: putF f y fv) (if k = f then (k, d) :: fs else (k, d') :: putD f d fs)
    by_cases e : k = f
    · rw [if_pos e, if_pos e]
      exact .cons ⟨rfl, r⟩ t
    · rw [if_neg e, if_neg e]
      exact .cons ⟨rfl, q⟩ (putD_rep r t)
def gPut (c f : Str) (fo fe : FE) : FS := fun s h => (fe s h).st s fun y h1 => (fo s h1).st s fun d h2 => match d with
  | .ref n => match h2[n]? with
    | some (.ins c' fl) => if c' = c ∧ fl.length < 900 then .nx s (h2.set n (.ins c (putD f y fl))) else .bad
    | _ => .bad
  | _ => .bad
theorem RepF.len {K : PySem.W.Frag} {m : List Addr} {H : Hp} {fv : List (Str × V)} {fs : List (Str × D)} (r : RepF K m H fv fs) : fv.length = fs.length := Paired.length r
theorem ss_put {cn f : Str} {C : Addr} {pos' : Pos} (gC : X.mg cn = some (.ref C)) (cl : Cls X.K C) (na : NoAttr X.K C f) (ho : SE X W o fo) (he : SE X W e fa) (hs : swapsWith e (some (.Attribute o f pos')) pos.line X.env = pure false := by rfl) :
    SS X W (.Assign [.Attribute o f pos'] e pos) (gPut cn f fo fa) := by
  refine PS.imp (ps_fld ho he hs) fun D σ H h => ?_
  obtain ⟨m, s, h, R0, rs, p⟩ := h
  refine ⟨m, s, h, R0, rs, PostE.mono (PostS.ofE rs p) ?_⟩
  rintro y H1 ⟨m1, dy, h1, g1, R1, ry, p1⟩
  refine ⟨m1, s, h1, R1, rs.grow g1, PostE.mono (PostS.ofE (rs.grow g1) p1) ?_⟩
  rintro x H2 ⟨m2, dx, h2, g2, R2, rx, p2⟩
  try dsimp only at p2
  split at p2
  · split at p2
    · rename_i n _ c' fl hk
      split at p2
      · rename_i hc
        obtain ⟨hc, hl⟩ := hc
        subst hc
        obtain ⟨a, rfl, hm⟩ := rx.ref_inv
        have xo := R2.ob _ _ _ hm hk
        obtain ⟨C', dx', fv, q0, q1, q2⟩ := id xo
        rw [gC] at q0
        cases q0
        refine ⟨a, C, dx', fv, rfl, q1, cl, na, by rw [q2.len]; omega, ?_⟩
        have g3 : Grow m2 H2 m2 (upd H2 a (.ins C dx' (putF f y fv))) := Grow.set xo rfl
        exact p2 m2 _ σ g3 (R2.set hm hk rfl ⟨C, dx', putF f y fv, gC, upd_same, putD_rep ((ry.grow g2).grow g3) (q2.grow g3)⟩) ((rs.grow (g1.trans g2)).grow g3)
      · exact False.elim p2
    · exact False.elim p2
  · exact False.elim p2

/-! ### targets -/
/-- as Rep, or a tuple whose object is not known (the pairs of enumerate) -/
def RepQ (wk : Bool) (K : PySem.W.Frag) (m : List Addr) (H : Hp) (v : V) (d : D) : Prop := Rep K m H v d ∨ (wk = true ∧ ∃ a vs ds, v = .ref a ∧ SqT K H a vs ∧ RepL K m H vs ds ∧ d = .tup ds)
abbrev GT := D → DS → Hm → RT
/-- behind a store: the slots at vs alone may have changed -/
def PostG (K : PySem.W.Frag) (mg : Str → Option Value) (vs : List Nat) (σ : L2.St) (m : List Addr) (H : Hp) (r : RT) (Q : L2.St → Hp → Prop) : Prop := match r with
  | .nx s' h' => ∀ m' H' σ', Grow m H m' H' → R K mg m' H' h' → RS K m' H' σ' s' → (∀ l, (∀ i ∈ vs, i ∈ l) → wipe σ' l = wipe σ l) → Q σ' H'
  | _ => False
def tSG (K : PySem.W.Frag) (mg : Str → Option Value) (wk : Bool) (vs : List Nat) (gt : GT) : TG := fun v σ H Q => ∃ m s h d, R K mg m H h ∧ RS K m H σ s ∧ RepQ wk K m H v d ∧ PostG K mg vs σ m H (gt d s h) Q
def SG (X : Cx) (wk : Bool) (tg : Expr) (vs : List Nat) (gt : GT) : Prop := PG X tg (tSG X.K X.mg wk vs gt)
def gAll : List GT → List D → DS → Hm → RT
  | [], [], s, h => .nx s h
  | g :: gs, d :: ds, s, h => match g d s h with
    | .nx s' h' => gAll gs ds s' h'
    | _ => .bad
  | _, _, _, _ => .bad
def tSGs (K : PySem.W.Frag) (mg : Str → Option Value) (vs : List Nat) (gts : List GT) : TGs := fun xs σ H Q => ∃ m s h ds, R K mg m H h ∧ RS K m H σ s ∧ RepL K m H xs ds ∧ PostG K mg vs σ m H (gAll gts ds s h) Q
def SGs (X : Cx) (tgs : List Expr) (vs : List Nat) (gts : List GT) : Prop := PGs X tgs (tSGs X.K X.mg vs gts)
theorem PG.imp {X : Cx} {e : Expr} {t t' : TG} (h : PG X e t) (k : ∀ v σ H Q, t' v σ H Q → t v σ H Q) : PG X e t' := ⟨fun pins s σ H v u Q I r q => h.run pins s σ H v u Q I r (k _ _ _ _ q)⟩
theorem PGs.imp {X : Cx} {e : List Expr} {t t' : TGs} (h : PGs X e t) (k : ∀ v σ H Q, t' v σ H Q → t v σ H Q) : PGs X e t' := ⟨fun pins s σ H v u Q I r q => h.run pins s σ H v u Q I r (k _ _ _ _ q)⟩
theorem wipe_get {σ : L2.St} : ∀ {l : List Nat} {j : Nat}, (wipe σ l)[j]? = if j ∈ l then (if j < σ.length then some none else none) else σ[j]?
  | [], j => by simp [wipe]
  | v :: l, j => by
    unfold wipe
    by_cases e : v = j
    · subst e
      rw [if_pos List.mem_cons_self]
      by_cases hl : v < σ.length
      · rw [if_pos hl, List.getElem?_set_self (by rw [wipe_length]; exact hl)]
      · rw [if_neg hl, List.getElem?_eq_none (by rw [List.length_set, wipe_length]; omega)]
    · rw [List.getElem?_set_ne e, wipe_get]
      by_cases hj : j ∈ l
      · rw [if_pos hj, if_pos (List.mem_cons_of_mem _ hj)]
      · rw [if_neg hj, if_neg (by simp only [List.mem_cons, not_or]; exact ⟨fun z => e z.symm, hj⟩)]
theorem wipe_set {σ : L2.St} {l : List Nat} {i : Nat} {v : Option V} (hi : i ∈ l) : wipe (σ.set i v) l = wipe σ l := by
  apply List.ext_getElem?
  intro j
  rw [wipe_get, wipe_get, List.length_set]
  by_cases hj : j ∈ l
  · rw [if_pos hj, if_pos hj]
  · rw [if_neg hj, if_neg hj]
    have : i ≠ j := fun z => hj (z ▸ hi)
    rw [List.getElem?_set_ne this]
theorem wipe_wipe {σ : L2.St} {l : List Nat} : wipe (wipe σ l) l = wipe σ l := by
  apply List.ext_getElem?
  intro j
  rw [wipe_get, wipe_get, wipe_length]
  by_cases hj : j ∈ l
  · rw [if_pos hj, if_pos hj]
  · rw [if_neg hj, if_neg hj]
def tName (i : Nat) : GT := fun d s h => .nx (s.set i (some d)) h
theorem sg_name {i : Nat} {x : Str} (hN : X.N.Nodup) (hi : X.N[i]? = some x) (hx : Loc X.env.scope x) (hf : X.fn x = true ∨ X.env.scope.names.lookup x = some .local := by first | exact .inl rfl | exact .inr rfl) : SG X false (.Name x pos) [i] (tName i) := by
  refine PG.imp (pg_name hN hi hx hf) fun v σ H Q h => ?_
  obtain ⟨m, s, h, d, R0, rs, rep, p⟩ := h
  have rep' : Rep X.K m H v d := by
    rcases rep with r | ⟨z, _⟩
    · exact r
    · cases z
  exact p m H _ (Grow.refl _ _) R0 (rs.set i rep') fun l hl => wipe_set (hl i (by simp))
theorem sgs_nil : SGs X [] [] [] := by
  refine PGs.imp pgs_nil fun v σ H Q h => ?_
  obtain ⟨m, s, h, ds, R0, rs, rep, p⟩ := h
  cases rep with
  | nil => exact ⟨rfl, p m H σ (Grow.refl _ _) R0 rs fun _ _ => rfl⟩
  | cons r t => exact False.elim p
theorem sgs_cons {es : List Expr} {vs ws : List Nat} {gt : GT} {gts : List GT} (h1 : SG X false e vs gt) (h2 : SGs X es ws gts) (hs : (assignEach (e :: es) X.env).map (·.2) = assign e X.env :: (assignEach es X.env).map (·.2) := by rfl) : SGs X (e :: es) (vs ++ ws) (gt :: gts) := by
  refine PGs.imp (pgs_cons h1 h2 hs) fun v σ H Q h => ?_
  obtain ⟨m, s, h, ds, R0, rs, rep, p⟩ := h
  cases rep with
  | nil => exact False.elim p
  | @cons v d xs ds r t =>
    refine ⟨v, xs, rfl, m, s, h, d, R0, rs, .inl r, ?_⟩
    unfold gAll at p
    generalize gt d s h = q at p
    cases q with
    | nx s1 h1 =>
      intro m1 H1 σ1 g1 R1 rs1 hw
      refine ⟨m1, s1, h1, ds, R1, rs1, t.grow g1, ?_⟩
      have p' : PostG X.K X.mg (vs ++ ws) σ m H (gAll gts ds s1 h1) Q := p
      generalize gAll gts ds s1 h1 = q2 at p'
      cases q2 with
      | nx s2 h2 => exact fun m2 H2 σ2 g2 R2 rs2 hw2 => p' m2 H2 σ2 (g1.trans g2) R2 rs2 fun l hl =>
          (hw2 l fun i hi => hl i (List.mem_append_right _ hi)).trans (hw l fun i hi => hl i (List.mem_append_left _ hi))
      | _ => exact p'
    | _ => exact p
def tTup (gts : List GT) : GT := fun d s h => match d with
  | .tup ds => gAll gts ds s h
  | .ref k => match h[k]? with
    | some (.lst ds) => gAll gts ds s h
    | _ => .bad
  | _ => .bad
theorem gAll_len : ∀ {gts : List GT} {ds : List D} {s s' : DS} {h h' : Hm}, gAll gts ds s h = .nx s' h' → ds.length = gts.length
  | [], [], _, _, _, _, _ => rfl
  | [], _ :: _, _, _, _, _, e => by simp [gAll] at e
  | _ :: _, [], _, _, _, _, e => by simp [gAll] at e
  | g :: gs, d :: ds, s, s', h, h', e => by
    unfold gAll at e
    split at e
    · simp [gAll_len e]
    · cases e
theorem sg_tup {es : List Expr} {k : Nat} {vs : List Nat} {gts : List GT} {wk : Bool} (hc : X.calm = true) (h : SGs X es vs gts) (hn : (assignEach es X.env).length = gts.length := by rfl) (hst : (assignEach es X.env).findIdx? (·.1) = none := by rfl) :
    SG X wk (.Tuple es k pos) vs (tTup gts) := by
  have both : PG X (.Tuple es k pos) (fun v σ H Q => gTup X.K gts.length (tSGs X.K X.mg vs gts) v σ H Q ∨ gLst X.K gts.length (tSGs X.K X.mg vs gts) v σ H Q) := by
    refine ⟨fun pins s σ H v u Q I r q => ?_⟩
    rcases q with q | q
    · exact (pg_tup hc h hn hst).run pins s σ H v u Q I r q
    · exact (pg_lst hc h hn hst).run pins s σ H v u Q I r q
  refine PG.imp both fun v σ H Q h => ?_
  obtain ⟨m, s, h, d, R0, rs, rep, p⟩ := h
  have one : ∀ {a : Addr} {us : List V} {ds : List D}, SqT X.K H a us → RepL X.K m H us ds → PostG X.K X.mg vs σ m H (gAll gts ds s h) Q → gTup X.K gts.length (tSGs X.K X.mg vs gts) (.ref a) σ H Q := by
    intro a us ds t l p
    refine ⟨a, us, rfl, t, ?_, m, s, h, ds, R0, rs, l, p⟩
    rw [l.length]
    generalize q : gAll gts ds s h = r at p
    cases r with
    | nx s1 h1 => exact gAll_len q
    | _ => exact False.elim p
  rcases rep with r | ⟨_, a, us, ds, rfl, t, l, rfl⟩
  · unfold tTup at p
    split at p
    · obtain ⟨a, us, rfl, t, l⟩ := r.tup_inv
      exact .inl (one t.sqT l p)
    · split at p
      · rename_i kk _ ds hk
        obtain ⟨a, rfl, hm⟩ := r.ref_inv
        obtain ⟨us, q1, q2⟩ := R0.ob _ _ _ hm hk
        refine .inr ⟨a, us, rfl, .inl (.inl q1), ?_, m, s, h, ds, R0, rs, q2, p⟩
        rw [q2.length]
        generalize q : gAll gts ds s h = r at p
        cases r with
        | nx s1 h1 => exact gAll_len q
        | _ => exact False.elim p
      · exact False.elim p
    · exact False.elim p
  · exact .inl (one t l p)
/-- target = e -/
def gAsg (f : FE) (gt : GT) : FS := fun s h => (f s h).st s fun d h1 => match gt d s h1 with
  | .nx s2 h2 => .nx s2 h2
  | _ => .bad
theorem ss_asg {tg : Expr} {vs : List Nat} {gt : GT} (he : SE X W e f) (hg : SG X false tg vs gt) (hs : swapsWithSole [tg] e pos.line X.env = pure false := by rfl) (hw : swappedStores [tg] e X.env = pure none := by rfl)
    (h1 : (assignEach [tg] X.env).map (·.2) = [assign tg X.env] := by rfl) : SS X W (.Assign [tg] e pos) (gAsg f gt) := by
  refine PS.imp (ps_asg he hg hs hw h1) fun D σ H h => ?_
  obtain ⟨m, s, h, R0, rs, p⟩ := h
  refine ⟨m, s, h, R0, rs, PostE.mono (PostS.ofE rs p) ?_⟩
  rintro x H1 ⟨m1, dx, h1, g1, R1, rx, p1⟩
  refine ⟨m1, s, h1, dx, R1, rs.grow g1, .inl rx, ?_⟩
  try dsimp only at p1
  generalize gt dx s h1 = r at p1
  cases r with
  | nx s2 h2 => exact fun m2 H2 σ2 g2 R2 rs2 _ => p1 m2 H2 σ2 g2 R2 rs2
  | _ => exact p1
end
end Sh

set_option Elab.async false
set_option linter.all false
set_option maxRecDepth 100000
set_option maxHeartbeats 4000000
namespace Sh
open PySem L2 PyProof.Rows
/-! ### what is walked -/
inductive RI where
  | ok (xs : List D) (ck : Option (Nat × List D)) (h : Hm) | exc (c : Str) (fs : List (Str × D)) (h : Hm) | bad
abbrev FI := DS → Hm → RI
/-- a list that is walked is to stay as it is -/
def chkB (ck : Option (Nat × List D)) (h : Hm) : Bool := match ck with
  | none => true
  | some (n, xs) => match items h (.ref n) with
    | some ys => D.beqL ys xs
    | none => false
theorem chkB_ok {n : Nat} {xs : List D} {h : Hm} (e : chkB (some (n, xs)) h = true) : items h (.ref n) = some xs := by
  unfold chkB at e
  dsimp only at e
  split at e
  · rename_i ys hy
    rw [hy, D.beqL_eq _ _ e]
  · cases e
def WalkD (K : PySem.W.Frag) (mg : Str → Option Value) (wk : Bool) (J : It) (xs : List D) (ck : Option (Nat × List D)) (m0 : List Addr) (H0 : Hp) : Prop :=
  ∀ i m H h, Grow m0 H0 m H → R K mg m H h → chkB ck h = true →
    (∀ x, xs[i]? = some x → J.go i H ∧ ∀ v H', J.yld i H v H' → Grow m H m H' ∧ R K mg m H' h ∧ RepQ wk K m H' v x) ∧ (xs.length ≤ i → J.stop i H)
def PostI (K : PySem.W.Frag) (mg : Str → Option Value) (wk : Bool) (W : XK) (m : List Addr) (H : Hp) (r : RI) (Q : It → Hp → Prop) : Prop := match r with
  | .ok xs ck h' => ∀ m' H' J, Grow m H m' H' → R K mg m' H' h' → WalkD K mg wk J xs ck m' H' → Q J H'
  | .exc c fs h' => ∀ m' H' cls dx, Grow m H m' H' → R K mg m' H' h' → ExcAt K mg m' H' cls dx c fs → W cls dx H'
  | .bad => False
def tSI (K : PySem.W.Frag) (mg : Str → Option Value) (W : WX) (wk : Bool) (fi : FI) : TI := fun σ H Q => ∃ m s h, R K mg m H h ∧ RS K m H σ s ∧ PostI K mg wk (fun c d H' => W c d σ H') m H (fi s h) Q
def SI (X : Cx) (W : WX) (wk : Bool) (tg iter : Expr) (fi : FI) : Prop := PI X tg iter (tSI X.K X.mg W wk fi)
theorem PI.imp {X : Cx} {tg e : Expr} {t t' : TI} (h : PI X tg e t) (k : ∀ σ H Q, t' σ H Q → t σ H Q) : PI X tg e t' := ⟨fun pins s σ H Q I q => h.run pins s σ H Q I (k _ _ _ q)⟩
def RD.it (r : RD) (k : D → Hm → RI) : RI := match r with
  | .ok d h => k d h
  | .exc c fs h => .exc c fs h
  | .bad => .bad
section
variable {X : Cx} {W : WX} {tg e a b o : Expr} {f fa fb fo : FE} {pos : Pos}
theorem PostI.ofE {K : PySem.W.Frag} {mg : Str → Option Value} {wk : Bool} {W : XK} {m : List Addr} {H : Hp} {r : RD} {k : D → Hm → RI} {Q : It → Hp → Prop} (p : PostI K mg wk W m H (r.it k) Q) :
    PostE K mg W m H r (Got K mg m H fun m' H' d h' => PostI K mg wk W m' H' (k d h') Q) := by
  cases r with
  | ok d h =>
    intro m' H' v g' r' rep
    refine ⟨m', d, h, g', r', rep, ?_⟩
    have p' : PostI K mg wk W m H (k d h) Q := p
    show PostI K mg wk W m' H' (k d h) Q
    generalize k d h = q at p'
    cases q with
    | ok xs ck h2 => exact fun m2 H2 J g2 => p' m2 H2 J (g'.trans g2)
    | exc c fs h2 => exact fun m2 H2 c d g2 => p' m2 H2 c d (g'.trans g2)
    | bad => exact p'
  | exc c fs h => exact p
  | bad => exact p
/-- a list or a tuple -/
theorem pi_seq {tl : TE} (hl : PE X e tl) : PI X tg e (fun σ H R => tl σ H fun x H1 => ∃ a, x = .ref a ∧ (((∃ xs, SqL X.K H1 a xs) ∧ R (Itl X.K a) H1) ∨ ((∃ xs, SqT X.K H1 a xs) ∧ R (Itt X.K a) H1))) := by
  refine ⟨fun pins s σ H R I h => ?_⟩
  refine thn (hl.run pins s σ H _ I h) fun v s1 ⟨x, H1, I1, r1, q1⟩ => ?_
  obtain ⟨a, e, q1⟩ := q1
  subst e
  cases r1
  rcases q1 with ⟨⟨xs, hq⟩, q⟩ | ⟨⟨xs, hq⟩, q⟩
  · obtain ⟨its, rv, p, hz⟩ := I1.list hq
    refine wpAny_pyIter_list p.isList ?_
    refine ⟨s1.heap.objs.size, [s1.heap.objs.size], _, _, H1, rfl, I1.kept (t' := s1.toks) fun b o e => Heap.get?_push_of_some _ e, turn_list a _, ⟨_, Heap.get?_push_size _ rfl, rfl, rfl⟩, fun b hb => ?_, q⟩
    have e : b = s1.heap.objs.size := by simpa using hb
    subst e
    exact I1.fpOk (Nat.le_refl _) (I1.hok.fresh (Nat.le_refl _))
  · obtain ⟨its, rv, p, hz⟩ := I1.tuple hq
    refine wpAny_pyIter_tuple (show s1.heap.IsTuple a its.toArray from p) ?_
    refine ⟨s1.heap.objs.size, [s1.heap.objs.size], _, _, H1, rfl, I1.kept (t' := s1.toks) fun b o e => Heap.get?_push_of_some _ e, turn_tuple a _, ⟨_, Heap.get?_push_size _ rfl, rfl, rfl⟩, fun b hb => ?_, q⟩
    have e : b = s1.heap.objs.size := by simpa using hb
    subst e
    exact I1.fpOk (Nat.le_refl _) (I1.hok.fresh (Nat.le_refl _))
/-- the items, and what is to stay as it is -/
def iSeq (d : D) (h : Hm) : RI := match d with
  | .tup ds => .ok ds none h
  | .scl ds => .ok ds none h
  | .ref n => match items h (.ref n) with
    | some ds => .ok ds (some (n, ds)) h
    | none => .bad
  | _ => .bad
def fiSeq (f : FE) : FI := fun s h => (f s h).it iSeq
theorem items_ref {K : PySem.W.Frag} {mg : Str → Option Value} {m : List Addr} {H : Hp} {h : Hm} {n : Nat} {a : Addr} {ds : List D} (r : R K mg m H h) (hm : m[n]? = some a) (e : items h (.ref n) = some ds) : ∃ vs, SqL K H a vs ∧ RepL K m H vs ds := by
  unfold items at e
  simp only at e
  split at e
  · rename_i es hk
    cases e
    exact ObjR.sqL (.inl (r.ob _ _ _ hm hk))
  · rename_i es hk
    cases e
    exact ObjR.sqL (.inr (r.ob _ _ _ hm hk))
  · cases e
theorem walk_list {K : PySem.W.Frag} {mg : Str → Option Value} {m : List Addr} {H : Hp} {n : Nat} {a : Addr} {ds : List D} {wk : Bool} (hm : m[n]? = some a) : WalkD K mg wk (Itl K a) ds (some (n, ds)) m H := by
  intro i m' H' h g r hc
  obtain ⟨vs, hq, l⟩ := items_ref r (g.loc _ _ hm) (chkB_ok hc)
  refine ⟨fun x hx => ?_, fun hle => ⟨vs, hq, by rw [l.length]; exact hle⟩⟩
  obtain ⟨v, hv, rv⟩ := l.get hx
  refine ⟨⟨vs, v, hq, hv⟩, fun v' H2 hy => ?_⟩
  obtain ⟨rfl, hy⟩ := hy
  have e := hy vs hq
  rw [hv] at e
  cases e
  exact ⟨Grow.refl _ _, r, .inl rv⟩
theorem walk_tup {K : PySem.W.Frag} {mg : Str → Option Value} {m : List Addr} {H : Hp} {a : Addr} {ds : List D} {vs : List V} {wk : Bool} (ht : TupS K H a vs) (l : RepL K m H vs ds) : WalkD K mg wk (Itt K a) ds none m H := by
  intro i m' H' h g r hc
  have hq := (g.tupS ht).sqT
  replace l := l.grow g
  refine ⟨fun x hx => ?_, fun hle => ⟨vs, hq, by rw [l.length]; exact hle⟩⟩
  obtain ⟨v, hv, rv⟩ := l.get hx
  refine ⟨⟨vs, v, hq, hv⟩, fun v' H2 hy => ?_⟩
  obtain ⟨rfl, hy⟩ := hy
  have e := hy vs hq
  rw [hv] at e
  cases e
  exact ⟨Grow.refl _ _, r, .inl rv⟩
theorem walk_scl {K : PySem.W.Frag} {mg : Str → Option Value} {m : List Addr} {H : Hp} {a : Addr} {ds : List D} {vs : List V} {wk : Bool} (ht : SclS K H a vs) (l : RepL K m H vs ds) : WalkD K mg wk (Itl K a) ds none m H := by
  intro i m' H' h g r hc
  have hq := (g.sclS ht).sqL
  replace l := l.grow g
  refine ⟨fun x hx => ?_, fun hle => ⟨vs, hq, by rw [l.length]; exact hle⟩⟩
  obtain ⟨v, hv, rv⟩ := l.get hx
  refine ⟨⟨vs, v, hq, hv⟩, fun v' H2 hy => ?_⟩
  obtain ⟨rfl, hy⟩ := hy
  have e := hy vs hq
  rw [hv] at e
  cases e
  exact ⟨Grow.refl _ _, r, .inl rv⟩
theorem rgD_length (a b : Int) : (rgD a b).length = (b - a).toNat := by unfold rgD; rw [List.length_map, List.length_range]
theorem rgD_get {a b : Int} {i : Nat} {x : D} (e : (rgD a b)[i]? = some x) : i < (b - a).toNat ∧ x = .int (a + (i : Nat)) := by
  have hl := (List.getElem?_eq_some_iff.mp e).1
  rw [rgD_length] at hl
  unfold rgD at e
  rw [List.getElem?_map, List.getElem?_range hl] at e
  cases e
  exact ⟨hl, rfl⟩
theorem walk_rg {K : PySem.W.Frag} {mg : Str → Option Value} {m : List Addr} {H : Hp} {a b : Int} {wk : Bool} : WalkD K mg wk (Itr a (b - a).toNat) (rgD a b) none m H := by
  intro i m' H' h g r hc
  refine ⟨fun x hx => ?_, fun hle => by rw [rgD_length] at hle; exact hle⟩
  obtain ⟨h1, rfl⟩ := rgD_get hx
  refine ⟨h1, fun v' H2 hy => ?_⟩
  obtain ⟨rfl, rfl⟩ := hy
  exact ⟨Grow.refl _ _, r, .inl (.int _)⟩
theorem si_seq (he : SE X W e f) : SI X W false tg e (fiSeq f) := by
  refine PI.imp (pi_seq he) fun σ H Q h => ?_
  obtain ⟨m, s, h, R0, rs, p⟩ := h
  refine ⟨m, s, h, R0, rs, PostE.mono (PostI.ofE p) ?_⟩
  rintro x H1 ⟨m1, dx, h1, g1, R1, rx, p1⟩
  unfold iSeq at p1
  split at p1
  · obtain ⟨a, vs, rfl, t, l⟩ := rx.tup_inv
    exact ⟨a, rfl, .inr ⟨⟨vs, t.sqT⟩, p1 m1 H1 _ (Grow.refl _ _) R1 (walk_tup t l)⟩⟩
  · obtain ⟨a, vs, rfl, t, l⟩ := rx.scl_inv
    exact ⟨a, rfl, .inl ⟨⟨vs, t.sqL⟩, p1 m1 H1 _ (Grow.refl _ _) R1 (walk_scl t l)⟩⟩
  · split at p1
    · rename_i ds hi
      obtain ⟨a, rfl, hm⟩ := rx.ref_inv
      obtain ⟨vs, hq, l⟩ := items_ref R1 hm hi
      exact ⟨a, rfl, .inl ⟨⟨vs, hq⟩, p1 m1 H1 _ (Grow.refl _ _) R1 (walk_list hm)⟩⟩
    · exact False.elim p1
  · exact False.elim p1
/-- range(b), range(a, b) -/
def iRg (ds : List D) (h : Hm) : RI := match ds with
  | [.int j] => if -(2 ^ 62) ≤ j ∧ j < 2 ^ 62 then .ok (rgD 0 j) none h else .bad
  | [.int i, .int j] => if -(2 ^ 62) ≤ i ∧ i < 2 ^ 62 ∧ -(2 ^ 62) ≤ j ∧ j < 2 ^ 62 then .ok (rgD i j) none h else .bad
  | _ => .bad
def fiRg (fs : List FE) : FI := fun s h => match evalL fs s h with
  | .ok ds h1 => iRg ds h1
  | .exc c x h1 => .exc c x h1
  | .bad => .bad
theorem rg_ok {fs : List FE} {σ : L2.St} {H : Hp} {Q : It → Hp → Prop} {wk : Bool} {r : List V → Hp → (It → Hp → Prop) → Prop} (h : tSI X.K X.mg W wk (fiRg fs) σ H Q)
    (k : ∀ m1 H1 vs ds h1, R X.K X.mg m1 H1 h1 → RepL X.K m1 H1 vs ds → ds.length = fs.length → PostI X.K X.mg wk (fun c d H' => W c d σ H') m1 H1 (iRg ds h1) Q → r vs H1 Q) : tSA X.K X.mg W (evalL fs) σ H fun vs H1 => r vs H1 Q := by
  obtain ⟨m, s, h, R0, rs, p⟩ := h
  refine ⟨m, s, h, R0, rs, ?_⟩
  unfold fiRg at p
  generalize q : evalL fs s h = r at p
  cases r with
  | ok ds h1 =>
    intro m1 H1 vs g1 R1 rvs
    refine k m1 H1 vs ds h1 R1 rvs (evalL_length q) ?_
    try dsimp only at p
    generalize iRg ds h1 = r2 at p
    cases r2 with
    | ok xs ck h2 => exact fun m2 H2 J g2 => p m2 H2 J (g1.trans g2)
    | exc c fs h2 => exact fun m2 H2 c d g2 => p m2 H2 c d (g1.trans g2)
    | bad => exact p
  | exc c fs h1 => exact p
  | bad => exact p
theorem si_rg1 {p : Pos} (hg : Gl X "range") (hm : X.mg "range" = none) (ha : SA X W [a] (evalL [fa])) (hs : starEach [a] X.env = [(false, eval a X.env)] := by rfl) : SI X W false tg (.Call (.Name "range" p) [a] [] pos) (fiRg [fa]) := by
  refine PI.imp (pi_range1 hg hm ha hs) fun σ H Q h => rg_ok (r := fun vs H1 Q => ∃ j : Int, vs = [.int j] ∧ -(2 ^ 62) ≤ j ∧ j < 2 ^ 62 ∧ Q (Itr 0 j.toNat) H1) h fun m1 H1 vs ds h1 R1 rvs hl p => ?_
  unfold iRg at p
  split at p
  · split at p
    · rename_i j hj
      cases rvs with
      | cons r1 r2 =>
        cases r2; cases r1
        have w := walk_rg (K := X.K) (mg := X.mg) (m := m1) (H := H1) (a := 0) (b := j) (wk := false)
        rw [Int.sub_zero] at w
        exact ⟨j, rfl, hj.1, hj.2, p m1 H1 _ (Grow.refl _ _) R1 w⟩
    · exact False.elim p
  · simp at hl
  · exact False.elim p
theorem si_rg2 {p : Pos} (hg : Gl X "range") (hm : X.mg "range" = none) (ha : SA X W [a, b] (evalL [fa, fb])) (hs : starEach [a, b] X.env = [(false, eval a X.env), (false, eval b X.env)] := by rfl) (hs2 : starEach [b] X.env = [(false, eval b X.env)] := by rfl) :
    SI X W false tg (.Call (.Name "range" p) [a, b] [] pos) (fiRg [fa, fb]) := by
  refine PI.imp (pi_range2 hg hm ha hs hs2) fun σ H Q h => rg_ok (r := fun vs H1 Q => ∃ i j : Int, vs = [.int i, .int j] ∧ (-(2 ^ 62) ≤ i ∧ i < 2 ^ 62 ∧ -(2 ^ 62) ≤ j ∧ j < 2 ^ 62) ∧ Q (Itr i (j - i).toNat) H1) h fun m1 H1 vs ds h1 R1 rvs hl p => ?_
  unfold iRg at p
  split at p
  · simp at hl
  · split at p
    · rename_i i j hj
      cases rvs with
      | cons r1 r2 =>
        cases r2 with
        | cons r2 r3 =>
          cases r3; cases r1; cases r2
          exact ⟨i, j, rfl, hj, p m1 H1 _ (Grow.refl _ _) R1 walk_rg⟩
    · exact False.elim p
  · exact False.elim p

/-! ### for -/
def loopG (ck : Option (Nat × List D)) (gt : GT) (gb : FS) : List D → DS → Hm → RT
  | [], s, h => if chkB ck h = true then .nx s h else .bad
  | x :: xs, s, h => if chkB ck h = true then (match gt x s h with
    | .nx s1 h1 => (match gb s1 h1 with
      | .nx s2 h2 => loopG ck gt gb xs s2 h2
      | .ct s2 h2 => loopG ck gt gb xs s2 h2
      | .bk s2 h2 => .nx s2 h2
      | r => r)
    | _ => .bad) else .bad
def gFor (fi : FI) (gt : GT) (gb : FS) : FS := fun s h => match fi s h with
  | .ok xs ck h1 => loopG ck gt gb xs s h1
  | .exc c fs h1 => .exc c fs s h1
  | .bad => .bad
theorem ss_for {iter : Expr} {body : List Stmt} {fi : FI} {gt : GT} {gb : FS} {wk : Bool} {vs : List Nat} (hp : PassesOwn (model X.prog X.w) X.A X.env X.xe) (hc : X.calm = true) (hi : SI X W wk tg iter fi) (hg : SG X wk tg vs gt) (hb : SSs X W body gb)
    (hs : ∀ x, foldedSetIterable iter X.env x = pure x := by intro _; rfl) : SS X W (.For tg iter body [] pos) (gFor fi gt gb) := by
  refine PS.imp (ps_for hp hc hi hg hb hs) fun D σ H h => ?_
  obtain ⟨m, s, h, R0, rs, p⟩ := h
  refine ⟨m, s, h, R0, rs, ?_⟩
  unfold gFor at p
  generalize fi s h = r at p
  cases r with
  | exc c fs h1 => exact fun m' H' cls dx g r' x => p m' H' σ cls dx g r' (rs.grow g) x
  | bad => exact p
  | ok xs ck h1 =>
    intro m1 H1 J g1 R1 wd
    replace p := PostS.grow (show PostS X.K X.mg W m H (loopG ck gt gb xs s h1) D from p) g1
    refine ⟨fun i k σ H => k = xs.length - i ∧ i ≤ xs.length ∧ ∃ m s h, Grow m1 H1 m H ∧ R X.K X.mg m H h ∧ RS X.K m H σ s ∧ PostS X.K X.mg W m H (loopG ck gt gb (xs.drop i) s h) D,
      ⟨xs.length, by simp, Nat.zero_le _, m1, s, h1, Grow.refl _ _, R1, rs.grow g1, p⟩, ?_⟩
    rintro i k σ2 H2 ⟨rfl, hi, m2, s2, h2, g2, R2, rs2, p2⟩
    by_cases hlt : i < xs.length
    · rw [List.drop_eq_getElem_cons hlt] at p2
      unfold loopG at p2
      split at p2
      · rename_i hck
        obtain ⟨hgo, hyl⟩ := (wd i m2 H2 h2 g2 R2 hck).1 xs[i] (List.getElem?_eq_getElem hlt)
        refine .inr ⟨hgo, fun σ' H' => ∃ m s h, Grow m1 H1 m H' ∧ R X.K X.mg m H' h ∧ RS X.K m H' σ' s ∧ PostS X.K X.mg W m H' (loopG ck gt gb (xs.drop (i + 1)) s h) D,
          fun σ' H' q => ⟨xs.length - (i + 1), by omega, rfl, hlt, q⟩, fun v H3 hy => ?_⟩
        obtain ⟨g3, R3, rep⟩ := hyl v H3 hy
        refine ⟨m2, s2, h2, xs[i], R3, rs2.grow g3, rep, ?_⟩
        generalize gt xs[i] s2 h2 = q at p2
        cases q with
        | nx s4 h4 =>
          intro m4 H4 σ4 g4 R4 rs4 _
          refine ⟨m4, s4, h4, R4, rs4, ?_⟩
          replace p2 := PostS.grow p2 (g3.trans g4)
          try dsimp only at p2
          generalize gb s4 h4 = q2 at p2
          have gg := (g2.trans (g3.trans g4))
          cases q2 with
          | nx s5 h5 => exact fun m5 H5 σ5 g5 R5 rs5 => ⟨m5, s5, h5, gg.trans g5, R5, rs5, PostS.grow p2 g5⟩
          | ct s5 h5 => exact fun m5 H5 σ5 g5 R5 rs5 => ⟨m5, s5, h5, gg.trans g5, R5, rs5, PostS.grow p2 g5⟩
          | bk s5 h5 => exact p2
          | rt d h5 => exact p2
          | exc c fs s h => exact p2
          | bad => exact p2
        | _ => exact False.elim p2
      · exact False.elim p2
    · have e : i = xs.length := by omega
      subst e
      rw [List.drop_length] at p2
      unfold loopG at p2
      split at p2
      · rename_i hck
        exact .inl ⟨(wd _ m2 H2 h2 g2 R2 hck).2 (Nat.le_refl _), p2 m2 H2 σ2 (Grow.refl _ _) R2 rs2⟩
      · exact False.elim p2

/-! ### comprehensions -/
def wipeD (s : DS) : List Nat → DS
  | [] => s
  | v :: vs => (wipeD s vs).set v none
theorem RS.wipe {K : PySem.W.Frag} {m : List Addr} {H : Hp} {σ : L2.St} {s : DS} (r : RS K m H σ s) : ∀ l : List Nat, RS K m H (wipe σ l) (wipeD s l)
  | [] => r
  | v :: l => (RS.wipe r l).clr v
/-- the new list stands at n -/
def lcLoop (ck : Option (Nat × List D)) (gt : GT) (ft fe : FE) (n : Nat) (s0 : DS) : List D → Hm → RD
  | [], h => if chkB ck h = true then .ok (.ref n) h else .bad
  | x :: xs, h => if chkB ck h = true then (match gt x s0 h with
    | .nx s1 h1 => (match ft s1 h1 with
      | .ok (.bl true) h2 => (match fe s1 h2 with
        | .ok d h3 => (match h3[n]? with
          | some (.lst acc) => if acc.length < big then lcLoop ck gt ft fe n s0 xs (h3.set n (.lst (acc ++ [d]))) else .bad
          | _ => .bad)
        | _ => .bad)
      | .ok (.bl false) h2 => lcLoop ck gt ft fe n s0 xs h2
      | _ => .bad)
    | _ => .bad) else .bad
def eLc (fi : FI) (gt : GT) (ft fe : FE) (own : List Nat) : FE := fun s h => match fi s h with
  | .ok xs ck h1 => lcLoop ck gt ft fe h1.length (wipeD s own) xs (h1 ++ [.lst []])
  | .exc c fs h1 => .exc c fs h1
  | .bad => .bad
/-- no exception is let out -/
abbrev W0 : WX := fun _ _ _ _ => False
def STs (X : Cx) (ifs : List Expr) (f : FE) : Prop := PTs X ifs (tST X.K X.mg W0 f)
theorem PTs.imp {X : Cx} {e : List Expr} {t t' : TT} (h : PTs X e t) (k : ∀ σ H Q, t' σ H Q → t σ H Q) : PTs X e t' := ⟨fun pins s σ H Q I q => h.run pins s σ H Q I (k _ _ _ q)⟩
theorem sts_nil : STs X [] (eC (.bl true)) := PTs.imp pts_nil fun σ H Q ⟨m, s, h, R0, rs, p⟩ => p m H (Grow.refl _ _) R0
theorem sts_one {c : Expr} {fc : FE} (h : ST X W0 c fc) : STs X [c] fc := pts_one h
theorem lc_ok {wi : TI} {fi : FI} {gt : GT} {ft fe : FE} {vs own : List Nat} {wk : Bool} (hv : ∀ i ∈ vs, i ∈ own) {σ : L2.St} {H : Hp} {Q : VK} (h : tS X.K X.mg W (eLc fi gt ft fe own) σ H Q) :
    tLc (tSI X.K X.mg W wk fi) (tSG X.K X.mg wk vs gt) (tST X.K X.mg W0 ft) (tS X.K X.mg W0 fe) own σ H Q := by
  obtain ⟨m, s, h, R0, rs, p⟩ := h
  refine ⟨m, s, h, R0, rs, ?_⟩
  unfold eLc at p
  generalize fi s h = r at p
  cases r with
  | exc c fs h1 => exact p
  | bad => exact p
  | ok xs ck h1 =>
    intro m1 H1 J g1 R1 wd Dn hD
    replace p := PostE.grow (show PostE X.K X.mg (fun c d H' => W c d σ H') m H (lcLoop ck gt ft fe h1.length (wipeD s own) xs (h1 ++ [.lst []])) Q from p) g1
    have gN : Grow m1 H1 (m1 ++ [Dn]) (upd H1 Dn (.lst [])) := Grow.newr hD
    have RN : R X.K X.mg (m1 ++ [Dn]) (upd H1 Dn (.lst [])) (h1 ++ [.lst []]) := R1.new hD ⟨[], upd_same, .nil⟩
    have nN : (m1 ++ [Dn])[h1.length]? = some Dn := R1.newAt
    generalize h1.length = n at p nN
    generalize h1 ++ [O.lst []] = hN at p RN
    generalize m1 ++ [Dn] = mN at gN RN nN
    generalize hHN : upd H1 Dn (.lst []) = HN at gN RN
    refine ⟨fun i k H => k = xs.length - i ∧ i ≤ xs.length ∧ ∃ m h, Grow mN HN m H ∧ R X.K X.mg m H h ∧ PostE X.K X.mg (fun c d H' => W c d σ H') m H (lcLoop ck gt ft fe n (wipeD s own) (xs.drop i) h) Q,
      ⟨xs.length, by simp, Nat.zero_le _, mN, hN, Grow.refl _ _, RN, PostE.grow p gN⟩, ?_⟩
    rintro i k H2 ⟨rfl, hi, m2, h2, g2, R2, p2⟩
    by_cases hlt : i < xs.length
    · rw [List.drop_eq_getElem_cons hlt] at p2
      unfold lcLoop at p2
      split at p2
      · rename_i hck
        obtain ⟨hgo, hyl⟩ := (wd i m2 H2 h2 (gN.trans g2) R2 hck).1 xs[i] (List.getElem?_eq_getElem hlt)
        refine .inr ⟨hgo, fun H' => ∃ m h, Grow mN HN m H' ∧ R X.K X.mg m H' h ∧ PostE X.K X.mg (fun c d H' => W c d σ H') m H' (lcLoop ck gt ft fe n (wipeD s own) (xs.drop (i + 1)) h) Q,
          fun H' q => ⟨xs.length - (i + 1), by omega, rfl, hlt, q⟩, fun v H3 hy => ?_⟩
        obtain ⟨g3, R3, rep⟩ := hyl v H3 hy
        refine ⟨m2, wipeD s own, h2, xs[i], R3, ((rs.grow (g1.trans (gN.trans (g2.trans g3)))).wipe own), rep, ?_⟩
        generalize gt xs[i] (wipeD s own) h2 = q at p2
        cases q with
        | nx s4 h4 =>
          intro m4 H4 σ4 g4 R4 rs4 hw
          refine ⟨(hw own hv).trans wipe_wipe, m4, s4, h4, R4, rs4, ?_⟩
          replace p2 := PostE.grow p2 (g3.trans g4)
          have gg := g2.trans (g3.trans g4)
          try dsimp only at p2
          generalize ft s4 h4 = q2 at p2
          cases q2 with
          | ok d h5 =>
            cases d with
            | bl b =>
              intro m5 H5 g5 R5
              replace p2 := PostE.grow p2 g5
              cases b with
              | false => exact iteF ⟨m5, h5, gg.trans g5, R5, p2⟩
              | true =>
                refine iteT ⟨m5, s4, h5, R5, rs4.grow g5, ?_⟩
                try dsimp only at p2
                generalize fe s4 h5 = q3 at p2
                cases q3 with
                | ok d h6 =>
                  intro m6 H6 v6 g6 R6 rep6
                  replace p2 := PostE.grow p2 g6
                  try dsimp only at p2
                  split at p2
                  · rename_i acc hk
                    split at p2
                    · rename_i hz
                      have hm6 : m6[n]? = some Dn := (gg.trans (g5.trans g6)).loc _ _ nN
                      obtain ⟨us, q1, q2⟩ := R6.ob _ _ _ hm6 hk
                      obtain ⟨g7, R7⟩ := R6.lset hm6 hk (q2.app (.cons rep6 .nil))
                      exact ⟨us, q1, big_lt (by rw [q2.length]; exact hz), m6, _, (gg.trans (g5.trans g6)).trans g7, R7, PostE.grow p2 g7⟩
                    · exact False.elim p2
                  · exact False.elim p2
                | _ => exact False.elim p2
            | _ => exact False.elim p2
          | _ => exact False.elim p2
        | _ => exact False.elim p2
      · exact False.elim p2
    · have e : i = xs.length := by omega
      subst e
      rw [List.drop_length] at p2
      unfold lcLoop at p2
      split at p2
      · rename_i hck
        exact .inl ⟨(wd _ m2 H2 h2 (gN.trans g2) R2 hck).2 (Nat.le_refl _), p2 m2 H2 _ (Grow.refl _ _) R2 (.ref (g2.loc _ _ nN))⟩
      · exact False.elim p2
end
end Sh

set_option Elab.async false
set_option linter.all false
set_option maxRecDepth 100000
set_option maxHeartbeats 4000000
namespace Sh
open PySem L2 PyProof.Rows
section
variable {X : Cx} {W : WX} {tg e a b o elt iter : Expr} {ifs : List Expr} {f fa fb fo fe ft : FE} {fi : FI} {gt : GT} {pos : Pos} {scope : Scope} {own : List (Str × Nat)} {vs : List Nat} {wk : Bool}
theorem mem_all {vs own : List Nat} (h : vs.all (fun i => own.contains i) = true) : ∀ i ∈ vs, i ∈ own := fun i hi => by
  have := List.all_eq_true.mp h i hi
  simpa using this
/-- [e for x in xs if ..] -/
theorem se_lc (hc : X.calm = true) (hN : X.N.Nodup) (hi : SI X W wk tg iter fi) (ok : BlkOk X.N X.env.scope scope own)
    (hg : ∀ (s : Shared) (H : Hp) (C : Addr) (cl : List (Str × Addr)) (fp : List Addr), SG (X.blk s H scope (compEnvC scope cl C X.env) fp) wk tg vs gt) (ht : ∀ (s : Shared) (H : Hp) (C : Addr) (cl : List (Str × Addr)) (fp : List Addr), STs (X.blk s H scope (compEnvC scope cl C X.env) fp) ifs ft)
    (he : ∀ (s : Shared) (H : Hp) (C : Addr) (cl : List (Str × Addr)) (fp : List Addr), SE (X.blk s H scope (compEnvC scope cl C X.env) fp) W0 elt fe) (hs : ∀ x, foldedSetIterable iter X.env x = pure x := by intro _; rfl) (hv : vs.all (fun i => (own.map (·.2)).contains i) = true := by rfl) :
    SE X W (.ListComp elt [⟨tg, iter, ifs, 0⟩] scope pos) (eLc fi gt ft fe (own.map (·.2))) :=
  PE.imp (pe_lc (g := tSG X.K X.mg wk vs gt) (tt := tST X.K X.mg W0 ft) (te := tS X.K X.mg W0 fe) hc hN hi ok hg ht he hs) fun σ H Q h => lc_ok (wi := tSI X.K X.mg W wk fi) (mem_all hv) h
theorem ss_setLc {i : Nat} {y : Str} {py spos : Pos} (hc : X.calm = true) (hN : X.N.Nodup) (hy : X.N[i]? = some y) (hyl : X.env.scope.names.lookup y = some .local)
    (hsw : swapsWith (.ListComp elt [⟨tg, iter, ifs, 0⟩] scope pos) (some (.Name y py)) spos.line X.env = pure true) (hi : SI X W wk tg iter fi) (ok : BlkOk X.N X.env.scope scope own)
    (hg : ∀ (s : Shared) (H : Hp) (C : Addr) (cl : List (Str × Addr)) (fp : List Addr), SG (X.blk s H scope (compEnvC scope cl C X.env) fp) wk tg vs gt) (ht : ∀ (s : Shared) (H : Hp) (C : Addr) (cl : List (Str × Addr)) (fp : List Addr), STs (X.blk s H scope (compEnvC scope cl C X.env) fp) ifs ft)
    (he : ∀ (s : Shared) (H : Hp) (C : Addr) (cl : List (Str × Addr)) (fp : List Addr), SE (X.blk s H scope (compEnvC scope cl C X.env) fp) W0 elt fe) (hs : ∀ x, foldedSetIterable iter X.env x = pure x := by intro _; rfl) (hv : vs.all (fun i => (own.map (·.2)).contains i) = true := by rfl) :
    SS X W (.Assign [.Name y py] (.ListComp elt [⟨tg, iter, ifs, 0⟩] scope pos) spos) (gSet i (eLc fi gt ft fe (own.map (·.2)))) := by
  refine PS.imp (ps_setLc (g := tSG X.K X.mg wk vs gt) (tt := tST X.K X.mg W0 ft) (te := tS X.K X.mg W0 fe) hc hN hy hyl hsw hi ok hg ht he hs) fun D σ H h => ?_
  obtain ⟨m, s, h, R0, rs, p⟩ := h
  refine lc_ok (X := X) (W := W) (wi := tSI X.K X.mg W wk fi) (mem_all hv) ⟨m, s, h, R0, rs, PostE.mono (PostS.ofE rs p) ?_⟩
  rintro x H1 ⟨m1, dx, h1, g1, R1, rx, p1⟩
  exact p1 m1 H1 _ (Grow.refl _ _) R1 ((rs.grow g1).set i rx)
/-! two fors -/
def lcIn (ck : Option (Nat × List D)) (gt : GT) (ft fe : FE) (n : Nat) (s0 : DS) : List D → Hm → Option Hm
  | [], h => if chkB ck h = true then some h else none
  | x :: xs, h => if chkB ck h = true then (match gt x s0 h with
    | .nx s1 h1 => (match ft s1 h1 with
      | .ok (.bl true) h2 => (match fe s1 h2 with
        | .ok d h3 => (match h3[n]? with
          | some (.lst acc) => if acc.length < big then lcIn ck gt ft fe n s0 xs (h3.set n (.lst (acc ++ [d]))) else none
          | _ => none)
        | _ => none)
      | .ok (.bl false) h2 => lcIn ck gt ft fe n s0 xs h2
      | _ => none)
    | _ => none) else none
def lc2Loop (ck : Option (Nat × List D)) (gt : GT) (ft : FE) (fi1 : FI) (gt1 : GT) (ft1 fe : FE) (n : Nat) (s0 : DS) (vs1 : List Nat) : List D → Hm → RD
  | [], h => if chkB ck h = true then .ok (.ref n) h else .bad
  | x :: xs, h => if chkB ck h = true then (match gt x s0 h with
    | .nx s1 h1 => (match ft s1 h1 with
      | .ok (.bl true) h2 => (match fi1 s1 h2 with
        | .ok ys ck1 h3 => (match lcIn ck1 gt1 ft1 fe n (wipeD s1 vs1) ys h3 with
          | some h4 => lc2Loop ck gt ft fi1 gt1 ft1 fe n s0 vs1 xs h4
          | none => .bad)
        | _ => .bad)
      | .ok (.bl false) h2 => lc2Loop ck gt ft fi1 gt1 ft1 fe n s0 vs1 xs h2
      | _ => .bad)
    | _ => .bad) else .bad
def eLc2 (fi : FI) (gt : GT) (ft : FE) (fi1 : FI) (gt1 : GT) (ft1 fe : FE) (own vs1 : List Nat) : FE := fun s h => match fi s h with
  | .ok xs ck h1 => lc2Loop ck gt ft fi1 gt1 ft1 fe h1.length (wipeD s own) vs1 xs (h1 ++ [.lst []])
  | .exc c fs h1 => .exc c fs h1
  | .bad => .bad
theorem lc2_ok {fi1 : FI} {gt1 : GT} {ft1 : FE} {ws own vs1 : List Nat} {wk1 : Bool} (hv : ∀ i ∈ vs, i ∈ own) (hw1 : ∀ i ∈ ws, i ∈ vs1) {σ : L2.St} {H : Hp} {Q : VK} (h : tS X.K X.mg W (eLc2 fi gt ft fi1 gt1 ft1 fe own vs1) σ H Q) :
    tLc2 (tSI X.K X.mg W wk fi) (tSG X.K X.mg wk vs gt) (tST X.K X.mg W0 ft) (tSI X.K X.mg W0 wk1 fi1) (tSG X.K X.mg wk1 ws gt1) (tST X.K X.mg W0 ft1) (tS X.K X.mg W0 fe) own vs1 σ H Q := by
  obtain ⟨m, s, h, R0, rs, p⟩ := h
  refine ⟨m, s, h, R0, rs, ?_⟩
  unfold eLc2 at p
  generalize fi s h = r at p
  cases r with
  | exc c fs h1 => exact p
  | bad => exact p
  | ok xs ck h1 =>
    intro m1 H1 J g1 R1 wd Dn hD
    replace p := PostE.grow (show PostE X.K X.mg (fun c d H' => W c d σ H') m H (lc2Loop ck gt ft fi1 gt1 ft1 fe h1.length (wipeD s own) vs1 xs (h1 ++ [.lst []])) Q from p) g1
    have gN : Grow m1 H1 (m1 ++ [Dn]) (upd H1 Dn (.lst [])) := Grow.newr hD
    have RN : R X.K X.mg (m1 ++ [Dn]) (upd H1 Dn (.lst [])) (h1 ++ [.lst []]) := R1.new hD ⟨[], upd_same, .nil⟩
    have nN : (m1 ++ [Dn])[h1.length]? = some Dn := R1.newAt
    generalize h1.length = n at p nN
    generalize h1 ++ [O.lst []] = hN at p RN
    generalize m1 ++ [Dn] = mN at gN RN nN
    generalize hHN : upd H1 Dn (.lst []) = HN at gN RN
    refine ⟨fun i k H => k = xs.length - i ∧ i ≤ xs.length ∧ ∃ m h, Grow mN HN m H ∧ R X.K X.mg m H h ∧ PostE X.K X.mg (fun c d H' => W c d σ H') m H (lc2Loop ck gt ft fi1 gt1 ft1 fe n (wipeD s own) vs1 (xs.drop i) h) Q,
      ⟨xs.length, by simp, Nat.zero_le _, mN, hN, Grow.refl _ _, RN, PostE.grow p gN⟩, ?_⟩
    rintro i k H2 ⟨rfl, hi, m2, h2, g2, R2, p2⟩
    by_cases hlt : i < xs.length
    · rw [List.drop_eq_getElem_cons hlt] at p2
      unfold lc2Loop at p2
      split at p2
      · rename_i hck
        obtain ⟨hgo, hyl⟩ := (wd i m2 H2 h2 (gN.trans g2) R2 hck).1 xs[i] (List.getElem?_eq_getElem hlt)
        refine .inr ⟨hgo, fun H' => ∃ m h, Grow mN HN m H' ∧ R X.K X.mg m H' h ∧ PostE X.K X.mg (fun c d H' => W c d σ H') m H' (lc2Loop ck gt ft fi1 gt1 ft1 fe n (wipeD s own) vs1 (xs.drop (i + 1)) h) Q,
          fun H' q => ⟨xs.length - (i + 1), by omega, rfl, hlt, q⟩, fun v H3 hy => ?_⟩
        obtain ⟨g3, R3, rep⟩ := hyl v H3 hy
        refine ⟨m2, wipeD s own, h2, xs[i], R3, ((rs.grow (g1.trans (gN.trans (g2.trans g3)))).wipe own), rep, ?_⟩
        generalize gt xs[i] (wipeD s own) h2 = q at p2
        cases q with
        | nx s4 h4 =>
          intro m4 H4 σ4 g4 R4 rs4 hw
          refine ⟨(hw own hv).trans wipe_wipe, m4, s4, h4, R4, rs4, ?_⟩
          replace p2 := PostE.grow p2 (g3.trans g4)
          have gg := g2.trans (g3.trans g4)
          try dsimp only at p2
          generalize ft s4 h4 = q2 at p2
          cases q2 with
          | ok d h5 =>
            cases d with
            | bl b =>
              intro m5 H5 g5 R5
              replace p2 := PostE.grow p2 g5
              have gg5 := gg.trans g5
              cases b with
              | false => exact iteF ⟨m5, h5, gg5, R5, p2⟩
              | true =>
                refine iteT ⟨m5, s4, h5, R5, rs4.grow g5, ?_⟩
                try dsimp only at p2
                generalize fi1 s4 h5 = q3 at p2
                cases q3 with
                | ok ys ck1 h6 =>
                  intro m6 H6 J1 g6 R6 wd1
                  replace p2 := PostE.grow p2 g6
                  have gg6 := gg5.trans g6
                  have rs6 := (rs4.grow g5).grow g6
                  try dsimp only at p2
                  split at p2
                  · rename_i hE he
                    refine ⟨fun j k H => k = ys.length - j ∧ j ≤ ys.length ∧ ∃ m h, Grow m6 H6 m H ∧ R X.K X.mg m H h ∧ lcIn ck1 gt1 ft1 fe n (wipeD s4 vs1) (ys.drop j) h = some hE,
                      ⟨ys.length, by simp, Nat.zero_le _, m6, h6, Grow.refl _ _, R6, he⟩, ?_⟩
                    rintro j k H7 ⟨rfl, hj, m7, h7, g7, R7, e7⟩
                    have gg7 := gg6.trans g7
                    by_cases hlj : j < ys.length
                    · rw [List.drop_eq_getElem_cons hlj] at e7
                      unfold lcIn at e7
                      split at e7
                      · rename_i hck1
                        obtain ⟨hgo1, hyl1⟩ := (wd1 j m7 H7 h7 g7 R7 hck1).1 ys[j] (List.getElem?_eq_getElem hlj)
                        refine .inr ⟨hgo1, fun H' => ∃ m h, Grow m6 H6 m H' ∧ R X.K X.mg m H' h ∧ lcIn ck1 gt1 ft1 fe n (wipeD s4 vs1) (ys.drop (j + 1)) h = some hE,
                          fun H' q => ⟨ys.length - (j + 1), by omega, rfl, hlj, q⟩, fun v H8 hy8 => ?_⟩
                        obtain ⟨g8, R8, rep8⟩ := hyl1 v H8 hy8
                        refine ⟨m7, wipeD s4 vs1, h7, ys[j], R8, ((rs6.grow (g7.trans g8)).wipe vs1), rep8, ?_⟩
                        generalize gt1 ys[j] (wipeD s4 vs1) h7 = q4 at e7
                        cases q4 with
                        | nx s9 h9 =>
                          intro m9 H9 σ9 g9 R9 rs9 hw9
                          refine ⟨(hw9 vs1 hw1).trans wipe_wipe, m9, s9, h9, R9, rs9, ?_⟩
                          have gg9 := g7.trans (g8.trans g9)
                          try dsimp only at e7
                          generalize ft1 s9 h9 = q5 at e7
                          cases q5 with
                          | ok d hA =>
                            cases d with
                            | bl b =>
                              intro mA HA gA RA
                              cases b with
                              | false => exact iteF ⟨mA, hA, gg9.trans gA, RA, e7⟩
                              | true =>
                                refine iteT ⟨mA, s9, hA, RA, rs9.grow gA, ?_⟩
                                try dsimp only at e7
                                generalize fe s9 hA = q6 at e7
                                cases q6 with
                                | ok d hB =>
                                  intro mB HB vB gB RB repB
                                  try dsimp only at e7
                                  split at e7
                                  · rename_i acc hk
                                    split at e7
                                    · rename_i hz
                                      have hmB : mB[n]? = some Dn := (((gg6.trans gg9).trans gA).trans gB).loc _ _ nN
                                      obtain ⟨us, q1, q2⟩ := RB.ob _ _ _ hmB hk
                                      obtain ⟨gC, RC⟩ := RB.lset hmB hk (q2.app (.cons repB .nil))
                                      exact ⟨us, q1, big_lt (by rw [q2.length]; exact hz), mB, _, ((gg9.trans gA).trans gB).trans gC, RC, e7⟩
                                    · cases e7
                                  · cases e7
                                | _ => cases e7
                            | _ => cases e7
                          | _ => cases e7
                        | _ => cases e7
                      · cases e7
                    · have e : j = ys.length := by omega
                      subst e
                      rw [List.drop_length] at e7
                      unfold lcIn at e7
                      split at e7
                      · rename_i hck1
                        cases e7
                        exact .inl ⟨(wd1 _ m7 H7 _ g7 R7 hck1).2 (Nat.le_refl _), m7, _, gg7, R7, PostE.grow p2 g7⟩
                      · cases e7
                  · exact False.elim p2
                | _ => exact False.elim p2
            | _ => exact False.elim p2
          | _ => exact False.elim p2
        | _ => exact False.elim p2
      · exact False.elim p2
    · have e : i = xs.length := by omega
      subst e
      rw [List.drop_length] at p2
      unfold lc2Loop at p2
      split at p2
      · rename_i hck
        exact .inl ⟨(wd _ m2 H2 h2 (gN.trans g2) R2 hck).2 (Nat.le_refl _), p2 m2 H2 _ (Grow.refl _ _) R2 (.ref (g2.loc _ _ nN))⟩
      · exact False.elim p2
variable {tg1 iter1 : Expr} {ifs1 : List Expr} {fi1 : FI} {gt1 : GT} {ft1 : FE} {ws vs1 : List Nat} {wk1 : Bool}
theorem se_lc2 (hc : X.calm = true) (hN : X.N.Nodup) (hi : SI X W wk tg iter fi) (ok : BlkOk X.N X.env.scope scope own)
    (hg : ∀ (s : Shared) (H : Hp) (C : Addr) (cl : List (Str × Addr)) (fp : List Addr), SG (X.blk s H scope (compEnvC scope cl C X.env) fp) wk tg vs gt) (ht : ∀ (s : Shared) (H : Hp) (C : Addr) (cl : List (Str × Addr)) (fp : List Addr), STs (X.blk s H scope (compEnvC scope cl C X.env) fp) ifs ft)
    (hi1 : ∀ (s : Shared) (H : Hp) (C : Addr) (cl : List (Str × Addr)) (fp : List Addr), SI (X.blk s H scope (compEnvC scope cl C X.env) fp) W0 wk1 tg1 iter1 fi1)
    (hg1 : ∀ (s : Shared) (H : Hp) (C : Addr) (cl : List (Str × Addr)) (fp : List Addr), SG (X.blk s H scope (compEnvC scope cl C X.env) fp) wk1 tg1 ws gt1) (ht1 : ∀ (s : Shared) (H : Hp) (C : Addr) (cl : List (Str × Addr)) (fp : List Addr), STs (X.blk s H scope (compEnvC scope cl C X.env) fp) ifs1 ft1)
    (he : ∀ (s : Shared) (H : Hp) (C : Addr) (cl : List (Str × Addr)) (fp : List Addr), SE (X.blk s H scope (compEnvC scope cl C X.env) fp) W0 elt fe) (hs : ∀ x, foldedSetIterable iter X.env x = pure x := by intro _; rfl) (hs1 : ∀ env x, foldedSetIterable iter1 env x = pure x := by intro _ _; rfl)
    (hv : vs.all (fun i => (own.map (·.2)).contains i) = true := by rfl) (hv1 : vs1.all (fun i => (own.map (·.2)).contains i) = true := by rfl) (hw1 : ws.all (fun i => vs1.contains i) = true := by rfl) :
    SE X W (.ListComp elt [⟨tg, iter, ifs, 0⟩, ⟨tg1, iter1, ifs1, 0⟩] scope pos) (eLc2 fi gt ft fi1 gt1 ft1 fe (own.map (·.2)) vs1) :=
  PE.imp (pe_lc2 (g := tSG X.K X.mg wk vs gt) (tt := tST X.K X.mg W0 ft) (te := tS X.K X.mg W0 fe) (wi1 := tSI X.K X.mg W0 wk1 fi1) (g1 := tSG X.K X.mg wk1 ws gt1) (tt1 := tST X.K X.mg W0 ft1) hc hN hi ok (mem_all hv1) hg ht hi1 hg1 ht1 he hs hs1) fun σ H Q h => lc2_ok (mem_all hv) (mem_all hw1) h
theorem ss_setLc2 {i : Nat} {y : Str} {py spos : Pos} (hc : X.calm = true) (hN : X.N.Nodup) (hy : X.N[i]? = some y) (hyl : X.env.scope.names.lookup y = some .local)
    (hsw : swapsWith (.ListComp elt [⟨tg, iter, ifs, 0⟩, ⟨tg1, iter1, ifs1, 0⟩] scope pos) (some (.Name y py)) spos.line X.env = pure true) (hi : SI X W wk tg iter fi) (ok : BlkOk X.N X.env.scope scope own)
    (hg : ∀ (s : Shared) (H : Hp) (C : Addr) (cl : List (Str × Addr)) (fp : List Addr), SG (X.blk s H scope (compEnvC scope cl C X.env) fp) wk tg vs gt) (ht : ∀ (s : Shared) (H : Hp) (C : Addr) (cl : List (Str × Addr)) (fp : List Addr), STs (X.blk s H scope (compEnvC scope cl C X.env) fp) ifs ft)
    (hi1 : ∀ (s : Shared) (H : Hp) (C : Addr) (cl : List (Str × Addr)) (fp : List Addr), SI (X.blk s H scope (compEnvC scope cl C X.env) fp) W0 wk1 tg1 iter1 fi1)
    (hg1 : ∀ (s : Shared) (H : Hp) (C : Addr) (cl : List (Str × Addr)) (fp : List Addr), SG (X.blk s H scope (compEnvC scope cl C X.env) fp) wk1 tg1 ws gt1) (ht1 : ∀ (s : Shared) (H : Hp) (C : Addr) (cl : List (Str × Addr)) (fp : List Addr), STs (X.blk s H scope (compEnvC scope cl C X.env) fp) ifs1 ft1)
    (he : ∀ (s : Shared) (H : Hp) (C : Addr) (cl : List (Str × Addr)) (fp : List Addr), SE (X.blk s H scope (compEnvC scope cl C X.env) fp) W0 elt fe) (hs : ∀ x, foldedSetIterable iter X.env x = pure x := by intro _; rfl) (hs1 : ∀ env x, foldedSetIterable iter1 env x = pure x := by intro _ _; rfl)
    (hv : vs.all (fun i => (own.map (·.2)).contains i) = true := by rfl) (hv1 : vs1.all (fun i => (own.map (·.2)).contains i) = true := by rfl) (hw1 : ws.all (fun i => vs1.contains i) = true := by rfl) :
    SS X W (.Assign [.Name y py] (.ListComp elt [⟨tg, iter, ifs, 0⟩, ⟨tg1, iter1, ifs1, 0⟩] scope pos) spos) (gSet i (eLc2 fi gt ft fi1 gt1 ft1 fe (own.map (·.2)) vs1)) := by
  refine PS.imp (ps_setLc2 (g := tSG X.K X.mg wk vs gt) (tt := tST X.K X.mg W0 ft) (te := tS X.K X.mg W0 fe) (wi1 := tSI X.K X.mg W0 wk1 fi1) (g1 := tSG X.K X.mg wk1 ws gt1) (tt1 := tST X.K X.mg W0 ft1) hc hN hy hyl hsw hi ok (mem_all hv1) hg ht hi1 hg1 ht1 he hs hs1) fun D σ H h => ?_
  obtain ⟨m, s, h, R0, rs, p⟩ := h
  refine lc2_ok (X := X) (W := W) (wk := wk) (mem_all hv) (mem_all hw1) ⟨m, s, h, R0, rs, PostE.mono (PostS.ofE rs p) ?_⟩
  rintro x H1 ⟨m1, dx, h1, g1, R1, rx, p1⟩
  exact p1 m1 H1 _ (Grow.refl _ _) R1 ((rs.grow g1).set i rx)

/-! ### raise, try -/
/-- what the written part says of an own exception class without __init__ -/
structure ExcT (X : Cx) (c : Str) (C : Addr) : Prop where
  gC : X.mg c = some (.ref C)
  xC : PySem.W.excIn X.K C [.type "ValueError", .type "Exception", .type "BaseException", .type "object"] "ValueError.__new__" = true
  kC : PySem.W.keepIn X.K (.ref C) = true
  bC : PySem.W.subIn X.K (.ref C) (.type "BaseException") = some true
  tC : PySem.W.typeIn X.K (.ref C) = some (.type "type")
theorem pmk_own0 {x : Str} {C : Addr} {p : Pos} (T : ExcT X x C) (hg : Gl X x) (hdb : (x == ("__debug__" : Str)) = false := by decide) : PMk X (.Call (.Name x p) [] [] pos) (fun _ H Q => Q (.ref C) none H) := by
  intro pins s σ H Q I h
  refine wpAny_Call_Name_kw (ld_glob I hg T.gC ?_ hdb)
  refine PySem.W.callWith_K0 I.kIn T.kC ?_
  show wpAny _ _ (call (.ref C) []) _ _ _
  obtain ⟨bm, N, nm, qn, bs, hdct, sn, sub, ab, col, dd, k0, k1, k2, k3, k5, mN, hC, hN, hni, TT⟩ := exc_obj I.kIn T.xC
  refine wpAny_call_exc_subT PySem.F.excBase_ValueError TT hC hN hni (fun h' e hm => ?_) (by show 0 ≤ sizeLine; rw [sizeLine_eq]; omega)
  exact mk_of I hm (raises_own T.bC T.tC) h (I.hok.gone hm.new)
def gRaise (c : Str) : FS := fun s h => .exc c [] s h
theorem ss_raise {x : Str} {C : Addr} {p pos' : Pos} (hc : X.calm = true) (tk : Takes X W) (T : ExcT X x C) (hg : Gl X x) (hdb : (x == ("__debug__" : Str)) = false := by decide) : SS X W (.Raise (some (.Call (.Name x p) [] [] pos')) none pos) (gRaise x) := by
  refine PS.imp (ps_raise hc tk (pmk_own0 T hg hdb)) fun D σ H h => ?_
  obtain ⟨m, s, h, R0, rs, p⟩ := h
  exact p m H σ (.ref C) none (Grow.refl _ _) R0 rs ⟨C, T.gC, rfl, fun z => absurd rfl z⟩
end
end Sh

set_option Elab.async false
set_option linter.all false
set_option maxRecDepth 100000
set_option maxHeartbeats 4000000
namespace Sh
open PySem L2 PyProof.Rows
/-! ### try -/
/-- which classes a clause takes -/
abbrev SubT := List ((Str × Str) × Bool)
def SubOk (K : PySem.W.Frag) (mg : Str → Option Value) (l : SubT) : Prop := ∀ p ∈ l, ∀ C Cx, mg p.1.1 = some (.ref C) → mg p.1.2 = some (.ref Cx) → PySem.W.exmOne K (.ref C) (.ref Cx) = some p.2
def subT (l : SubT) (c x : Str) : Option Bool := l.lookup (c, x)
theorem mem_look {κ α : Type} [BEq κ] [LawfulBEq κ] : ∀ {l : List (κ × α)} {k : κ} {v : α}, l.lookup k = some v → (k, v) ∈ l
  | [], _, _, e => by simp at e
  | (q, w) :: l, k, v, e => by
    by_cases h : k = q
    · subst h
      simp [List.lookup] at e
      subst e
      exact List.mem_cons_self ..
    · have hb : (k == q) = false := by simpa using h
      simp only [List.lookup, hb] at e
      exact List.mem_cons_of_mem _ (mem_look e)
theorem subT_ok {K : PySem.W.Frag} {mg : Str → Option Value} {l : SubT} (S : SubOk K mg l) {c x : Str} {b : Bool} (e : subT l c x = some b) {C Cx : Addr} (h1 : mg c = some (.ref C)) (h2 : mg x = some (.ref Cx)) : PySem.W.exmOne K (.ref C) (.ref Cx) = some b :=
  S ((c, x), b) (mem_look e) C Cx h1 h2
def handle (l : SubT) : List (Str × FS) → Str → List (Str × D) → DS → Hm → RT
  | [], c, fs, s, h => .exc c fs s h
  | (x, g) :: r, c, fs, s, h => match subT l c x with
    | some true => (match g s h with
      | .exc _ _ _ _ => .bad
      | t => t)
    | some false => handle l r c fs s h
    | none => .bad
def gTry (l : SubT) (gb : FS) (hs : List (Str × FS)) : FS := fun s h => match gb s h with
  | .exc c fs s' h' => handle l hs c fs s' h'
  | r => r
abbrev Hd := Str × Addr × FS
section
variable {X : Cx} {W : WX} {body : List Stmt} {pos : Pos} {gb : FS}
def SHd (X : Cx) (hds : List ExceptHandler) (hs : List Hd) : Prop := HdsOk X hds (hs.map fun p => (.ref p.2.1, fun _ _ _ => tSS X.K X.mg W0 p.2.2)) ∧ ∀ p ∈ hs, X.mg p.1 = some (.ref p.2.1)
theorem sh_nil : SHd X [] [] := ⟨.nil, fun _ z => by cases z⟩
theorem sh_cons {x : Str} {C : Addr} {g : FS} {b₀ : Stmt} {suite : List Stmt} {np pos' : Pos} {hds : List ExceptHandler} {hs : List Hd} (hg : Gl X x) (gC : X.mg x = some (.ref C))
    (hsu : ∀ (a : Addr) (oe : Obj) (pn : List (Addr × Obj)), SSs (X.suite a ((a, oe) :: pn)) W0 (b₀ :: suite) g) (r : SHd X hds hs) (hdb : (x == ("__debug__" : Str)) = false := by decide) : SHd X (.ExceptHandler (some (.Name x np)) none (b₀ :: suite) pos' :: hds) ((x, C, g) :: hs) :=
  ⟨.cons ⟨hg, hdb, .inl gC⟩ (fun a oe cls d pn _ _ => hsu a oe pn) r.1, fun p hp => by
    rcases List.mem_cons.mp hp with rfl | hp
    · exact gC
    · exact r.2 p hp⟩
theorem try_ok {l : SubT} {hs : List Hd} {En : Ends} {m : List Addr} {H : Hp} (S : SubOk X.K X.mg l) (hm : ∀ p ∈ hs, X.mg p.1 = some (.ref p.2.1)) {c : Str} {fs : List (Str × D)} {s' : DS} {h' : Hm}
    (p : PostS X.K X.mg W m H (handle l (hs.map fun p => (p.1, p.2.2)) c fs s' h') En) : ∀ m' H' σ' cls dx, Grow m H m' H' → R X.K X.mg m' H' h' → RS X.K m' H' σ' s' → ExcAt X.K X.mg m' H' cls dx c fs →
      wMany X.K W En (hs.map fun p => (.ref p.2.1, fun _ _ _ => tSS X.K X.mg W0 p.2.2)) cls dx σ' H' := by
  intro m' H' σ' cls dx g R' rs' ex
  induction hs with
  | nil => exact p m' H' σ' cls dx g R' rs' ex
  | cons q r ih =>
    obtain ⟨x, C, gs⟩ := q
    have gx : X.mg x = some (.ref C) := hm (x, C, gs) (List.mem_cons_self ..)
    obtain ⟨Cc, e1, e2, e3⟩ := id ex
    rw [List.map_cons] at p
    unfold handle at p
    split at p
    · rename_i hb
      refine ⟨true, by rw [e2]; exact subT_ok S hb e1 gx, fun _ a ha => ⟨m', s', h', R', rs', ?_⟩, fun z => Bool.noConfusion z⟩
      replace p := PostS.grow p g
      dsimp only at p
      show PostS X.K X.mg W0 m' H' (gs s' h') En
      generalize gs s' h' = t at p ⊢
      cases t <;> first | exact p | exact False.elim p
    · rename_i hb
      exact ⟨false, by rw [e2]; exact subT_ok S hb e1 gx, fun z => Bool.noConfusion z, fun _ => ih (fun p hp => hm p (List.mem_cons_of_mem _ hp)) p⟩
    · exact False.elim p
theorem ss_try {l : SubT} {h0 : ExceptHandler} {hds : List ExceptHandler} {hs : List Hd} (hst : X.stack = X.env :: X.outer) (hf : X.env.frame = some X.env.locals) (tk : Takes X W) (S : SubOk X.K X.mg l)
    (hb : ∀ (W : WX) (pn : List (Addr × Obj)) (xe : Value → Shared → Prop), Takes (X.tr pn xe) W → PassesOwn (model X.prog X.w) X.A X.env xe → SSs (X.tr pn xe) W body gb) (hh : SHd X (h0 :: hds) hs) :
    SS X W (.Try body (h0 :: hds) [] [] pos) (gTry l gb (hs.map fun p => (p.1, p.2.2))) := by
  refine PS.imp (ps_try_many hst hf tk (tb := fun W => tSS X.K X.mg W gb) hb hh.1) fun D σ H h => ?_
  obtain ⟨m, s, h, R0, rs, p⟩ := h
  refine ⟨m, s, h, R0, rs, ?_⟩
  unfold gTry at p
  generalize gb s h = r at p
  cases r with
  | exc c fs s' h' => exact try_ok S hh.2 p
  | nx s h => exact p
  | bk s h => exact p
  | ct s h => exact p
  | rt d h => exact p
  | bad => exact p
end

/-! ### a def -/
def runB (n : Nat) (g : FS) (ds : List D) (h : Hm) : RD := match g (ds.map some ++ List.replicate (n - ds.length) none) h with
  | .nx _ h' => .ok .non h'
  | .rt d h' => .ok d h'
  | .exc c fs _ h' => .exc c fs h'
  | _ => .bad
section
variable {P : Program} {w : World} {K : PySem.W.Frag} {mg : Str → Option Value} {base : Heap} {x qual : Str} {st : Stmt} {f : Addr} {fd : FuncData} {N ps : List Str} {k : Nat} {g : FS}
theorem okS (Fu : Fun K x qual st f fd) (S : FnScope N ps (defScope st))
    (hb : ∀ (cdv : Value) (A : Around) (outer : List Env) (s : Shared) (H : Hp) (E : XK), Room k (A.deeper (envOfC qual (defScope st) s.heap.objs.size f cdv)) →
      Takes (cxOf (L2.CX P w) P w K mg base N qual (defScope st) f cdv A outer s H E) (fun cls d _ H' => E cls d H') → PassesOwn (model P w) (A.deeper (envOfC qual (defScope st) s.heap.objs.size f cdv)) (envOfC qual (defScope st) s.heap.objs.size f cdv) (cxOf (L2.CX P w) P w K mg base N qual (defScope st) f cdv A outer s H E).xe →
      SSs (cxOf (L2.CX P w) P w K mg base N qual (defScope st) f cdv A outer s H E) (fun cls d _ H' => E cls d H') (defBody st) g) :
    FnOk P w K mg base (L2.CX P w) (k + 1) f fd ps (spF K mg ps.length (runB N.length g)) := by
  refine Fu.okX S (fun vs H Q E h => h.1) fun cdv A outer s H vs Q E hr h => ?_
  obtain ⟨hl, m, ds, h0, R0, rv, p⟩ := h
  have tk : Takes (cxOf (L2.CX P w) P w K mg base N qual (defScope st) f cdv A outer s H E) (fun cls d _ H' => E cls d H') := takes_of rfl rfl rfl rfl
  have po : PassesOwn (model P w) (A.deeper (envOfC qual (defScope st) s.heap.objs.size f cdv)) (envOfC qual (defScope st) s.heap.objs.size f cdv) (cxOf (L2.CX P w) P w K mg base N qual (defScope st) f cdv A outer s H E).xe := passes_of (X := cxOf (L2.CX P w) P w K mg base N qual (defScope st) f cdv A outer s H E) rfl
  refine ⟨_, hb cdv A outer s H E hr tk po, m, _, h0, R0, RS.start N rv, ?_⟩
  unfold runB at p
  generalize g (ds.map some ++ List.replicate (N.length - ds.length) none) h0 = r at p
  cases r with
  | nx s' h' => exact fun m' H' σ' gg R' rs' => p m' H' .non gg R' .non
  | rt d h' => exact p
  | exc c fs s' h' => exact fun m' H' σ' cls dx gg R' rs' ex => p m' H' cls dx gg R' ex
  | bk s' h' => exact False.elim p
  | ct s' h' => exact False.elim p
  | bad => exact False.elim p
end

/-! ### C(e, .., k = v, ..) -/
section
variable {X : Cx} {W : WX} {e : Expr} {es : List Expr} {fs fk : List FE} {kws : List Keyword} {pos p : Pos} {k n : Nat} {C fA : Addr} {fd : FuncData} {ps ks : List Str} {F : FF} {x : Str}
def tMakeS (C : Addr) (n m : Nat) (sp : Sp) (E : L2.St → XK) (t tk : TA) : TE := fun σ H Q => t σ H fun vs H1 => tk σ H1 fun zs H2 => vs.length = n ∧ zs.length = m ∧
  ∀ x dx, H2 x = none → H2 dx = none → dx ≠ x → sp (.ref x :: (vs ++ zs)) (upd (upd H2 dx (.own x)) x (.ins C dx [])) (fun v H3 => v = .non ∧ Q (.ref x) H3) (E σ)
theorem run_makeS {CX : CXT} {E : L2.St → XK} {sp : Sp} {pins : List (Addr × Obj)} {σ : L2.St} {H : Hp} {s : Shared} {Q : VK} {us ws : List Value} {vs zs : List V} (M : Mk X.K C fA) (G : FnOk X.prog X.w X.K X.mg X.base CX k fA fd ps sp) (hr : Room (k + 1) X.A)
    (hb : ∀ (s : Shared) (us ws : List Value), us.length = n + 1 → ws.length = ks.length → BindsTo s fd ⟨us, ks.zip ws⟩ (ps.zip (us ++ ws)))
    (hx : PassesAt CX X σ (E σ)) (I : Inv X pins σ H s) (r : Vals vs us) (rz : Vals zs ws) (l1 : vs.length = n) (l2 : zs.length = ks.length)
    (h : ∀ x dx, H x = none → H dx = none → dx ≠ x → sp (.ref x :: (vs ++ zs)) (upd (upd H dx (.own x)) x (.ins C dx [])) (fun v H2 => v = .non ∧ Q (.ref x) H2) (E σ)) :
    wpAny (model X.prog X.w) X.A (call (.ref C) us (ks.zip ws)) (EP X pins σ Q) X.xe s := by
  have hq := h (s.heap.objs.size + 1) s.heap.objs.size (I.hok.fresh (Nat.le_succ _)) (I.hok.fresh (Nat.le_refl _)) (Nat.ne_of_lt (Nat.lt_succ_self _))
  have I2 := Inv.made (C := C) I
  have r1 : Vals (V.ref (s.heap.objs.size + 1) :: vs) (Value.ref (s.heap.objs.size + 1) :: us) := .cons rfl r
  have r2 : Vals (V.ref (s.heap.objs.size + 1) :: (vs ++ zs)) (Value.ref (s.heap.objs.size + 1) :: (us ++ ws)) := .cons rfl (r.append rz)
  have e1 : (Value.ref (s.heap.objs.size + 1) :: us).length = n + 1 := r1.length.symm.trans (congrArg Nat.succ l1)
  have e2 : ws.length = ks.length := rz.length.symm.trans l2
  refine wpAny_call (make_map (f := fA) I.kIn M.makes M.init (beq_iff_eq.mp M.fn) (codeAny_mono (G.run _ X.stack _ _ ⟨Value.ref (s.heap.objs.size + 1) :: us, ks.zip ws⟩ (Value.ref (s.heap.objs.size + 1) :: (us ++ ws)) _ _ (E σ) (hr.make C us (ks.zip ws))
    (I2.env0.make C us (ks.zip ws)) (hb _ (Value.ref (s.heap.objs.size + 1) :: us) ws e1 e2) r2 hq) fun r s' hq' => ?_))
  cases r with
  | error e => exact hx pins _ _ e s' I2 hq'
  | ok fl =>
    cases fl with
    | ret u =>
      obtain ⟨v, H', I3, rv, ev, q3⟩ := I2.after hq'
      subst ev
      exact ⟨rv, ⟨V.ref (s.heap.objs.size + 1), H', I3, rfl, q3⟩⟩
    | next => exact False.elim hq'
    | brk => exact False.elim hq'
    | cont => exact False.elim hq'
theorem pe_makeS {CX : CXT} {E : L2.St → XK} {sp : Sp} {t tk : TA} (M : Mk X.K C fA) (G : FnOk X.prog X.w X.K X.mg X.base CX k fA fd ps sp) (hr : Room (k + 1) X.A) (hg : Gl X x) (hm : X.mg x = some (.ref C))
    (hb : ∀ (s : Shared) (us ws : List Value), us.length = n + 1 → ws.length = ks.length → BindsTo s fd ⟨us, ks.zip ws⟩ (ps.zip (us ++ ws))) (hx : ∀ σ, PassesAt CX X σ (E σ))
    (ha : PA X (e :: es) t) (hkw : PK X kws tk) (hall : (backToKw pos (keywordEach kws X.env)).all (·.1.isSome) = true := by rfl) (hks : (backToKw pos (keywordEach kws X.env)).filterMap (·.1) = ks := by rfl)
    (hdb : (x == ("__debug__" : Str)) = false := by decide) (he : starEach (e :: es) X.env = (false, eval e X.env) :: starEach es X.env := by rfl)
    (hpl : ((backTo pos (starEach (e :: es) X.env)).any (·.1) || (backToKw pos (keywordEach kws X.env)).any (·.1.isNone)) = false := by rfl) :
    PE X (.Call (.Name x p) (e :: es) kws pos) (tMakeS C n ks.length sp E t tk) := by
  refine ⟨fun pins s σ H Q I h => ?_⟩
  refine wpAny_Call_Name_kw (ld_glob I hg hm ?_ hdb)
  refine PySem.W.callWith_KW (h₀ := X.base) I.ok.mod.kin M.kp hall (thn (ha.run pos pins s σ H _ I h) fun us s1 ⟨vs, H1, I1, r, q⟩ => ?_) hpl he
  refine thn (hkw.run pos pins s1 σ H1 _ I1 q) fun ws s2 ⟨zs, H2, I2, rz, l1, l2, q2⟩ => ⟨I2.kIn, ?_⟩
  rw [hks]
  exact run_makeS M G hr hb (hx σ) I2 r rz l1 l2 q2
def SK (X : Cx) (W : WX) (kws : List Keyword) (fk : List FE) : Prop := PK X kws (tSA X.K X.mg W (evalL fk))
theorem PK.imp {X : Cx} {e : List Keyword} {t t' : TA} (h : PK X e t) (k : ∀ σ H Q, t' σ H Q → t σ H Q) : PK X e t' := ⟨fun pos pins s σ H Q I q => h.run pos pins s σ H Q I (k _ _ _ q)⟩
theorem sk_nil : SK X W [] [] := PK.imp pk_nil fun σ H Q ⟨m, s, h, r, rs, p⟩ => p m H [] (Grow.refl _ _) r .nil
theorem sk_cons {nm : Option Str} {kpos : Pos} {f : FE} (ha : SE X W e f) (hr : SK X W kws fk) : SK X W (⟨nm, e, kpos⟩ :: kws) (f :: fk) := by
  refine PK.imp (pk_cons ha hr) fun σ H Q h => ?_
  obtain ⟨m, s, h, R0, rs, p⟩ := h
  refine ⟨m, s, h, R0, rs, ?_⟩
  unfold evalL at p
  generalize f s h = r at p
  cases r with
  | ok d h1 =>
    intro m1 H1 v g1 R1 rv
    refine ⟨m1, s, h1, R1, rs.grow g1, ?_⟩
    replace p := PostA.grow p g1
    dsimp only at p
    generalize evalL fk s h1 = r2 at p
    cases r2 with
    | ok ds h2 => exact fun m2 H2 vs g2 R2 rvs => p m2 H2 (v :: vs) g2 R2 (.cons (rv.grow g2) rvs)
    | exc c fs h1 => exact p
    | bad => exact p
  | exc c fs h1 => exact p
  | bad => exact p
/-- a new instance of the class c -/
def dMake (c : Str) (F : FF) (ds : List D) (h : Hm) : RD := match F (.ref h.length :: ds) (h ++ [.ins c []]) with
  | .ok .non h2 => .ok (.ref h.length) h2
  | .ok _ _ => .bad
  | r => r
def eMake (c : Str) (F : FF) (fs fk : List FE) : FE := fun s h => match evalL fs s h with
  | .ok ds h1 => (match evalL fk s h1 with
    | .ok es h2 => dMake c F (ds ++ es) h2
    | .exc c x h1 => .exc c x h1
    | .bad => .bad)
  | .exc c x h1 => .exc c x h1
  | .bad => .bad
theorem se_make (M : Mk X.K C fA) (G : FnS X k fA fd ps F) (tk : Takes X W) (hr : Room (k + 1) X.A) (hg : Gl X x) (hm : X.mg x = some (.ref C))
    (hb : ∀ (s : Shared) (us ws : List Value), us.length = n + 1 → ws.length = ks.length → BindsTo s fd ⟨us, ks.zip ws⟩ (ps.zip (us ++ ws)))
    (ha : SA X W (e :: es) (evalL fs)) (hkw : SK X W kws fk) (hn : decide (fs.length = n) = true := by rfl) (hk2 : decide (fk.length = ks.length) = true := by rfl) (hps : decide (n + ks.length + 1 = ps.length) = true := by rfl)
    (hall : (backToKw pos (keywordEach kws X.env)).all (·.1.isSome) = true := by rfl) (hks : (backToKw pos (keywordEach kws X.env)).filterMap (·.1) = ks := by rfl)
    (hdb : (x == ("__debug__" : Str)) = false := by decide) (he : starEach (e :: es) X.env = (false, eval e X.env) :: starEach es X.env := by rfl)
    (hpl : ((backTo pos (starEach (e :: es) X.env)).any (·.1) || (backToKw pos (keywordEach kws X.env)).any (·.1.isNone)) = false := by rfl) :
    SE X W (.Call (.Name x p) (e :: es) kws pos) (eMake x F fs fk) := by
  refine PE.imp (pe_makeS M G hr hg hm hb (fun σ => passAt tk σ) ha hkw hall hks hdb he hpl) fun σ H Q h => ?_
  obtain ⟨m, s, h, R0, rs, p⟩ := h
  refine ⟨m, s, h, R0, rs, ?_⟩
  have hn := of_decide_eq_true hn
  have hk2 := of_decide_eq_true hk2
  have hps := of_decide_eq_true hps
  unfold eMake at p
  generalize q1 : evalL fs s h = r1 at p
  cases r1 with
  | ok ds h1 =>
    intro m1 H1 vs g1 R1 rvs
    refine ⟨m1, s, h1, R1, rs.grow g1, ?_⟩
    replace p := PostE.grow p g1
    try dsimp only at p
    generalize q2 : evalL fk s h1 = r2 at p
    cases r2 with
    | ok zs h2 =>
      intro m2 H2 ws g2 R2 rws
      replace p := PostE.grow p g2
      try dsimp only at p
      refine ⟨by rw [rvs.length, evalL_length q1]; exact hn, by rw [rws.length, evalL_length q2]; exact hk2, fun y dx hy hdx ne => ?_⟩
      have g3 : Grow m2 H2 m2 (upd H2 dx (.own y)) := Grow.new hdx
      have R3 : R X.K X.mg m2 (upd H2 dx (.own y)) h2 := R2.tup hdx
      have hy3 : upd H2 dx (.own y) y = none := by rw [upd_ne (Ne.symm ne)]; exact hy
      have g4 : Grow m2 (upd H2 dx (.own y)) (m2 ++ [y]) (upd (upd H2 dx (.own y)) y (.ins C dx [])) := Grow.newr hy3
      have R4 : R X.K X.mg (m2 ++ [y]) (upd (upd H2 dx (.own y)) y (.ins C dx [])) (h2 ++ [.ins x []]) := R3.new hy3 ⟨C, dx, [], hm, upd_same, .nil⟩
      have g5 := g3.trans g4
      refine ⟨?_, m2 ++ [y], .ref h2.length :: (ds ++ zs), h2 ++ [.ins x []], R4, .cons (.ref R3.newAt) (((rvs.grow g2).app rws).grow g5), ?_⟩
      · rw [List.length_cons, List.length_append, rvs.length, rws.length, evalL_length q1, evalL_length q2, hn, hk2]
        exact hps
      · replace p := PostE.grow p g5
        have nn : (m2 ++ [y])[h2.length]? = some y := R3.newAt
        unfold dMake at p
        generalize F (.ref h2.length :: (ds ++ zs)) (h2 ++ [.ins x []]) = r at p
        cases r with
        | ok d h6 =>
          cases d with
          | non => exact fun m6 H6 v g6 R6 rep => ⟨rep.non_inv, p m6 H6 _ g6 R6 (.ref (g6.loc _ _ nn))⟩
          | _ => exact False.elim p
        | exc c fs h6 => exact p
        | bad => exact False.elim p
    | exc c fs h1 => exact p
    | bad => exact p
  | exc c fs h1 => exact p
  | bad => exact p
end
end Sh

set_option Elab.async false
set_option linter.all false
set_option maxRecDepth 100000
set_option maxHeartbeats 4000000
namespace Sh
open PySem L2 PyProof.Rows
/-! ### enumerate -/
section
open Sem (wp)
open AutoSeq1 (wpAny_loadPart')
theorem meets_enum1 {v : Value} {o : Obj} {H : Heap → Prop} (B : Begins v o H) :
    Meets (Builtin.«enumerate.__new__» ⟨[.type "enumerate", v], []⟩) (fun _ R s => H s.heap ∧
      R (.ok (.ret (.ref (s.heap.push o).objs.size))) { s with heap := (s.heap.push o).push { cls := .type "enumerate", data := .fields #[.none, .bool false, .ref s.heap.objs.size, rawInt 0, .none, .none] } }) :=
  .of_wp fun prog w A R s h => by
    obtain ⟨hp, g, d, tk, os⟩ := s; obtain ⟨h1, h⟩ := h
    have hsub := sub_enumerate
    have q1 : ∀ {A' : Around} {E : Value → Shared → Prop} {Q : Value → Shared → Prop}, Q (.ref hp.objs.size) ⟨hp.push o, g, d, tk, os⟩ → wpAny (model prog w) A' (pyIter v) Q E ⟨hp, g, d, tk, os⟩ :=
      fun q => B.iter prog w _ _ ⟨hp, g, d, tk, os⟩ _ h1 q
    wp_walk using q1
    refine wpAny_stack_any fun st => wpAny_pure ?_
    split
    · rename_i c _ _ _ _ _
      cases (c == Value.type "enumerate")
      · wp_walk using q1
        exact ⟨_, rfl, h⟩
      · wp_walk using q1
        exact ⟨_, rfl, h⟩
    · wp_walk using q1
      exact ⟨_, rfl, h⟩
theorem call_enum1 {prog : Program} {w : World} {A : Around} {E : Value → Shared → Prop} {s : Shared} {v : Value} {o : Obj} {H : Heap → Prop} {Q : Value → Shared → Prop} (B : Begins v o H) (h1 : H s.heap)
    (h : ∀ h', IsEnum h' (s.heap.objs.size + 1) s.heap.objs.size 0 .none → h'.get? s.heap.objs.size = some o → h'.objs.size = s.heap.objs.size + 2 →
      (∀ b o, s.heap.get? b = some o → h'.get? b = some o) → Q (.ref (s.heap.objs.size + 1)) { s with heap := h' }) :
    wpAny (model prog w) A (call (.type "enumerate") [v]) Q E s := by
  refine callType_new F.called_enumerate (by decide) (F.typeCall_enumerate_1 _) (F.newCall_enumerate_1 _) (fun obj => F.args_object_init_2 obj _) F.entry_enumerate_new
    (meets_enum1 B) ⟨h1, ?_⟩
  have hz : (s.heap.push o).objs.size = s.heap.objs.size + 1 := Heap.size_push ..
  show _ ∧ _
  rw [hz]
  have he : IsEnum ((s.heap.push o).push { cls := .type "enumerate", data := .fields #[.none, .bool false, .ref s.heap.objs.size, rawInt 0, .none, .none] }) (s.heap.objs.size + 1) s.heap.objs.size 0 .none := by
    have := Heap.get?_push_size (s.heap.push o) (o := { cls := .type "enumerate", data := .fields #[.none, .bool false, .ref s.heap.objs.size, rawInt 0, .none, .none] }) rfl
    rw [hz] at this; exact this
  refine ⟨⟨_, he, rfl⟩, h _ he (Heap.get?_push_of_some _ (Heap.get?_push_size _ B.free)) (by rw [Heap.size_push, hz]) fun b o x => Heap.get?_push_of_some _ (Heap.get?_push_of_some _ x)⟩
end
/-- the tuple at a, each item in a new pair -/
def Itet (K : PySem.W.Frag) (a : Addr) : It :=
  ⟨fun i H => ∃ (xs : List V) (x : V), SqT K H a xs ∧ xs[i]? = some x, fun i H v H' => ∃ T x, v = .ref T ∧ H T = none ∧ H' = upd H T (.tup [.int (i : Nat), x]) ∧ ∀ xs, SqT K H a xs → xs[i]? = some x, fun i H => ∃ xs : List V, SqT K H a xs ∧ xs.length ≤ i⟩
theorem turn_enumT {P : Program} {w : World} {K : PySem.W.Frag} {elts : List Expr} {kk : Nat} {tpos : Pos} (a e it : Addr) :
    Turn P w K (.Tuple elts kk tpos) (Itet K a) [e, it] e (fun i h => (∃ old, IsEnum h e it ((i : Nat) : Int) old) ∧ h.IsTupleIter it a i ∧ e ≠ it ∧ e ≠ a ∧ a ≠ it) where
  mem := by simp
  obj := fun i h st b hb => by
    obtain ⟨⟨old, he⟩, ⟨o, ho, hc, hd⟩, _⟩ := st
    have e' : b = e ∨ b = it := by simpa using hb
    rcases e' with z | z
    · rw [z]; exact ⟨_, he, fun v q => nomatch q⟩
    · rw [z]; exact ⟨o, ho, fun v q => by rw [hd] at q; cases q⟩
  keep := fun i h h' st k => let ⟨⟨old, he⟩, hi, hne⟩ := st; ⟨⟨old, k e (by simp) _ he⟩, hi.at fun o q => k it (by simp) o q, hne⟩
  item := by
    intro X hP hw hK hc i pins s σ H E I hf st hg
    subst hP hw hK
    obtain ⟨⟨old, he⟩, hit, hne, hea, hai⟩ := st
    obtain ⟨xs, x, hq, hx⟩ := hg
    obtain ⟨its, rv, p, hz⟩ := I.tuple hq
    obtain ⟨u, hu, ru⟩ := rv.get hx
    have hel : e < s.heap.objs.size := Heap.lt_size he
    have hil : it < s.heap.objs.size := by obtain ⟨_, q, _⟩ := hit; exact Heap.lt_size q
    have hlt : i < its.toArray.size := by
      have := (List.getElem?_eq_some_iff.mp hu).1
      simpa using this
    refine wpAny_pyNext_enum_itemD (Draws.tuple (A := X.A.in1) (I.ok.hd hc) it a hai its.toArray) he ⟨hit, show s.heap.IsTuple a its.toArray from p⟩ hlt hne (by simp [hne, hea]) fun y h' tk hy ho hst hT hsz hk => ?_
    have ey : y = u := by
      have q : its[i]? = some y := by simpa using hy
      rw [hu] at q
      exact (Option.some.inj q).symm
    subst ey
    have hit' : h'.IsTupleIter it a (i + 1) := hst.1
    refine ⟨_, rfl, wpAny_letOwnedTupleGo_enum (s := { s with heap := h', toks := tk + 1 }) ho fun h'' he' sb => ?_⟩
    have hT2 : h''.get? s.heap.objs.size = some { cls := .type "tuple", data := .seq #[.int i tk, y] } := (sb.2 _ (Nat.ne_of_gt hel)).trans hT
    have new : ObjOk X.prog X.w (upd H s.heap.objs.size (.tup [.int (i : Nat), x])) h'' s.heap.objs.size (.tup [.int (i : Nat), x]) :=
      ⟨by show 2 ≤ sizeLine; decide, [.int i tk, y], .cons ⟨_, rfl⟩ (.cons ru .nil), ⟨_, hT2, rfl, _, rfl⟩⟩
    have I1 : Inv X pins σ (upd H s.heap.objs.size (.tup [.int (i : Nat), x])) { s with heap := h'', toks := tk + 1 } :=
      I.turnedNew (ch := [e, it]) (fun b ob hb q => (sb.2 b (fun z => hb (by simp [z]))).trans (hk b ob (fun z => hb (by simp [z])) (fun z => hb (by simp [z])) q)) hf (Nat.le_refl _) new
    refine ⟨.ref s.heap.objs.size, _, I1, rfl, ⟨_, x, rfl, I.hok.fresh (Nat.le_refl _), rfl, fun ys hy => by rw [I.tuple_inj hy hq]; exact hx⟩, ⟨⟨y, ?_⟩, hit'.at fun o q => (sb.2 it (Ne.symm hne)).trans q, hne, hea, hai⟩, fun b hb => ?_⟩
    · have e1 : ((i + 1 : Nat) : Int) = (i : Int) + 1 := by omega
      rw [e1]; exact he'
    · have hb' : b < s.heap.objs.size := by
        have e' : b = e ∨ b = it := by simpa using hb
        rcases e' with z | z
        · rw [z]; exact hel
        · rw [z]; exact hil
      rw [upd_ne (Nat.ne_of_lt hb')]
      exact (hf b hb).1
  done := by
    intro X hP hw hK hc i pins s σ H E I hf st hg
    subst hP hw hK
    obtain ⟨⟨old, he⟩, hit, hne, hea, hai⟩ := st
    obtain ⟨xs, hq, hx⟩ := hg
    obtain ⟨its, rv, p, hz⟩ := I.tuple hq
    obtain ⟨f0, f1, f2, f3, f4, f5⟩ := hf it (by simp)
    have hl := rv.length
    unfold pyNext
    have hT : s.TypeIs (.ref e) "enumerate" := ⟨_, he, rfl⟩
    refine wpAny_bind (wpAny_attempt (wpAny_callSpecial?_slot (name := Str.ofString "__next__") hT F.slot_enumerate_next
      (wpAny_call_entry F.slot_enumerate_next hT F.entry_enumerate_next ?_ (F.args_enumerate_next_1 _))))
    show wpAny _ _ (field (.ref e) 2 >>= _) _ _ _
    refine wpAny_bind (wpAny_field he rfl (x := .ref it) rfl ?_)
    refine wpAny_bind (wpAny_nextOf_tuple_end (A := X.A.in1) (I.ok.hd hc) hit (show s.heap.IsTuple a its.toArray from p) (by simp; omega) fun h' e0 eb hsi => ?_)
    obtain ⟨o, ho, hc⟩ := hsi
    refine wpAny_bind (wpAny_isInstance (T := "StopIteration") (b := true) ⟨o, ho, hc⟩ isSubtype_stop ?_)
    exact wpAny_pure ⟨rfl, I.turned (t' := s.toks) (fun b o hb q => eb b o hb q) f0 f1 f3 f4 f5⟩
  self := fun A i s Q E st h => let ⟨⟨_, he⟩, _⟩ := st; wpAny_pyIter_enum he h
section
variable {X : Cx} {W : WX} {e : Expr} {f : FE} {p pos tpos : Pos} {elts : List Expr} {kk : Nat}
/-- of a list or a tuple -/
theorem pi_enumS {ta : TA} (hg : Gl X "enumerate") (hm : X.mg "enumerate" = none) (ha : PA X [e] ta) (hs : starEach [e] X.env = [(false, eval e X.env)] := by rfl) :
    PI X (.Tuple elts kk tpos) (.Call (.Name "enumerate" p) [e] [] pos) (fun σ H R => ta σ H fun vs H1 => ∃ x, vs = [x] ∧ ∃ a, x = .ref a ∧ (((∃ xs, SqL X.K H1 a xs) ∧ R (Ite X.K a) H1) ∨ ((∃ xs, SqT X.K H1 a xs) ∧ R (Itet X.K a) H1))) := by
  refine ⟨fun pins s σ H R I h => ?_⟩
  refine Call_ (ld_blt I hg hm boot_enumerate (PyProof.Rows.callWith_type1 (thn (ha.run pos pins s σ H _ I h) fun us s1 ⟨vs, H1, I1, r1, x, q0, q1⟩ => ?_) hs rfl))
  subst q0
  obtain ⟨a, ex, q⟩ := q1
  subst ex
  cases r1 with
  | cons r rr =>
    cases rr
    cases r
    rcases q with ⟨⟨xs, hq⟩, q⟩ | ⟨⟨xs, hq⟩, q⟩
    · obtain ⟨its, rv, p', hz⟩ := I1.list hq
      refine call_enumerate_list p'.isList fun h' he hit hsz hk => wpAny_pyIter_enum he ?_
      have I2 : Inv X pins σ H1 { s1 with heap := h' } := I1.kept (t' := s1.toks) hk
      refine ⟨s1.heap.objs.size + 1, [s1.heap.objs.size + 1, s1.heap.objs.size], _, _, H1, rfl, I2, turn_enum a (s1.heap.objs.size + 1) s1.heap.objs.size, ⟨⟨.none, he⟩, hit, Nat.succ_ne_self _⟩, fun b hb => ?_, q⟩
      have e' : b = s1.heap.objs.size + 1 ∨ b = s1.heap.objs.size := by simpa using hb
      have hle : s1.heap.objs.size ≤ b := by
        rcases e' with z | z
        · rw [z]; exact Nat.le_add_right _ _
        · rw [z]; exact Nat.le_refl _
      exact I1.fpOk hle (I1.hok.fresh hle)
    · obtain ⟨its, rv, p', hz⟩ := I1.tuple hq
      have hl : a < s1.heap.objs.size := by
        obtain ⟨ob, ho, _⟩ := (show s1.heap.IsTuple a its.toArray from p')
        exact Heap.lt_size ho
      refine call_enum1 (begins_tuple a its.toArray) (show s1.heap.IsTuple a its.toArray from p') fun h' he hit hsz hk => wpAny_pyIter_enum he ?_
      have I2 : Inv X pins σ H1 { s1 with heap := h' } := I1.kept (t' := s1.toks) hk
      refine ⟨s1.heap.objs.size + 1, [s1.heap.objs.size + 1, s1.heap.objs.size], _, _, H1, rfl, I2, turn_enumT a (s1.heap.objs.size + 1) s1.heap.objs.size, ⟨⟨.none, he⟩, ⟨_, hit, rfl, rfl⟩, Nat.succ_ne_self _, Nat.ne_of_gt (Nat.lt_succ_of_lt hl), Nat.ne_of_lt hl⟩, fun b hb => ?_, q⟩
      have e' : b = s1.heap.objs.size + 1 ∨ b = s1.heap.objs.size := by simpa using hb
      have hle : s1.heap.objs.size ≤ b := by
        rcases e' with z | z
        · rw [z]; exact Nat.le_add_right _ _
        · rw [z]; exact Nat.le_refl _
      exact I1.fpOk hle (I1.hok.fresh hle)
def enD : Nat → List D → List D
  | _, [] => []
  | i, d :: ds => .tup [.int (i : Nat), d] :: enD (i + 1) ds
theorem enD_get : ∀ {ds : List D} {k i : Nat}, (enD k ds)[i]? = (ds[i]?).map fun d => .tup [.int ((k + i : Nat) : Nat), d]
  | [], k, i => by simp [enD]
  | d :: ds, k, 0 => by simp [enD]
  | d :: ds, k, i + 1 => by
    have e : k + 1 + i = k + (i + 1) := by omega
    simp only [enD, List.getElem?_cons_succ]
    rw [enD_get, e]
theorem enD_length : ∀ {ds : List D} {k : Nat}, (enD k ds).length = ds.length
  | [], k => rfl
  | d :: ds, k => by simp [enD, enD_length]
def iEn (d : D) (h : Hm) : RI := match d with
  | .tup ds => .ok (enD 0 ds) none h
  | .ref n => match items h (.ref n) with
    | some ds => .ok (enD 0 ds) (some (n, ds)) h
    | none => .bad
  | _ => .bad
def fiEn (f : FE) : FI := fun s h => (f s h).it iEn
theorem walk_enumL {K : PySem.W.Frag} {mg : Str → Option Value} {m : List Addr} {H : Hp} {n : Nat} {a : Addr} {ds : List D} (hm : m[n]? = some a) : WalkD K mg true (Ite K a) (enD 0 ds) (some (n, ds)) m H := by
  intro i m' H' h g r hc
  obtain ⟨vs, hq, l⟩ := items_ref r (g.loc _ _ hm) (chkB_ok hc)
  refine ⟨fun x hx => ?_, fun hle => ⟨vs, hq, by rw [l.length]; rw [enD_length] at hle; exact hle⟩⟩
  rw [enD_get] at hx
  obtain ⟨d, hd, rfl⟩ := Option.map_eq_some_iff.mp hx
  obtain ⟨v, hv, rv⟩ := l.get hd
  refine ⟨⟨vs, v, hq, hv⟩, fun v' H2 hy => ?_⟩
  obtain ⟨T, w, rfl, hT, rfl, hy⟩ := hy
  have e := hy vs hq
  rw [hv] at e
  cases e
  refine ⟨Grow.new hT, r.tup hT, .inr ⟨rfl, T, _, _, rfl, .inl (.inl upd_same), .cons (.int _) (.cons (rv.grow (Grow.new hT)) .nil), ?_⟩⟩
  rw [Nat.zero_add]
theorem walk_enumT {K : PySem.W.Frag} {mg : Str → Option Value} {m : List Addr} {H : Hp} {a : Addr} {ds : List D} {vs : List V} (ht : TupS K H a vs) (l : RepL K m H vs ds) : WalkD K mg true (Itet K a) (enD 0 ds) none m H := by
  intro i m' H' h g r hc
  have hq := (g.tupS ht).sqT
  replace l := l.grow g
  refine ⟨fun x hx => ?_, fun hle => ⟨vs, hq, by rw [l.length]; rw [enD_length] at hle; exact hle⟩⟩
  rw [enD_get] at hx
  obtain ⟨d, hd, rfl⟩ := Option.map_eq_some_iff.mp hx
  obtain ⟨v, hv, rv⟩ := l.get hd
  refine ⟨⟨vs, v, hq, hv⟩, fun v' H2 hy => ?_⟩
  obtain ⟨T, w, rfl, hT, rfl, hy⟩ := hy
  have e := hy vs hq
  rw [hv] at e
  cases e
  refine ⟨Grow.new hT, r.tup hT, .inr ⟨rfl, T, _, _, rfl, .inl (.inl upd_same), .cons (.int _) (.cons (rv.grow (Grow.new hT)) .nil), ?_⟩⟩
  rw [Nat.zero_add]
theorem si_enum (hg : Gl X "enumerate") (hm : X.mg "enumerate" = none) (he : SE X W e f) (hs : starEach [e] X.env = [(false, eval e X.env)] := by rfl) (hs2 : starEach [e] X.env = (false, eval e X.env) :: starEach [] X.env := by rfl) :
    SI X W true (.Tuple elts kk tpos) (.Call (.Name "enumerate" p) [e] [] pos) (fiEn f) := by
  refine PI.imp (pi_enumS hg hm (pa_cons he pa_nil hs2) hs) fun σ H Q h => ?_
  obtain ⟨m, s, h, R0, rs, p⟩ := h
  refine ⟨m, s, h, R0, rs, PostE.mono (PostI.ofE p) ?_⟩
  rintro x H1 ⟨m1, dx, h1, g1, R1, rx, p1⟩
  refine ⟨x, rfl, ?_⟩
  unfold iEn at p1
  split at p1
  · obtain ⟨a, vs, rfl, t, l⟩ := rx.tup_inv
    exact ⟨a, rfl, .inr ⟨⟨vs, t.sqT⟩, p1 m1 H1 _ (Grow.refl _ _) R1 (walk_enumT t l)⟩⟩
  · split at p1
    · rename_i ds hi
      obtain ⟨a, rfl, hm⟩ := rx.ref_inv
      obtain ⟨vs, hq, l⟩ := items_ref R1 hm hi
      exact ⟨a, rfl, .inl ⟨⟨vs, hq⟩, p1 m1 H1 _ (Grow.refl _ _) R1 (walk_enumL hm)⟩⟩
    · exact False.elim p1
  · exact False.elim p1
end
end Sh

set_option Elab.async false
set_option linter.all false
set_option maxRecDepth 100000
set_option maxHeartbeats 4000000
namespace Sh
open PySem L2 PyProof.Rows
/-! ### dicts with keys that are ints or texts -/
section
variable {X : Cx} {W : WX} {o i e b c : Expr} {fo fi f fb fc : FE} {pos pos' apos cpos p : Pos}
def eDnew : FE := fun _ h => .ok (.ref h.length) (h ++ [.dk []])
theorem se_dnew : SE X W (.Dict [] [] pos) eDnew := PE.imp pe_dnewK fun σ H Q ⟨m, s, h, r, rs, p⟩ q hq =>
  p _ _ _ (Grow.newr hq) (r.new hq ⟨[], upd_same, .nil⟩) (.ref r.newAt)
def keyD : D → Option Key
  | .int i => some (.inl i)
  | .str x => some (.inr x)
  | _ => none
theorem keyD_rep {K : PySem.W.Frag} {m : List Addr} {H : Hp} {v : V} {d : D} {k : Key} (r : Rep K m H v d) (e : keyD d = some k) : v = kV k := by
  cases r <;> simp [keyD] at e <;> subst e <;> rfl
def valD (kvs : List (Key × D)) (k : Key) : Option D := (kvs.find? fun kv => decide (kv.1 = k)).map (·.2)
def putKD (kvs : List (Key × D)) (k : Key) (v : D) : List (Key × D) :=
  if (kvs.any fun kv => decide (kv.1 = k)) = true then kvs.map (fun kv => if kv.1 = k then (kv.1, v) else kv) else kvs ++ [(k, v)]
section
variable {K : PySem.W.Frag} {m : List Addr} {H : Hp}
theorem RepK.val (k : Key) : ∀ {x : List (Key × V)} {y : List (Key × D)}, RepK K m H x y → (valV x k = none ∧ valD y k = none) ∨ ∃ v d, valV x k = some v ∧ valD y k = some d ∧ Rep K m H v d
  | _, _, .nil => .inl ⟨rfl, rfl⟩
  | (k1, v) :: x, (k2, d) :: y, .cons q t => by
    obtain ⟨e1, q⟩ := q
    simp only at e1
    subst e1
    by_cases e : k1 = k
    · subst e
      exact .inr ⟨v, d, by simp [valV], by simp [valD], q⟩
    · rcases RepK.val k t with ⟨a, b⟩ | ⟨v, d, a, b, r⟩
      · exact .inl ⟨by simpa [valV, List.find?_cons, e] using a, by simpa [valD, List.find?_cons, e] using b⟩
      · exact .inr ⟨v, d, by simpa [valV, List.find?_cons, e] using a, by simpa [valD, List.find?_cons, e] using b, r⟩
theorem RepK.any (k : Key) : ∀ {x : List (Key × V)} {y : List (Key × D)}, RepK K m H x y → (x.any fun kv => decide (kv.1 = k)) = (y.any fun kv => decide (kv.1 = k))
  | _, _, .nil => rfl
  | (k1, v) :: x, (k2, d) :: y, .cons q t => by
    obtain ⟨e1, q⟩ := q
    simp only at e1
    subst e1
    simp only [List.any_cons, RepK.any k t]
theorem RepK.mapP (k : Key) {v : V} {d : D} (r : Rep K m H v d) : ∀ {x : List (Key × V)} {y : List (Key × D)}, RepK K m H x y → RepK K m H (x.map fun kv => if kv.1 = k then (kv.1, v) else kv) (y.map fun kv => if kv.1 = k then (kv.1, d) else kv)
  | _, _, .nil => .nil
  | (k1, v) :: x, (k2, d) :: y, .cons q t => by
    obtain ⟨e1, q⟩ := q
    simp only at e1
    subst e1
    refine .cons ?_ (RepK.mapP k r t)
    by_cases e : k1 = k
    · simp only [e, if_true]; exact ⟨trivial, r⟩
    · simp only [e, if_false]; exact ⟨trivial, q⟩
theorem RepK.app : ∀ {x x' : List (Key × V)} {y y' : List (Key × D)}, RepK K m H x y → RepK K m H x' y' → RepK K m H (x ++ x') (y ++ y')
  | _, _, _, _, .nil, s => s
  | _, _, _, _, .cons r t, s => .cons r (RepK.app t s)
theorem RepK.put (k : Key) {v : V} {d : D} (r : Rep K m H v d) {x : List (Key × V)} {y : List (Key × D)} (t : RepK K m H x y) : RepK K m H (putK x k v) (putKD y k d) := by
  unfold putK putKD
  rw [RepK.any k t]
  split
  · exact t.mapP k r
  · exact t.app (.cons ⟨rfl, r⟩ .nil)
theorem RepK.len {x : List (Key × V)} {y : List (Key × D)} (t : RepK K m H x y) : x.length = y.length := Paired.length t
end
/-- d[k] = v -/
def gDput (fo fi fv : FE) : FS := fun s h => (fv s h).st s fun v h1 => (fo s h1).st s fun d h2 => (fi s h2).st s fun y h3 => match d, keyD y with
  | .ref n, some k => (match h3[n]? with
    | some (.dk kvs) => if kvs.length < big then .nx s (h3.set n (.dk (putKD kvs k v))) else .bad
    | _ => .bad)
  | _, _ => .bad
theorem ss_dput {k : Nat} (hr : Room k X.A) (ho : SE X W o fo) (hi : SE X W i fi) (hv : SE X W e f) (hs : swapsWith e (some (.Subscript o i pos')) pos.line X.env = pure false := by rfl) : SS X W (.Assign [.Subscript o i pos'] e pos) (gDput fo fi f) := by
  have hu := hr.units
  refine PS.imp (ps_dput (by omega) ho hi hv hs) fun D σ H h => ?_
  obtain ⟨m, s, h, R0, rs, p⟩ := h
  refine ⟨m, s, h, R0, rs, PostE.mono (PostS.ofE rs p) ?_⟩
  rintro v H1 ⟨m1, dv, h1, g1, R1, rv, p1⟩
  refine ⟨m1, s, h1, R1, rs.grow g1, PostE.mono (PostS.ofE (rs.grow g1) p1) ?_⟩
  rintro x H2 ⟨m2, dx, h2, g2, R2, rx, p2⟩
  refine ⟨m2, s, h2, R2, (rs.grow g1).grow g2, PostE.mono (PostS.ofE ((rs.grow g1).grow g2) p2) ?_⟩
  rintro y H3 ⟨m3, dy, h3, g3, R3, ry, p3⟩
  split at p3
  · rename_i n k hk
    split at p3
    · rename_i kvs hn
      split at p3
      · rename_i hl
        obtain ⟨a, rfl, hm⟩ := (rx.grow g3).ref_inv
        have xo := R3.ob _ _ _ hm hn
        obtain ⟨kv, q1, q2⟩ := id xo
        have ek := keyD_rep ry hk
        subst ek
        refine ⟨a, _, rfl, DPut.k q1 (by rw [q2.len]; exact Nat.lt_of_lt_of_le hl (big_line (Nat.le_refl _))), ?_⟩
        have g4 : Grow m3 H3 m3 (upd H3 a (.dK (putK kv k v))) := Grow.set xo rfl
        exact p3 m3 _ σ g4 (R3.set hm hn rfl ⟨putK kv k v, upd_same, ((q2.grow g4).put k ((rv.grow (g2.trans g3)).grow g4))⟩) ((rs.grow (g1.trans (g2.trans g3))).grow g4)
      · exact False.elim p3
    · exact False.elim p3
  · exact False.elim p3
/-- d.get(k), d.get(k, x); d[k], k there -/
def dGet (d y z : D) (h : Hm) : RD := match d, keyD y with
  | .ref n, some k => (match h[n]? with
    | some (.dk kvs) => .ok ((valD kvs k).getD z) h
    | _ => .bad)
  | _, _ => .bad
def dHas (d y : D) (h : Hm) : Option (Option D) := match d, keyD y with
  | .ref n, some k => (match h[n]? with
    | some (.dk kvs) => some (valD kvs k)
    | _ => none)
  | _, _ => none
def isDk (d : D) (h : Hm) : Bool := match d with
  | .ref n => (match h[n]? with
    | some (.dk _) => true
    | _ => false)
  | _ => false
theorem isDk_ok {m : List Addr} {H : Hp} {h : Hm} {x : V} {d : D} (R0 : R X.K X.mg m H h) (rx : Rep X.K m H x d) (e : isDk d h = true) : ∃ a, x = .ref a ∧ IsD H a := by
  unfold isDk at e
  split at e
  · split at e
    · rename_i n _ kvs hn
      obtain ⟨a, rfl, hm⟩ := rx.ref_inv
      obtain ⟨kv, q1, q2⟩ := R0.ob _ _ _ hm hn
      exact ⟨a, rfl, .inl ⟨kv, .inl q1⟩⟩
    · cases e
  · cases e
theorem dHas_ok {m : List Addr} {H : Hp} {h : Hm} {x y : V} {d dy : D} {r : Option D} (R0 : R X.K X.mg m H h) (rx : Rep X.K m H x d) (ry : Rep X.K m H y dy) (e : dHas d dy h = some r) :
    ∃ a o, x = .ref a ∧ DGet H a y o ∧ ((o = none ∧ r = none) ∨ ∃ v z, o = some v ∧ r = some z ∧ Rep X.K m H v z) := by
  unfold dHas at e
  split at e
  · rename_i n k hk
    split at e
    · rename_i kvs hn
      cases e
      obtain ⟨a, rfl, hm⟩ := rx.ref_inv
      obtain ⟨kv, q1, q2⟩ := R0.ob _ _ _ hm hn
      have ek := keyD_rep ry hk
      subst ek
      rcases q2.val k with ⟨h1, h2⟩ | ⟨v, z, h1, h2, h3⟩
      · exact ⟨a, none, rfl, by rw [← h1]; exact DGet.k q1, .inl ⟨rfl, h2⟩⟩
      · exact ⟨a, some v, rfl, by rw [← h1]; exact DGet.k q1, .inr ⟨v, z, rfl, h2, h3⟩⟩
    · cases e
  · cases e
def eDget1 (fo fi : FE) : FE := fun s h => (fo s h).bind fun d h1 => if isDk d h1 = true then (fi s h1).bind fun y h2 => match dHas d y h2 with
  | some r => .ok (r.getD .non) h2
  | none => .bad
  else .bad
def eDget2 (fo fi fx : FE) : FE := fun s h => (fo s h).bind fun d h1 => if isDk d h1 = true then (fi s h1).bind fun y h2 => (fx s h2).bind fun z h3 => match dHas d y h3 with
  | some r => .ok (r.getD z) h3
  | none => .bad
  else .bad
def eDix (fo fi : FE) : FE := fun s h => (fo s h).bind fun d h1 => (fi s h1).bind fun y h2 => match dHas d y h2 with
  | some (some v) => .ok v h2
  | _ => .bad
theorem se_dget1 {k : Nat} (hr : Room k X.A) (ho : SE X W o fo) (he : SE X W e fi) (m : M1 X o "get" apos e cpos) : SE X W (.Call (.Attribute o "get" apos) [e] [] cpos) (eDget1 fo fi) := by
  have hu := hr.units
  refine PE.imp (pe_dget1 (by omega) ho he m) fun σ H Q h => ?_
  obtain ⟨m, s, h, R0, rs, p⟩ := h
  refine ⟨m, s, h, R0, rs, PostE.mono (PostE.bind p) ?_⟩
  rintro x H1 ⟨m1, dx, h1, g1, R1, rx, p1⟩
  split at p1
  · rename_i hd
    obtain ⟨a, rfl, hD⟩ := isDk_ok R1 rx hd
    refine ⟨a, rfl, hD, m1, s, h1, R1, rs.grow g1, PostE.mono (PostE.bind p1) ?_⟩
    rintro y H2 ⟨m2, dy, h2, g2, R2, ry, p2⟩
    split at p2
    · rename_i r hr
      obtain ⟨a', o, e, g, q⟩ := dHas_ok R2 (rx.grow g2) ry hr
      cases e
      refine ⟨o, g, ?_⟩
      rcases q with ⟨rfl, rfl⟩ | ⟨v, z, rfl, rfl, rv⟩
      · exact p2.val R2 .non
      · exact p2.val R2 rv
    · exact False.elim p2
  · exact False.elim p1
theorem se_dget2 {k : Nat} (hr : Room k X.A) (ho : SE X W o fo) (he : SE X W e fi) (hf : SE X W b fb) (m : M2 X o "get" apos e b cpos) : SE X W (.Call (.Attribute o "get" apos) [e, b] [] cpos) (eDget2 fo fi fb) := by
  have hu := hr.units
  refine PE.imp (pe_dget2 (by omega) ho he hf m) fun σ H Q h => ?_
  obtain ⟨m, s, h, R0, rs, p⟩ := h
  refine ⟨m, s, h, R0, rs, PostE.mono (PostE.bind p) ?_⟩
  rintro x H1 ⟨m1, dx, h1, g1, R1, rx, p1⟩
  split at p1
  · rename_i hd
    obtain ⟨a, rfl, hD⟩ := isDk_ok R1 rx hd
    refine ⟨a, rfl, hD, m1, s, h1, R1, rs.grow g1, PostE.mono (PostE.bind p1) ?_⟩
    rintro y H2 ⟨m2, dy, h2, g2, R2, ry, p2⟩
    refine ⟨m2, s, h2, R2, (rs.grow g1).grow g2, PostE.mono (PostE.bind p2) ?_⟩
    rintro z H3 ⟨m3, dz, h3, g3, R3, rz, p3⟩
    split at p3
    · rename_i r hr
      obtain ⟨a', o, e, g, q⟩ := dHas_ok R3 (rx.grow (g2.trans g3)) (ry.grow g3) hr
      cases e
      refine ⟨o, g, ?_⟩
      rcases q with ⟨rfl, rfl⟩ | ⟨v, z, rfl, rfl, rv⟩
      · exact p3.val R3 rz
      · exact p3.val R3 rv
    · exact False.elim p3
  · exact False.elim p1
theorem se_dix {k : Nat} (hr : Room k X.A) (ho : SE X W o fo) (hi : SE X W i fi) (hs : NoSl i) : SE X W (.Subscript o i pos) (eDix fo fi) := by
  have hu := hr.units
  refine PE.imp (pe_dget (by omega) ho hi hs) fun σ H Q h => ?_
  obtain ⟨m, s, h, R0, rs, p⟩ := h
  refine ⟨m, s, h, R0, rs, PostE.mono (PostE.bind p) ?_⟩
  rintro x H1 ⟨m1, dx, h1, g1, R1, rx, p1⟩
  refine ⟨m1, s, h1, R1, rs.grow g1, PostE.mono (PostE.bind p1) ?_⟩
  rintro y H2 ⟨m2, dy, h2, g2, R2, ry, p2⟩
  split at p2
  · rename_i r hr
    obtain ⟨a', o, e, g, q⟩ := dHas_ok R2 (rx.grow g2) ry hr
    cases e
    rcases q with ⟨rfl, h0⟩ | ⟨v, z, rfl, h0, rv⟩
    · cases h0
    · cases h0
      exact ⟨a', v, rfl, g, p2.val R2 rv⟩
  · exact False.elim p2
end
end Sh

set_option Elab.async false
set_option linter.all false
set_option maxRecDepth 100000
set_option maxHeartbeats 4000000
namespace Sh
open PySem L2 PyProof.Rows L2.DX
open PySem.W (EachIs AllAlike Sortable dataLe)
/-! ### sorted(d.items()) -/
section
variable {X : Cx}
def rItemsK : V → List V → Hp → VK → Prop := fun x xs H Q => ∃ (a : Addr) (kvs : List (Key × V)), x = .ref a ∧ xs = [] ∧ H a = some (.dK kvs) ∧ ∀ p, H p = none → Q (.ref p) (upd H p (itemsO p a))
theorem mt_itemsK : MtR X "dict.items" rItemsK := by
  intro pins s σ H x xs v us Q I rx rxs h
  obtain ⟨a, kvs, rfl, rfl, ha, q⟩ := h
  cases rx
  cases rxs
  obtain ⟨z, hd, xs', rel, o, es, ep, ho, hx, hdat, _⟩ := dk_rd I.hok (.inl ha)
  refine DT.callItems (es := es) (ep := ep) hd ⟨o, ho, hx, hdat⟩ ?_
  have hf : H s.heap.objs.size = none := I.hok.fresh (Nat.le_refl _)
  exact ⟨.ref s.heap.objs.size, upd H s.heap.objs.size (itemsO s.heap.objs.size a), I.laid (t' := s.toks) (fun b u e => Heap.get?_push_of_some _ e) (Nat.le_refl _) (itemsO_ok (Heap.get?_push_size _ rfl)), rfl, q _ hf⟩
/-- things already laid are tracked -/
theorem takeF {pins : List (Addr × Obj)} {σ : L2.St} {H0 : Hp} {s : Shared} {h' : Heap} {tk : Nat} {P : Addr → HO → Prop} (I0 : Inv X pins σ H0 s) : ∀ (L : List Addr) (H1 : Hp), Inv X pins σ H1 { s with heap := h', toks := tk } → L.Nodup →
    (∀ a ∈ L, s.heap.objs.size ≤ a ∧ H1 a = none ∧ ∃ u, P a u ∧ ∀ H2, ObjOk X.prog X.w H2 h' a u) →
    ∃ H2, Inv X pins σ H2 { s with heap := h', toks := tk } ∧ (∀ b o, H1 b = some o → H2 b = some o) ∧ ∀ a ∈ L, ∃ u, P a u ∧ H2 a = some u
  | [], H1, I1, _, _ => ⟨H1, I1, fun _ _ e => e, fun _ h => nomatch h⟩
  | a :: L, H1, I1, hn, h => by
    obtain ⟨hb, hnone, u, hP, ok⟩ := h a (List.mem_cons_self ..)
    have I2 : Inv X pins σ (upd H1 a u) { s with heap := h', toks := tk } := I1.take (h' := h') (t' := tk) (fun b ob _ e => e) (I0.fpOk hb hnone) (ok _)
    rw [List.nodup_cons] at hn
    obtain ⟨H2, I3, g, q⟩ := takeF I0 L (upd H1 a u) I2 hn.2 fun c hc => by
      obtain ⟨c1, c2, c3⟩ := h c (List.mem_cons_of_mem _ hc)
      exact ⟨c1, by rw [upd_ne (fun z => hn.1 (by rw [← z]; exact hc))]; exact c2, c3⟩
    refine ⟨H2, I3, fun b o e => g b o (by rw [upd_ne (ne_of_none e hnone)]; exact e), fun c hc => ?_⟩
    rcases List.mem_cons.mp hc with rfl | hc
    · exact ⟨u, hP, g _ _ upd_same⟩
    · exact q c hc
def kP : Key → PyData
  | .inl i => .int i
  | .inr x => .str x
theorem pairs_at {prog : Program} {w : World} : ∀ {es : List DictEntry} {kvs : List (Key × Value)} {j : Nat} {e : DictEntry}, Pairs (mixKind prog w) es kvs → es[j]? = some e → ∃ p : Key × Value, kvs[j]? = some p ∧ keyIs p.1 e.key = true ∧ e.val = p.2
  | _, _, j, e, .nil, h => by simp at h
  | _, _, 0, e, .cons (kv := kv) h1 h2 _, h => by
    simp only [List.getElem?_cons_zero] at h
    cases h
    exact ⟨kv, rfl, h1, h2⟩
  | _, _, j + 1, e, .cons _ _ t, h => by
    simp only [List.getElem?_cons_succ] at h ⊢
    exact pairs_at t h
theorem pairs_len {prog : Program} {w : World} {es : List DictEntry} {kvs : List (Key × Value)} (h : Pairs (mixKind prog w) es kvs) : es.length = kvs.length := Pairs.length h
theorem key_reads {h : Heap} {k : Key} {v : Value} (e : keyIs k v = true) : Reads h v (kP k) [] := by
  rcases keyIs_shape e with ⟨i, t, rfl, rfl⟩ | ⟨x, t, rfl, rfl⟩
  · exact .int i t
  · exact .str x t
theorem key_rel {k : Key} {v : Value} (e : keyIs k v = true) : RelV (kV k) v := by
  rcases keyIs_shape e with ⟨i, t, rfl, rfl⟩ | ⟨x, t, rfl, rfl⟩
  · exact ⟨t, rfl⟩
  · exact ⟨t, rfl⟩
theorem each_of {α β : Type} {R : α → β → Prop} : ∀ {as : List α} {bs : List β}, as.length = bs.length → (∀ (j : Nat) a b, as[j]? = some a → bs[j]? = some b → R a b) → EachIs R as bs
  | [], [], _, _ => .nil
  | [], _ :: _, h, _ => by simp at h
  | _ :: _, [], h, _ => by simp at h
  | a :: as, b :: bs, h, k => .cons (k 0 a b rfl rfl) (each_of (by simpa using h) fun j x y h1 h2 => k (j + 1) x y (by simpa using h1) (by simpa using h2))
theorem each_mem' {α β : Type} {R : α → β → Prop} : ∀ {as : List α} {bs : List β}, EachIs R as bs → ∀ a ∈ as, ∃ b ∈ bs, R a b
  | _, _, .nil, a, h => nomatch h
  | _, _, .cons r t, a, h => by
    rcases List.mem_cons.mp h with rfl | h
    · exact ⟨_, List.mem_cons_self .., r⟩
    · obtain ⟨b, hb, q⟩ := each_mem' t a h
      exact ⟨b, List.mem_cons_of_mem _ hb, q⟩
abbrev KVP := (Key × V) × PyData
def rSortIK (K : PySem.W.Frag) : List V → Hp → VK → Prop := fun vs H Q => ∃ (p a : Addr) (bs : List KVP), vs = [.ref p] ∧ H p = some (itemsO p a) ∧ H a = some (.dK (bs.map (·.1))) ∧ bs.length ≤ big ∧
  (∀ b ∈ bs, ∃ d, Dp K H b.1.2 d ∧ b.2 = .tuple [kP b.1.1, d] ∧ b.2.depth ≤ 50) ∧ AllAlike (bs.map (·.2)) ∧
  ∀ (H' : Hp) (l : Addr) (qs : List Addr), (∀ b o, H b = some o → H' b = some o) → H l = none → H' l = some (.lst (qs.map V.ref)) →
    EachIs (fun q b => ∃ o, H' q = some (.frz o (.tup [kV b.1.1, b.1.2])) ∧ o.dict = none) qs (bs.mergeSort (dataLe false (·.2))) → Q (.ref l) H'
theorem reads_in {h : Heap} {v : Value} {d : PyData} {as : List Addr} {l : Addr} (r : Reads h v d as) (hl : h.objs.size ≤ l) : l ∉ as := fun z => by
  obtain ⟨o, ho⟩ := PyProof.On.reads_mem_get r l z
  exact absurd (Heap.lt_size ho) (Nat.not_lt.mpr hl)
theorem cr_sortIK (hc : X.calm = true) (hu : X.A.units + 64 < cLine) : CallR X (.builtin "sorted") (rSortIK X.K) := by
  intro pins s σ H xs us Q I r h
  obtain ⟨p, a, bs, rfl, hp, ha, h64, hbs, hal, q⟩ := h
  obtain rfl := Vals.ref1 r
  have view : s.heap.IsItemsView p a := (show ObjOk X.prog X.w H s.heap p (itemsO p a) from I.hok p _ hp).1
  obtain ⟨z, hd, xs', rel, o, es, ep, ho, hx, hdat, hkeys, hpairs, hnd⟩ := dk_rd I.hok (.inl ha)
  have l1 : bs.length = xs'.length := by have := Paired.length rel; simpa using this
  have l2 : es.size = xs'.length := by have := pairs_len hpairs; simpa using this
  have hh : X.A.handled = none := I.ok.hd hc
  refine DT.sortedI (es := es) (ep := ep) hh view ⟨o, ho, hx, hdat⟩ (by rw [l2, ← l1]; exact big_line h64) fun h' tk as hk hlt hl hG => ?_
  have las : as.length = bs.length := by omega
  have nd : as.Nodup := List.Pairwise.imp (fun h => Nat.ne_of_lt h) hG.rise
  -- the pairs that were made
  have pr : ∀ (j : Nat) (t : Addr), as[j]? = some t → ∃ (b : KVP) (kv vv : Value), bs[j]? = some b ∧ keyIs b.1.1 kv = true ∧ RelV b.1.2 vv ∧ h'.get? t = some { cls := .type "tuple", data := .seq #[kv, vv] } := by
    intro j t hj
    obtain ⟨en, he, hg⟩ := hG.pairs j t hj
    obtain ⟨pq, hpq, hkey, hval⟩ := pairs_at hpairs (j := j) (e := en) (by simpa using he)
    obtain ⟨kv, h0, h1, h2⟩ := pget rel hpq
    rw [List.getElem?_map] at h0
    obtain ⟨b, hb, rfl⟩ := Option.map_eq_some_iff.mp h0
    exact ⟨b, en.key, en.val, hb, by rw [h1]; exact hkey, by rw [hval]; exact h2, hg⟩
  have hob : (h'.push { cls := .type "list", data := .seq (as.map Value.ref).toArray }).get? h'.objs.size = some (seqObj "list" (as.map Value.ref).toArray 0) := Heap.get?_push_size _ rfl
  have kb : ∀ b o, s.heap.get? b = some o → (h'.push { cls := .type "list", data := .seq (as.map Value.ref).toArray }).get? b = some o := fun b o e => Heap.get?_push_of_some _ (hk b o e)
  have ne0 : ∀ b o, h'.get? b = some o → b ≠ h'.objs.size := fun b o e => Nat.ne_of_lt (Heap.lt_size e)
  generalize hh2 : h'.push { cls := .type "list", data := .seq (as.map Value.ref).toArray } = h2 at hob kb ⊢
  have ka : ∀ b o, h'.get? b = some o → h2.get? b = some o := fun b o e => by rw [← hh2]; exact Heap.get?_push_of_some _ e
  refine PySem.W.list_sort_data (s := { s with heap := h2, toks := tk }) (A := X.A.in1) (enc := fun b : KVP => b.2) (bs := bs) (R := fun v b => ∃ (j : Nat) (t : Addr), v = .ref t ∧ as[j]? = some t ∧ bs[j]? = some b)
    hob (each_of (by rw [List.length_map]; exact las) fun j v b h1 h2 => ?_) (each_of (by rw [List.length_map]; exact las) fun j v b h1 h2' => ?_) hal (.inl fun d hd => ?_) (big_line h64) (fun b hb => ?_) fun out hol hout => ?_
  · rw [List.getElem?_map] at h1
    obtain ⟨t, ht, rfl⟩ := Option.map_eq_some_iff.mp h1
    exact ⟨j, t, rfl, ht, h2⟩
  · rw [List.getElem?_map] at h1
    obtain ⟨t, ht, rfl⟩ := Option.map_eq_some_iff.mp h1
    obtain ⟨b', kv, vv, hb', hkey, hval, hg⟩ := pr j t ht
    obtain rfl : b' = b := Option.some.inj (hb'.symm.trans h2')
    obtain ⟨d, hd, e2, e4⟩ := hbs b' (List.mem_of_getElem? hb')
    obtain ⟨ws, hr⟩ := Dp.reads I d b'.1.2 vv hd hval
    have hr2 : Reads h2 vv d ws := Reads.keeps kb hr
    refine ⟨[] ++ (ws ++ []), ?_, ?_⟩
    · show Reads h2 (.ref t) b'.2 _
      rw [e2]
      exact Reads.tuple (ka _ _ hg) rfl rfl (.cons (key_reads hkey) (.cons hr2 .nil))
    · have := reads_in (l := h'.objs.size) hr (Nat.le_of_lt hlt)
      simpa using this
  · obtain ⟨b, hb, rfl⟩ := List.mem_map.mp hd
    obtain ⟨d, _, e2, _⟩ := hbs b hb
    exact ⟨_, _, e2⟩
  · obtain ⟨d, _, e2, e4⟩ := hbs b hb
    have hu2 : X.A.in1.units = X.A.units + 1 := rfl
    rw [hu2]
    show X.A.units + 1 + 1 + b.2.depth < cLine
    omega
  · show EP X pins σ Q (.ref h'.objs.size) { s with heap := sortedHeap h2 h'.objs.size (as.map Value.ref) out.toArray, toks := tk }
    have hln : out.length = bs.length := hol
    have oref : ∃ qs : List Addr, out = qs.map Value.ref ∧ (∀ t ∈ qs, t ∈ as) ∧ EachIs (fun t b => ∃ j : Nat, as[j]? = some t ∧ bs[j]? = some b) qs (bs.mergeSort (dataLe false fun b : KVP => b.2)) := by
      generalize bs.mergeSort (dataLe false fun b : KVP => b.2) = B at hout
      clear hol hln q
      induction hout with
      | nil => exact ⟨[], rfl, (fun _ z => nomatch z), .nil⟩
      | cons h1 t1 ih =>
        obtain ⟨j, t, rfl, h2, h3⟩ := h1
        obtain ⟨qs, rfl, h4, h5⟩ := ih
        refine ⟨t :: qs, rfl, fun x hx => ?_, .cons ⟨j, h2, h3⟩ h5⟩
        rcases List.mem_cons.mp hx with rfl | hx
        · exact List.mem_of_getElem? h2
        · exact h4 x hx
    obtain ⟨qs, rfl, hqs, hE⟩ := oref
    have kF : ∀ b o, b ≠ h'.objs.size → h2.get? b = some o → (sortedHeap h2 h'.objs.size (as.map Value.ref) (qs.map Value.ref).toArray).get? b = some o := fun b o hb e => (PyProof.Rows.sortedHeap_old hb (Heap.lt_size e)).trans e
    have kS : ∀ b o, s.heap.get? b = some o → (sortedHeap h2 h'.objs.size (as.map Value.ref) (qs.map Value.ref).toArray).get? b = some o := fun b o e => kF b o (ne0 _ _ (hk b o e)) (kb b o e)
    obtain ⟨eF, heF⟩ := PyProof.Rows.sortedHeap_at (vs := as.map Value.ref) (out := (qs.map Value.ref).toArray) hob
    have I1 : Inv X pins σ H { s with heap := sortedHeap h2 h'.objs.size (as.map Value.ref) (qs.map Value.ref).toArray, toks := tk } := I.kept (t' := tk) kS
    have hn0 : H h'.objs.size = none := I.hok.fresh (Nat.le_of_lt hlt)
    have hlen : (qs.map V.ref).length ≤ sizeLine := by
      rw [List.length_map] at hln ⊢
      rw [hln]
      exact big_line h64
    have rv : Vals (qs.map V.ref) (qs.map Value.ref) := vals_maps V.ref Value.ref qs fun _ _ => rfl
    have I2 : Inv X pins σ (upd H h'.objs.size (.lst (qs.map V.ref))) { s with heap := sortedHeap h2 h'.objs.size (as.map Value.ref) (qs.map Value.ref).toArray, toks := tk } :=
      I1.take (h' := sortedHeap h2 h'.objs.size (as.map Value.ref) (qs.map Value.ref).toArray) (t' := tk) (fun b ob _ e => e) (I.fpOk (Nat.le_of_lt hlt) hn0) ⟨hlen, _, eF, rv, heF⟩
    obtain ⟨H2, I3, g, qt⟩ := takeF (P := fun t u => ∃ (j : Nat) (b : KVP) (o : Obj), as[j]? = some t ∧ bs[j]? = some b ∧ u = .frz o (.tup [kV b.1.1, b.1.2]) ∧ o.dict = none) I as _ I2 nd fun t ht => by
      obtain ⟨j, hj⟩ := List.mem_iff_getElem?.mp ht
      obtain ⟨b, kv, vv, hb, hkey, hval, hg⟩ := pr j t hj
      have hbl : s.heap.objs.size ≤ t := Nat.le_of_lt (hG.above t ht)
      refine ⟨hbl, ?_, _, ⟨j, b, _, hj, hb, rfl, rfl⟩, fun H3 => ⟨kF _ _ (ne0 _ _ hg) (ka _ _ hg), (by rw [sizeLine_eq]; show 2 ≤ 16777216; omega), [kv, vv], .cons (key_rel hkey) (.cons hval .nil), ⟨_, kF _ _ (ne0 _ _ hg) (ka _ _ hg), rfl, 0, rfl⟩⟩⟩
      rw [upd_ne (ne0 _ _ hg)]
      exact I.hok.fresh hbl
    refine ⟨.ref h'.objs.size, H2, I3, rfl, q H2 h'.objs.size qs (fun b o e => g b o (by rw [upd_ne (ne_of_none e hn0)]; exact e)) hn0 (g _ _ upd_same) ?_⟩
    have hq := fun t ht => qt t (hqs t ht)
    clear q rv hlen I1 I2 kF kS eF heF hqs hn0
    generalize bs.mergeSort (dataLe false fun b : KVP => b.2) = B at hE
    refine hE.mono fun t b hb => ?_
    obtain ⟨j, j1, j2⟩ := hb
    obtain ⟨u, ⟨i, b', o, i1, i2, eu, eo⟩, hH⟩ := qt t (List.mem_of_getElem? j1)
    have eij : i = j := (List.getElem?_inj (List.getElem?_eq_some_iff.mp i1).1 nd).mp (i1.trans j1.symm)
    subst eij
    obtain rfl : b' = b := Option.some.inj (i2.symm.trans j2)
    exact ⟨o, by rw [hH, eu], eo⟩
theorem Grow.pts {m : List Addr} {H H' : Hp} (g : ∀ b o, H b = some o → H' b = some o) : Grow m H m H' := ⟨fun _ _ h => h, fun a o u h => g a _ h⟩
/-- a new thing, and more that is not among the named ones -/
theorem R.new2 {K : PySem.W.Frag} {mg : Str → Option Value} {m : List Addr} {H H' : Hp} {h : Hm} {p : Addr} {o : O} (r : R K mg m H h) (g : ∀ b o, H b = some o → H' b = some o) (hp : H p = none) (x : ObjR K mg (m ++ [p]) H' p o) : R K mg (m ++ [p]) H' (h ++ [o]) := by
  have np : p ∉ m := fun z => by
    obtain ⟨n, hn, e⟩ := List.mem_iff_getElem.mp z
    exact r.there (n := n) (a := p) (by rw [List.getElem?_eq_getElem hn, e]) hp
  have gg : Grow m H (m ++ [p]) H' := (Grow.pts g).trans (Grow.more _)
  refine ⟨by simp [r.len], ?_, fun n a o' e1 e2 => ?_⟩
  · rw [List.nodup_append]
    refine ⟨r.nd, by simp, fun a ha b hb => ?_⟩
    have : b = p := by simpa using hb
    subst this
    rintro rfl
    exact np ha
  · by_cases hn : n < m.length
    · rw [List.getElem?_append_left hn] at e1
      rw [List.getElem?_append_left (by rw [← r.len]; exact hn)] at e2
      have th := r.there e1
      have eq : H' a = H a := by
        cases q : H a with
        | none => exact absurd q th
        | some u => exact g _ _ q
      exact (r.ob n a o' e1 e2).grow gg eq
    · have hn' : ¬ n < h.length := by rw [← r.len]; exact hn
      rw [List.getElem?_append_right (by omega)] at e1 e2
      have e : n - m.length = 0 := by
        have := (List.getElem?_eq_some_iff.mp e1).1
        simp at this
        omega
      rw [e] at e1
      rw [← r.len, e] at e2
      simp at e1 e2
      subst e1 e2
      exact x
def kD : Key → D
  | .inl i => .int i
  | .inr x => .str x
theorem kD_rep {K : PySem.W.Frag} {m : List Addr} {H : Hp} (k : Key) : Rep K m H (kV k) (kD k) := by
  cases k with
  | inl i => exact .int i
  | inr x => exact .str x
abbrev KDP := (Key × D) × PyData
def prepK (h : Hm) : List (Key × D) → Option (List KDP)
  | [] => some []
  | kv :: r => match toPy 20 h kv.2, prepK h r with
    | some d, some l => some ((kv, .tuple [kP kv.1, d]) :: l)
    | _, _ => none
def sortOk (l : List KDP) : Bool := decide (l.length ≤ big) && l.all (fun x => decide (x.2.depth ≤ 50)) && l.all fun x => l.all fun y => PySem.W.alike x.2 y.2
def dSortIt (d : D) (h : Hm) : RD := match d with
  | .ref n => match h[n]? with
    | some (.dk kvs) => match prepK h kvs with
      | some l => if sortOk l = true then .ok (.ref h.length) (h ++ [.lst ((l.mergeSort (dataLe false (·.2))).map fun x => .tup [kD x.1.1, x.1.2])]) else .bad
      | none => .bad
    | _ => .bad
  | _ => .bad
def eSortIt (f : FE) : FE := fun s h => (f s h).bind dSortIt
theorem prepK_ok {m : List Addr} {H : Hp} {h : Hm} (R0 : R X.K X.mg m H h) : ∀ {kv : List (Key × V)} {kvs : List (Key × D)} {l : List KDP}, RepK X.K m H kv kvs → prepK h kvs = some l →
    ∃ zs : List ((Key × V) × KDP), zs.map (·.1) = kv ∧ zs.map (·.2) = l ∧ ∀ z ∈ zs, z.1.1 = z.2.1.1 ∧ Rep X.K m H z.1.2 z.2.1.2 ∧ ∃ d, Dp X.K H z.1.2 d ∧ z.2.2 = .tuple [kP z.1.1, d]
  | _, _, l, .nil, e => by
    simp only [prepK] at e
    cases e
    exact ⟨[], rfl, rfl, fun _ z => nomatch z⟩
  | a :: kv, b :: kvs, l, .cons q t, e => by
    unfold prepK at e
    split at e
    · rename_i d l' h1 h2
      cases e
      obtain ⟨zs, e1, e2, e3⟩ := prepK_ok R0 t h2
      refine ⟨(a, (b, .tuple [kP b.1, d])) :: zs, by simp [e1], by simp [e2], fun z hz => ?_⟩
      rcases List.mem_cons.mp hz with rfl | hz
      · exact ⟨q.1, q.2, d, toPy_dp R0 _ _ _ _ q.2 h1, by rw [q.1]⟩
      · exact e3 z hz
    · cases e
theorem each_map' {α β γ : Type} {R : α → γ → Prop} (f : β → γ) : ∀ {as : List α} {bs : List β}, EachIs R as (bs.map f) → EachIs (fun a b => R a (f b)) as bs
  | [], [], _ => .nil
  | [], _ :: _, h => by cases h
  | _ :: _, [], h => by cases h
  | _ :: _, _ :: _, .cons h t => .cons h (each_map' f t)
theorem se_sortIt {W : WX} {e : Expr} {f : FE} {p apos cpos pos : Pos} {k : Nat} (hc : X.calm = true) (hr : Room k X.A) (hg : Gl X "sorted") (hm : X.mg "sorted" = none) (he : SE X W e f)
    (hbase : attributeBase e "items" X.env (eval e X.env) = eval e X.env := by rfl) (hline : (apos.endLine == cpos.line) = true := by rfl)
    (hst : starEach [.Call (.Attribute e "items" apos) [] [] cpos] X.env = (false, eval (.Call (.Attribute e "items" apos) [] [] cpos) X.env) :: starEach [] X.env := by rfl)
    (hpl : (backTo pos (starEach [.Call (.Attribute e "items" apos) [] [] cpos] X.env)).any (·.1) = false := by rfl) :
    SE X W (.Call (.Name "sorted" p) [.Call (.Attribute e "items" apos) [] [] cpos] [] pos) (eSortIt f) := by
  refine PE.imp (pe_callB (cr_sortIK hc hr.units) hg hm rfl (pa_cons (pe_bm0 PySem.F.plainAttrs_dict PySem.F.slot_dict_items PySem.F.type_dict_items mt_itemsK he hbase hline) pa_nil hst) (by decide) (by decide) hst hpl) fun σ H Q h => ?_
  obtain ⟨m, s, h, R0, rs, p⟩ := h
  refine ⟨m, s, h, R0, rs, PostE.mono (PostE.bind p) ?_⟩
  rintro x H1 ⟨m1, dx, h1, g1, R1, rx, p1⟩
  unfold dSortIt at p1
  split at p1
  · rename_i n
    split at p1
    · rename_i kvs hn
      split at p1
      · rename_i l hl
        split at p1
        · rename_i hok
          obtain ⟨a, rfl, hma⟩ := rx.ref_inv
          have xo := R1.ob _ _ _ hma hn
          obtain ⟨kv, q1, q2⟩ := id xo
          unfold sortOk at hok
          simp only [Bool.and_eq_true, decide_eq_true_eq, List.all_eq_true] at hok
          obtain ⟨⟨o1, o2⟩, o3⟩ := hok
          refine ⟨.inr (.inr (.inl ⟨rfl, .inl ⟨kv, q1⟩⟩)), a, kv, rfl, rfl, q1, fun q hq => ?_⟩
          have gq : ∀ b o, H1 b = some o → upd H1 q (itemsO q a) b = some o := fun b o e => by rw [upd_ne (ne_of_none e hq)]; exact e
          have g2 : Grow m1 H1 m1 (upd H1 q (itemsO q a)) := Grow.pts gq
          have R2 : R X.K X.mg m1 (upd H1 q (itemsO q a)) h1 := R1.tup hq
          obtain ⟨zs, e1, e2, e3⟩ := prepK_ok R2 (q2.grow g2) hl
          subst e2
          refine ⟨q, a, zs.map fun z => (z.1, z.2.2), rfl, upd_same, ?_, by simpa using o1, fun b hb => ?_, ?_, fun H3 l qs g3 hl3 hH3 hE => ?_⟩
          · rw [List.map_map]
            show upd H1 q (itemsO q a) a = some (.dK (zs.map fun z => z.1))
            rw [gq _ _ q1, e1]
          · obtain ⟨z, hz, rfl⟩ := List.mem_map.mp hb
            obtain ⟨_, _, d, k1, k2⟩ := e3 z hz
            exact ⟨d, k1, k2, o2 _ (List.mem_map.mpr ⟨z, hz, rfl⟩)⟩
          · intro d hd d' hd'
            rw [List.map_map] at hd hd'
            obtain ⟨z, hz, rfl⟩ := List.mem_map.mp hd
            obtain ⟨z', hz', rfl⟩ := List.mem_map.mp hd'
            exact o3 _ (List.mem_map.mpr ⟨z, hz, rfl⟩) _ (List.mem_map.mpr ⟨z', hz', rfl⟩)
          · have hs1 : (zs.map fun z => (z.1, z.2.2)).mergeSort (dataLe false fun b : KVP => b.2) = (zs.mergeSort (dataLe false fun z => z.2.2)).map fun z => (z.1, z.2.2) :=
              (List.map_mergeSort (f := fun z : (Key × V) × KDP => (z.1, z.2.2)) (r := dataLe false fun z => z.2.2) (fun _ _ _ _ => rfl)).symm
            have hs2 : (zs.map (·.2)).mergeSort (dataLe false fun b : KDP => b.2) = (zs.mergeSort (dataLe false fun z => z.2.2)).map (·.2) :=
              (List.map_mergeSort (f := fun z : (Key × V) × KDP => z.2) (r := dataLe false fun z => z.2.2) (fun _ _ _ _ => rfl)).symm
            rw [hs1] at hE
            rw [hs2] at p1
            have hmem : ∀ z ∈ zs.mergeSort (dataLe false fun z => z.2.2), z ∈ zs := fun z hz => (List.mergeSort_perm zs _).mem_iff.mp hz
            generalize zs.mergeSort (dataLe false fun z => z.2.2) = B at hE p1 hmem
            have hE' := each_map' _ hE
            have gg : ∀ b o, H1 b = some o → H3 b = some o := fun b o e => g3 b o (gq b o e)
            have g4 : Grow m1 H1 (m1 ++ [l]) H3 := (Grow.pts gg).trans (Grow.more _)
            have hlH1 : H1 l = none := by
              cases q : H1 l with
              | none => rfl
              | some u => rw [gq _ _ q] at hl3; cases hl3
            have rl : RepL X.K (m1 ++ [l]) H3 (qs.map V.ref) ((B.map (·.2)).map fun x => .tup [kD x.1.1, x.1.2]) := by
              clear hE hH3 p1
              induction hE' with
              | nil => exact .nil
              | @cons t b ts bs h1 t1 ih =>
                obtain ⟨o, h2, h3⟩ := h1
                obtain ⟨k1, k2, _⟩ := e3 b (hmem b (List.mem_cons_self ..))
                refine .cons (.tup (.inl ⟨o, h2, h3⟩) (.cons ?_ (.cons ?_ .nil))) (ih fun z hz => hmem z (List.mem_cons_of_mem _ hz))
                · show Rep _ _ _ (kV b.1.1) (kD b.2.1.1)
                  rw [k1]
                  exact kD_rep _
                · exact (k2.grow (Grow.pts g3)).grow (Grow.more _)
            have R4 : R X.K X.mg (m1 ++ [l]) H3 (h1 ++ [.lst ((B.map (·.2)).map fun x => .tup [kD x.1.1, x.1.2])]) := R1.new2 gg hlH1 ⟨_, hH3, rl⟩
            exact p1 _ H3 _ g4 R4 (.ref R1.newAt)
        · exact False.elim p1
      · exact False.elim p1
    · exact False.elim p1
  · exact False.elim p1
end
end Sh

set_option Elab.async false
set_option linter.all false
set_option maxRecDepth 100000
set_option maxHeartbeats 4000000
namespace Sh
open PySem L2 PyProof.Rows
/-! ### len(set(a list of ints)), unary minus -/
def intsD : List D → Option (List Int)
  | [] => some []
  | .int i :: ds => (intsD ds).map (i :: ·)
  | _ => none
theorem intsD_rep {K : PySem.W.Frag} {m : List Addr} {H : Hp} : ∀ {ds : List D} {ns : List Int} {vs : List V}, RepL K m H vs ds → intsD ds = some ns → vs = ns.map V.int
  | [], ns, vs, r, e => by
    cases r
    simp only [intsD] at e
    cases e
    rfl
  | d :: ds, ns, vs, r, e => by
    cases d with
    | int i =>
      simp only [intsD] at e
      obtain ⟨ms, h1, rfl⟩ := Option.map_eq_some_iff.mp e
      cases r with
      | cons r1 r2 =>
        cases r1
        rw [intsD_rep r2 h1]
        rfl
    | _ => simp [intsD] at e
def metI (ns : List Int) : List Int := PyProof.Rows.firstMet (fun i => ns.getD i 0) ns.length
section
variable {X : Cx} {W : WX} {e a : Expr} {f : FE} {pos p p2 q : Pos}
theorem pe_lenSet {ta : TE} (hg : Gl X "len") (hm : X.mg "len" = none) (hg2 : Gl X "set") (hm2 : X.mg "set" = none) (hc : X.calm = true) (ha : PE X a ta)
    (na : starEach [a] X.env = (false, eval a X.env) :: starEach [] X.env := by rfl) : PE X (.Call (.Name "len" p) [.Call (.Name "set" p2) [a] [] q] [] pos) (fun σ H Q => ta σ H fun x H1 => ∃ (l : Addr) (ns : List Int), x = .ref l ∧ SqL X.K H1 l (ns.map V.int) ∧ ns.length ≤ 4000 ∧ Q (.int ((metI ns).length : Nat)) H1) := by
  refine ⟨fun pins s σ H Q I h => ?_⟩
  refine Call_ (ld_blt I hg hm boot_len ?_)
  refine PyProof.Rows.callWith_builtin1 (PyProof.Rows.args_cons ?_ rfl) rfl rfl
  refine Call_ (ld_blt I hg2 hm2 boot_set ?_)
  refine PyProof.Rows.callWith_type1 (PyProof.Rows.args_cons (thn (ha.run pins s σ H _ I h) fun v s1 ⟨x, H1, I1, r1, q1⟩ => PyProof.Rows.args_nil ?_) na) na rfl
  obtain ⟨l, ns, rfl, hq, hl, q1⟩ := q1
  cases r1
  obtain ⟨its, r, pl, hz⟩ := I1.list hq
  have hlen : its.toArray.size = ns.length := by rw [List.size_toArray, ← r.length, List.length_map]
  refine call_set_list (I1.ok.hd hc) pl.isList (by simpa using RZ.intsAre_vals r) (by rw [hlen]; unfold scanBound; omega) fun h' tk hS hk => ?_
  refine PyProof.Rows.args_nil ?_
  rw [hlen] at hS
  obtain ⟨o, es, ep, t, ho, hex, hd, _, _, _, hf, hn⟩ := hS
  have I2 : Inv X pins σ H1 { s1 with heap := h', toks := tk } := I1.kept fun b o e => hk b o (Heap.lt_size e) e
  have hle : (metI ns).length ≤ ns.length := by
    exact PyProof.Rows.firstMet_length_le _ _
  exact call_len_set ho hex hd hf (by rw [hn]; unfold metI at hle; omega) ⟨.int (metI ns).length, H1, I2.tok _, ⟨_, by rw [hn]; rfl⟩, q1⟩
def eLenSet (f : FE) : FE := fun s h => (f s h).bind fun d h1 => match d with
  | .ref n => match items h1 (.ref n) with
    | some ds => match intsD ds with
      | some ns => if ns.length ≤ 4000 then .ok (.int ((metI ns).length : Nat)) h1 else .bad
      | none => .bad
    | none => .bad
  | _ => .bad
theorem se_lenSet (hg : Gl X "len") (hm : X.mg "len" = none) (hg2 : Gl X "set") (hm2 : X.mg "set" = none) (hc : X.calm = true) (ha : SE X W a f)
    (na : starEach [a] X.env = (false, eval a X.env) :: starEach [] X.env := by rfl) : SE X W (.Call (.Name "len" p) [.Call (.Name "set" p2) [a] [] q] [] pos) (eLenSet f) := by
  refine PE.imp (pe_lenSet hg hm hg2 hm2 hc ha na) fun σ H Q h => ?_
  obtain ⟨m, s, h, R0, rs, p⟩ := h
  refine ⟨m, s, h, R0, rs, PostE.mono (PostE.bind p) ?_⟩
  rintro x H1 ⟨m1, dx, h1, g1, R1, rx, p1⟩
  split at p1
  · split at p1
    · rename_i ds hi
      split at p1
      · rename_i ns hn
        split at p1
        · rename_i hl
          obtain ⟨a, rfl, hm⟩ := rx.ref_inv
          obtain ⟨vs, hq, l⟩ := items_ref R1 hm hi
          have e := intsD_rep l hn
          subst e
          exact ⟨a, ns, rfl, hq, hl, p1.val R1 (.int _)⟩
        · exact False.elim p1
      · exact False.elim p1
    · exact False.elim p1
  · exact False.elim p1
def eNeg (f : FE) : FE := fun s h => (f s h).bind fun d h1 => match d with
  | .int i => .ok (.int (-i)) h1
  | _ => .bad
theorem se_neg (ha : SE X W a f) : SE X W (.UnaryOp .USub a pos) (eNeg f) := by
  refine PE.imp (pe_un un_neg ha) fun σ H Q h => ?_
  obtain ⟨m, s, h, R0, rs, p⟩ := h
  refine ⟨m, s, h, R0, rs, PostE.mono (PostE.bind p) ?_⟩
  rintro x H1 ⟨m1, dx, h1, g1, R1, rx, p1⟩
  split at p1
  · exact ⟨_, rx.int_inv, p1.val R1 (.int _)⟩
  · exact False.elim p1
end
end Sh

set_option Elab.async false
set_option linter.all false
set_option maxRecDepth 100000
set_option maxHeartbeats 4000000
namespace Sh
open PySem L2 PyProof.Rows
/-! ### the text's things, bundled -/
section
variable {P : Program} {w : World} {K : PySem.W.Frag} {mg : Str → Option Value} {base : Heap}
structure FnAt (K : PySem.W.Frag) (mg : Str → Option Value) (x qual : Str) (st : Stmt) (ps : List Str) where
  f : Addr
  fd : FuncData
  fn : Fun K x qual st f fd
  g : mg x = some (.ref f)
  bi : Binds K fd ps []
structure MeAt (K : PySem.W.Frag) (C : Addr) (x qual : Str) (st : Stmt) (ps : List Str) where
  f : Addr
  fd : FuncData
  fn : Fun K x qual st f fd
  me : Meth K C x f
  bi : Binds K fd ps []
structure InAt (K : PySem.W.Frag) (C : Addr) (qual : Str) (st : Stmt) (ps : List Str) (n : Nat) (ks : List Str) where
  f : Addr
  fd : FuncData
  fn : Fun K "__init__" qual st f fd
  mak : Mk K C f
  bi : ∀ (s : Shared) (us ws : List Value), us.length = n + 1 → ws.length = ks.length → BindsTo s fd ⟨us, ks.zip ws⟩ (ps.zip (us ++ ws))
structure ClAt (K : PySem.W.Frag) (mg : Str → Option Value) (c : Str) where
  C : Addr
  g : mg c = some (.ref C)
  cl : Cls K C
structure ExAt (K : PySem.W.Frag) (mg : Str → Option Value) (c : Str) where
  C : Addr
  g : mg c = some (.ref C)
  xC : PySem.W.excIn K C [.type "ValueError", .type "Exception", .type "BaseException", .type "object"] "ValueError.__new__" = true
  kC : PySem.W.keepIn K (.ref C) = true
  bC : PySem.W.subIn K (.ref C) (.type "BaseException") = some true
  tC : PySem.W.typeIn K (.ref C) = some (.type "type")
  hC : PySem.W.hasDictIn K C = true
theorem ExAt.t {X : Cx} {c : Str} (T : ExAt X.K X.mg c) : ExcT X c T.C := ⟨T.g, T.xC, T.kC, T.bC, T.tC⟩
abbrev OkF (P : Program) (w : World) (K : PySem.W.Frag) (mg : Str → Option Value) (base : Heap) (k : Nat) (f : Addr) (fd : FuncData) (ps : List Str) (F : FF) : Prop := FnOk P w K mg base (L2.CX P w) k f fd ps (spF K mg ps.length F)
theorem takesW0 {X : Cx} : Takes X W0 := fun u s' ⟨a, B, sI, pins, σ, H, cls, d, e, I, nb, up, sky, na, os, ag, w⟩ => w.elim
theorem sss_bad {X : Cx} {W : WX} {sts : List Stmt} : SSs X W sts gBad := ⟨fun pins s σ H D I q => by
  obtain ⟨m, s, h, R0, rs, p⟩ := q
  exact p.elim⟩
theorem units65 {k : Nat} {A : Around} (hr : Room k A) : A.units + 65 < cLine := by have := hr.un; omega
theorem sub_nil : SubOk K mg [] := fun _ h => nomatch h
theorem sub_cons {c x : Str} {b : Bool} {C Cx : Addr} {l : SubT} (h1 : mg c = some (.ref C)) (h2 : mg x = some (.ref Cx)) (e : PySem.W.exmOne K (.ref C) (.ref Cx) = some b) (r : SubOk K mg l) : SubOk K mg (((c, x), b) :: l) := by
  intro p hp D Dx g1 g2
  rcases List.mem_cons.mp hp with rfl | hp
  · rw [h1] at g1
    rw [h2] at g2
    cases g1
    cases g2
    exact e
  · exact r p hp D Dx g1 g2
theorem bindsK {x qual : Str} {st : Stmt} {f : Addr} {fd : FuncData} {ps ks : List Str} {n : Nat} (F : Fun K x qual st f fd)
    (h : ∀ (kV doc pm : Value) (an : Option Addr) (cdv ct : Value) (us ws : List Value), us.length = n → ws.length = ks.length → bindArgs (PySem.W.fnOf x qual (defArgs st) (defBody st) (defScope st) .none kV doc pm an cdv ct) ⟨us, ks.zip ws⟩ = pure (ps.zip (us ++ ws))) :
    ∀ (s : Shared) (us ws : List Value), us.length = n → ws.length = ks.length → BindsTo s fd ⟨us, ks.zip ws⟩ (ps.zip (us ++ ws)) := by
  obtain ⟨oc, od, kV, doc, pm, an, cdv, ct, osl, rfl, lk, hcd⟩ := F.ex
  exact fun s us ws h1 h2 => .of_eq (h kV doc pm an cdv ct us ws h1 h2)
variable {X : Cx} {W : WX} {e o : Expr} {es : List Expr} {fs fk : List FE} {fo : FE} {kws : List Keyword} {x qual cn mn : Str} {st : Stmt} {ps ks : List Str} {F : FF} {p pos apos : Pos} {k n : Nat}
/-- f(e, ..) -/
theorem se_callA (A : FnAt X.K X.mg x qual st ps) (G : FnS X k A.f A.fd ps F) (tk : Takes X W) (hr : Room k X.A) (hg : Gl X x) (ha : SA X W (e :: es) (evalL fs))
    (hl : decide (fs.length = ps.length) = true := by rfl) (hdb : (x == ("__debug__" : Str)) = false := by decide) (he : starEach (e :: es) X.env = (false, eval e X.env) :: starEach es X.env := by rfl) (hpl : (backTo pos (starEach es X.env)).any (·.1) = false := by rfl) :
    SE X W (.Call (.Name x p) (e :: es) [] pos) (eArgs F fs) := se_call G tk hr hg A.g A.fn.kp A.bi ha hl hdb he hpl
theorem se_methA {C : ClAt X.K X.mg cn} {pl : Sem Bool} (A : MeAt X.K C.C mn qual st ps) (G : FnS X k A.f A.fd ps F) (tk : Takes X W) (hr : Room k X.A) (ho : SE X W o fo) (ha : SA X W (e :: es) (evalL fs)) (hl : decide (fs.length + 1 = ps.length) = true := by rfl)
    (hst : starEach (e :: es) X.env = (false, eval e X.env) :: starEach es X.env := by rfl) (hpl : (backTo pos (starEach es X.env)).any (·.1) = false := by rfl)
    (ht : eval (.Call (.Attribute o mn apos) (e :: es) [] pos) X.env = (do
      let ov ← eval o X.env
      standAt apos.atName
      let (f, first) ← holding [ov] (getMethod ov mn pl)
      callWith pos f first (backTo pos (starEach (e :: es) X.env)) (backToKw pos (keywordEach [] X.env))) := by rfl) : SE X W (.Call (.Attribute o mn apos) (e :: es) [] pos) (eMeth cn mn F fo fs) :=
  se_meth G tk hr C.g C.cl A.me A.bi ho ha hl hst hpl ht
theorem se_methA0 {C : ClAt X.K X.mg cn} {pl : Sem Bool} (A : MeAt X.K C.C mn qual st ps) (G : FnS X k A.f A.fd ps F) (tk : Takes X W) (hr : Room k X.A) (ho : SE X W o fo) (hl : decide (1 = ps.length) = true := by rfl)
    (ht : eval (.Call (.Attribute o mn apos) [] [] pos) X.env = (do
      let ov ← eval o X.env
      standAt apos.atName
      let (f, first) ← holding [ov] (getMethod ov mn pl)
      callWith pos f first (backTo pos (starEach [] X.env)) (backToKw pos (keywordEach [] X.env))) := by rfl) : SE X W (.Call (.Attribute o mn apos) [] [] pos) (eMeth cn mn F fo []) :=
  se_meth0 G tk hr C.g C.cl A.me A.bi ho hl ht
theorem se_makeA {C : ClAt X.K X.mg x} (A : InAt X.K C.C qual st ps n ks) (G : FnS X k A.f A.fd ps F) (tk : Takes X W) (hr : Room (k + 1) X.A) (hg : Gl X x)
    (ha : SA X W (e :: es) (evalL fs)) (hkw : SK X W kws fk) (hn : decide (fs.length = n) = true := by rfl) (hk2 : decide (fk.length = ks.length) = true := by rfl) (hps : decide (n + ks.length + 1 = ps.length) = true := by rfl)
    (hall : (backToKw pos (keywordEach kws X.env)).all (·.1.isSome) = true := by rfl) (hks : (backToKw pos (keywordEach kws X.env)).filterMap (·.1) = ks := by rfl)
    (hdb : (x == ("__debug__" : Str)) = false := by decide) (he : starEach (e :: es) X.env = (false, eval e X.env) :: starEach es X.env := by rfl)
    (hpl : ((backTo pos (starEach (e :: es) X.env)).any (·.1) || (backToKw pos (keywordEach kws X.env)).any (·.1.isNone)) = false := by rfl) :
    SE X W (.Call (.Name x p) (e :: es) kws pos) (eMake x F fs fk) := se_make A.mak G tk hr hg C.g A.bi ha hkw hn hk2 hps hall hks hdb he hpl
end
/-! ### the end -/
section
variable {K : PySem.W.Frag} {mg : Str → Option Value}
theorem fnFact {x qual : Str} {st : Stmt} {f : Addr} {oc : Value} {od an : Option Addr} {osl : Array (Option Value)} {kV doc pm cdv ct : Value} (l : K.lookup f = some ⟨oc, od, .func (PySem.W.fnOf x qual (defArgs st) (defBody st) (defScope st) .none kV doc pm an cdv ct), osl⟩)
    (c : PySem.W.codeIn K cdv qual = true) (k : PySem.W.keepIn K (.ref f) = true) : ∃ fd, Fun K x qual st f fd := ⟨_, fun_mk l c k⟩
theorem bind1 {x qual p : Str} {st : Stmt} {f : Addr} {fd : FuncData} (F : Fun K x qual st f fd)
    (h : ∀ (kV doc pm : Value) (an : Option Addr) (cdv ct : Value) (v : Value), bindArgs (PySem.W.fnOf x qual (defArgs st) (defBody st) (defScope st) .none kV doc pm an cdv ct) ⟨[v], []⟩ = pure [(p, v)]) (s : Shared) (v : Value) : BindsTo s fd ⟨[v], []⟩ [(p, v)] := by
  obtain ⟨oc, od, kV, doc, pm, an, cdv, ct, osl, rfl, lk, hcd⟩ := F.ex
  exact .of_eq (h kV doc pm an cdv ct v)
theorem ex_sub {c x : Str} {b : Bool} (A : ExAt K mg c) (B : ExAt K mg x) (h : PySem.W.subIn K (.ref A.C) (.ref B.C) = some b) : PySem.W.exmOne K (.ref A.C) (.ref B.C) = some b := PySem.W.exm_ref B.bC B.hC B.tC h
def spLaw (K : PySem.W.Frag) : Sp := fun vs H Q E => ∃ (a : Addr) (ns : List Int), vs = [.ref a] ∧ SclS K H a (ns.map V.int) ∧ ns.length ≤ 63 ∧ ∀ H', Q (.bl true) H'
theorem repInts {m : List Addr} {H : Hp} : ∀ ns : List Int, RepL K m H (ns.map V.int) (ns.map D.int)
  | [] => .nil
  | i :: ns => .cons (.int i) (repInts ns)
theorem law_imp {F : FF} (h : ∀ ns : List Int, ns.length ≤ 63 → ∃ h', F [.scl (ns.map D.int)] [] = .ok (.bl true) h') : ∀ vs H Q E, spLaw K vs H Q E → spF K mg 1 F vs H Q E := by
  rintro vs H Q E ⟨a, ns, rfl, hs, hl, q⟩
  obtain ⟨h', e⟩ := h ns hl
  refine ⟨rfl, [], [.scl (ns.map D.int)], [], ⟨rfl, List.nodup_nil, fun n a o e1 e2 => by simp at e1⟩, .cons (.scl hs (repInts ns)) .nil, ?_⟩
  rw [e]
  intro m' H' v g r rep
  rw [rep.bl_inv]
  exact q H'
theorem walkS {l : PySem.W.OpenLaw} {q : Program} {loose : List Str} {XP : (Str → Option Value) → Heap → Prop} {YP : World → Heap → Prop} {d : DefRec} {K : Params → PySem.W.Frag} {k : Nat} (hn : l.most = some 63) (hdf : d.params.defaults = []) (hr : Room k callerA)
    (hY : ∀ (w : World) (h : Heap), YP w h → (K w.params).In h)
    (F : ∀ (w : World) (mg : Str → Option Value) (fa : Addr) (h : Heap), (K w.params).In h → h.Ns mainGlobals mg → mg d.name = some (.ref fa) →
      ∃ fd : FuncData, (∀ (s : Shared) (u : Value), BindsTo s fd ⟨[u], []⟩ [("script", u)]) ∧ ∀ base : Heap, (K w.params).In base → base.Ns mainGlobals mg → FnOk l.prog w (K w.params) mg base (L2.CX l.prog w) k fa fd ["script"] (spLaw (K w.params))) :
    PySem.W.WalkO q loose XP YP l.row.toRowW d [] (fun f vs => PySem.call f vs) := by
  refine L2.walk_of (n := 63) (k := k) (x := "script") (CX := fun w => L2.CX l.prog w) (sp := fun w => spLaw (K w.params)) hn (by decide) hdf hr hY F (fun w H a ns hl hO hS => ?_) fun w H s e s' z => ?_
  · refine ⟨a, ns, rfl, ?_, hl, fun _ => rfl⟩
    rcases hS with hS | hS
    · rcases hS with hS | hS
      · rcases hO a with e | ⟨o, xs, e⟩
        · rw [hS] at e; cases e
        · rw [hS] at e; cases e
      · exact .inl hS
    · exact .inr hS
  · obtain ⟨a, B, H', cls, d, _, _, _, _, _, _, _, h⟩ := z
    exact h
end
end Sh

set_option Elab.async false
set_option linter.all false
set_option maxRecDepth 100000
set_option maxHeartbeats 4000000
namespace Sh
open PySem L2 PyProof.Rows
/-! ### reckoning with mirrors: each combinator by an eliminator, the eliminators by constructors and through if -/
def RT.seq (r : RT) (k : FS) : RT := match r with
  | .nx s h => k s h
  | r => r
def RD.tst (r : RD) (s : DS) (k : Bool → Hm → RT) : RT := match r with
  | .ok (.bl p) h => k p h
  | .ok _ _ => .bad
  | .exc c fs h => .exc c fs s h
  | .bad => .bad
def RD.tb (r : RD) (k : Bool → Hm → RD) : RD := match r with
  | .ok (.bl p) h => k p h
  | .ok _ _ => .bad
  | .exc c fs h => .exc c fs h
  | .bad => .bad
def ofO (o : Option (Option D)) (h : Hm) : RD := match o with
  | some (some d) => .ok d h
  | _ => .bad
section
variable {s : DS} {h h1 : Hm} {k : FS} {kb : Bool → Hm → RT} {ke : Bool → Hm → RD} {kd : D → Hm → RD} {ks : D → Hm → RT} {d : D} {p q : Bool} {c : Str} {fs : List (Str × D)} {P : Prop} [Decidable P]
@[simp] theorem seq_nx : (RT.nx s h).seq k = k s h := rfl
@[simp] theorem seq_rt : (RT.rt d h).seq k = .rt d h := rfl
@[simp] theorem seq_ct : (RT.ct s h).seq k = .ct s h := rfl
@[simp] theorem seq_bk : (RT.bk s h).seq k = .bk s h := rfl
@[simp] theorem seq_bad : RT.bad.seq k = .bad := rfl
@[simp] theorem seq_exc : (RT.exc c fs s h).seq k = .exc c fs s h := rfl
@[simp] theorem seq_ite {a b : RT} : (if P then a else b).seq k = if P then a.seq k else b.seq k := by split <;> rfl
@[simp] theorem tst_ok : (RD.ok (.bl p) h).tst s kb = kb p h := rfl
@[simp] theorem tst_bad : RD.bad.tst s kb = .bad := rfl
@[simp] theorem tst_exc : (RD.exc c fs h).tst s kb = .exc c fs s h := rfl
@[simp] theorem tst_ite {a b : RD} : (if P then a else b).tst s kb = if P then a.tst s kb else b.tst s kb := by split <;> rfl
@[simp] theorem tb_ok : (RD.ok (.bl p) h).tb ke = ke p h := rfl
@[simp] theorem tb_bad : RD.bad.tb ke = .bad := rfl
@[simp] theorem tb_exc : (RD.exc c fs h).tb ke = .exc c fs h := rfl
@[simp] theorem tb_ite {a b : RD} : (if P then a else b).tb ke = if P then a.tb ke else b.tb ke := by split <;> rfl
@[simp] theorem bind_ite {a b : RD} : (if P then a else b).bind kd = if P then a.bind kd else b.bind kd := by split <;> rfl
@[simp] theorem st_ite {a b : RD} : (if P then a else b).st s ks = if P then a.st s ks else b.st s ks := by split <;> rfl
@[simp] theorem ofO_some : ofO (some (some d)) h = .ok d h := rfl
@[simp] theorem ite_bl : (if P then RD.ok (.bl p) h else RD.ok (.bl q) h) = .ok (.bl (if P then p else q)) h := by split <;> rfl
variable {a b : FS} {f fa fb fc : FE} {g : List D → Hm → RD} {fop f1 f2 : D → D → Hm → RD} {x y z : FE}
@[simp] theorem x_seq : gSeq a b s h = (a s h).seq b := by unfold gSeq; cases a s h <;> rfl
@[simp] theorem x_next : gNext s h = .nx s h := rfl
@[simp] theorem x_cont : gCont s h = .ct s h := rfl
@[simp] theorem x_break : gBreak s h = .bk s h := rfl
@[simp] theorem x_retN : gRetN s h = .rt .non h := rfl
@[simp] theorem x_bad : gBad s h = .bad := rfl
@[simp] theorem x_drop : gDrop f s h = (f s h).st s fun _ h1 => .nx s h1 := rfl
@[simp] theorem x_ret : gRet f s h = (f s h).st s fun d h1 => .rt d h1 := rfl
@[simp] theorem x_set {i : Nat} : gSet i f s h = (f s h).st s fun d h1 => .nx (s.set i (some d)) h1 := rfl
@[simp] theorem x_if : gIf f a b s h = (f s h).tst s fun p h1 => if p then a s h1 else b s h1 := by
  unfold gIf
  cases f s h with
  | ok d h => cases d <;> first | rfl | (rename_i p; cases p <;> rfl)
  | _ => rfl
@[simp] theorem x_var {i : Nat} : eVar i s h = ofO s[i]? h := by unfold eVar ofO; rfl
@[simp] theorem x_c : eC d s h = .ok d h := rfl
@[simp] theorem x_bin : eBin fop fa fb s h = (fa s h).bind fun x h1 => (fb s h1).bind fun y h2 => fop x y h2 := rfl
@[simp] theorem x_and : eAnd fa fb s h = (fa s h).tb fun p h1 => if p then fb s h1 else .ok (.bl false) h1 := by
  unfold eAnd
  cases fa s h with
  | ok d h => cases d <;> first | rfl | (rename_i p; cases p <;> rfl)
  | _ => rfl
@[simp] theorem x_or : eOr fa fb s h = (fa s h).tb fun p h1 => if p then .ok (.bl true) h1 else fb s h1 := by
  unfold eOr
  cases fa s h with
  | ok d h => cases d <;> first | rfl | (rename_i p; cases p <;> rfl)
  | _ => rfl
@[simp] theorem x_not : eNot fa s h = (fa s h).tb fun p h1 => .ok (.bl (!p)) h1 := by
  unfold eNot
  cases fa s h with
  | ok d h => cases d <;> rfl
  | _ => rfl
@[simp] theorem x_eif : eIf fc fa fb s h = (fc s h).tb fun p h1 => if p then fa s h1 else fb s h1 := by
  unfold eIf
  cases fc s h with
  | ok d h => cases d <;> first | rfl | (rename_i p; cases p <;> rfl)
  | _ => rfl
@[simp] theorem x_chain : eChain f1 f2 fa fb fc s h = (fa s h).bind fun x h1 => (fb s h1).bind fun y h2 => (f1 x y h2).tb fun p h3 => if p then (fc s h3).bind fun z h4 => f2 y z h4 else .ok (.bl false) h3 := by
  unfold eChain
  congr 1
  funext x h1
  congr 1
  funext y h2
  cases f1 x y h2 with
  | ok d h => cases d <;> first | rfl | (rename_i p; cases p <;> rfl)
  | _ => rfl
@[simp] theorem x_neg : eNeg f s h = (f s h).bind fun d h1 => match d with
  | .int i => .ok (.int (-i)) h1
  | _ => .bad := rfl
/-- argument lists -/
def evR : List FE → DS → Hm → (List D → Hm → RD) → RD
  | [], s, h, k => k [] h
  | f :: fs, s, h, k => (f s h).bind fun d h1 => evR fs s h1 fun ds h2 => k (d :: ds) h2
theorem evR_eq {s : DS} : ∀ {fs : List FE} {h : Hm} {k : List D → Hm → RD}, evR fs s h k = match evalL fs s h with
    | .ok ds h1 => k ds h1
    | .exc c x h1 => .exc c x h1
    | .bad => .bad
  | [], h, k => rfl
  | f :: fs, h, k => by
    simp only [evR, evalL]
    cases f s h with
    | ok d h1 =>
      simp only [RD.bind_ok, evR_eq]
      cases evalL fs s h1 <;> rfl
    | exc c x h1 => rfl
    | bad => rfl
@[simp] theorem x_args {l : List FE} : eArgs g l s h = evR l s h g := by rw [evR_eq]; rfl
@[simp] theorem evR_nil {k : List D → Hm → RD} : evR [] s h k = k [] h := rfl
@[simp] theorem evR_cons {l : List FE} {k : List D → Hm → RD} : evR (f :: l) s h k = (f s h).bind fun d h1 => evR l s h1 fun ds h2 => k (d :: ds) h2 := rfl
@[simp] theorem x_tup {l : List FE} : eTup l s h = evR l s h fun ds h => .ok (.tup ds) h := x_args
@[simp] theorem x_lst {l : List FE} : eLst l s h = evR l s h fun ds h => .ok (.ref h.length) (h ++ [.lst ds]) := x_args
/-- operations on ints -/
@[simp] theorem o_cmp {t : Int → Int → Bool} {i j : Int} : dCmp t (.int i) (.int j) h = .ok (.bl (t i j)) h := rfl
@[simp] theorem o_sub {i j : Int} : dSub (.int i) (.int j) h = .ok (.int (i - j)) h := rfl
@[simp] theorem o_add {i j : Int} : dAdd (.int i) (.int j) h = .ok (.int (i + j)) h := rfl
@[simp] theorem o_mod {i j : Int} : dMod (.int i) (.int j) h = if 0 < j then .ok (.int (i % j)) h else .bad := by
  simp [dMod, dInt2]
theorem o_div {i j : Int} (h1 : 0 < j) (h2 : j < 18446744073709551616) : dDiv (.int i) (.int j) h = .ok (.int (i / j)) h := by
  have h3 : j < 1606938044258990275541962092341162602522202993782792835301376 := Int.lt_trans h2 (by decide)
  simp [dDiv, dInt2, h1, h3]
@[simp] theorem o_div1009 {i : Int} : dDiv (.int i) (.int 1009) h = .ok (.int (i / 1009)) h := o_div (by decide) (by decide)
@[simp] theorem o_div2003 {i : Int} : dDiv (.int i) (.int 2003) h = .ok (.int (i / 2003)) h := o_div (by decide) (by decide)
@[simp] theorem o_div16 {i : Int} : dDiv (.int i) (.int 16) h = .ok (.int (i / 16)) h := o_div (by decide) (by decide)
@[simp] theorem o_div3 {i : Int} : dDiv (.int i) (.int 3) h = .ok (.int (i / 3)) h := o_div (by decide) (by decide)
theorem o_pow18 : dPow (.int 10) (.int 18) h = .ok (.int 1000000000000000000) h := by rfl
theorem o_pow25 : dPow (.int 10) (.int 25) h = .ok (.int 10000000000000000000000000) h := by rfl
theorem o_mulL {i j : Int} (h1 : -18446744073709551616 < i) (h2 : i < 18446744073709551616) : dMul (.int i) (.int j) h = .ok (.int (i * j)) h := by
  have : cM i j = true := decide_eq_true (.inl ⟨by rw [show (-(2 ^ 64) : Int) = -18446744073709551616 from rfl]; exact h1, by rw [show ((2 : Int) ^ 64) = 18446744073709551616 from rfl]; exact h2⟩)
  simp [dMul, this]
theorem o_mulR {i j : Int} (h1 : -18446744073709551616 < j) (h2 : j < 18446744073709551616) : dMul (.int i) (.int j) h = .ok (.int (i * j)) h := by
  have : cM i j = true := decide_eq_true (.inr ⟨by rw [show (-(2 ^ 64) : Int) = -18446744073709551616 from rfl]; exact h1, by rw [show ((2 : Int) ^ 64) = 18446744073709551616 from rfl]; exact h2⟩)
  simp [dMul, this]
@[simp] theorem o_mul7919 {j : Int} : dMul (.int 7919) (.int j) h = .ok (.int (7919 * j)) h := o_mulL (by decide) (by decide)
@[simp] theorem o_mul48271 {j : Int} : dMul (.int j) (.int 48271) h = .ok (.int (j * 48271)) h := o_mulR (by decide) (by decide)
@[simp] theorem o_int {i : Int} : bInt [.int i] h = .ok (.int i) h := rfl
@[simp] theorem o_is_n {x : D} : dIs x .non h = .ok (.bl (decide (x = .non))) h := by simp [dIs]
@[simp] theorem o_is_b {x : D} {b : Bool} : dIs x (.bl b) h = .ok (.bl (decide (x = .bl b))) h := by simp [dIs]
@[simp] theorem o_isN_n {x : D} : dIsNot x .non h = .ok (.bl (!decide (x = .non))) h := by simp [dIsNot]
@[simp] theorem o_isN_b {x : D} {b : Bool} : dIsNot x (.bl b) h = .ok (.bl (!decide (x = .bl b))) h := by simp [dIsNot]
@[simp] theorem o_len_t {ds : List D} : bLen [.tup ds] h = .ok (.int ds.length) h := rfl
@[simp] theorem o_len_s {ds : List D} : bLen [.scl ds] h = .ok (.int ds.length) h := rfl
theorem o_len_r {n : Nat} {ds : List D} (e : h[n]? = some (.lst ds)) : bLen [.ref n] h = .ok (.int ds.length) h := by simp [bLen, items, e]
def RT.out (r : RT) : RD := match r with
  | .nx _ h => .ok .non h
  | .rt d h => .ok d h
  | .exc c fs _ h => .exc c fs h
  | _ => .bad
@[simp] theorem out_nx : (RT.nx s h).out = .ok .non h := rfl
@[simp] theorem out_rt : (RT.rt d h).out = .ok d h := rfl
@[simp] theorem out_exc : (RT.exc c fs s h).out = .exc c fs h := rfl
@[simp] theorem out_bad : RT.bad.out = .bad := rfl
@[simp] theorem out_ite {a b : RT} : (if P then a else b).out = if P then a.out else b.out := by split <;> rfl
theorem x_run {n : Nat} {g : FS} {ds : List D} : runB n g ds h = (g (ds.map some ++ List.replicate (n - ds.length) none) h).out := by
  unfold runB
  cases g (ds.map some ++ List.replicate (n - ds.length) none) h <;> rfl
@[simp] theorem ite_ok {a b : D} : (if P then RD.ok a h else RD.ok b h) = .ok (if P then a else b) h := by split <;> rfl
@[simp] theorem ite_dbl {a b : Bool} : (if P then D.bl a else D.bl b) = D.bl (if P then a else b) := by split <;> rfl
@[simp] theorem x_isi {T : String} : eIsi T f s h = (f s h).bind fun d h1 => match isiB T h1 d with
  | some b => .ok (.bl b) h1
  | none => .bad := rfl
@[simp] theorem t_int {T : String} {i : Int} : isiB T h (.int i) = kitB "int" T := rfl
@[simp] theorem t_bl {T : String} {i : Bool} : isiB T h (.bl i) = kitB "bool" T := rfl
@[simp] theorem t_str {T : String} {i : Str} : isiB T h (.str i) = kitB "str" T := rfl
@[simp] theorem t_tup {T : String} {i : List D} : isiB T h (.tup i) = kitB "tuple" T := rfl
@[simp] theorem t_non {T : String} : isiB T h .non = kitB "NoneType" T := rfl
theorem kit_table : (kitB "int" "int" = some true ∧ kitB "int" "bool" = some false ∧ kitB "int" "str" = some false ∧ kitB "int" "tuple" = some false ∧ kitB "int" "list" = some false) ∧
    (kitB "bool" "int" = some true ∧ kitB "bool" "bool" = some true ∧ kitB "bool" "str" = some false ∧ kitB "bool" "tuple" = some false ∧ kitB "bool" "list" = some false) ∧
    (kitB "str" "int" = some false ∧ kitB "str" "bool" = some false ∧ kitB "str" "str" = some true ∧ kitB "str" "tuple" = some false ∧ kitB "str" "list" = some false) ∧
    (kitB "tuple" "int" = some false ∧ kitB "tuple" "bool" = some false ∧ kitB "tuple" "str" = some false ∧ kitB "tuple" "tuple" = some true ∧ kitB "tuple" "list" = some false) ∧
    (kitB "list" "int" = some false ∧ kitB "list" "bool" = some false ∧ kitB "list" "str" = some false ∧ kitB "list" "tuple" = some false ∧ kitB "list" "list" = some true) ∧
    (kitB "NoneType" "int" = some false ∧ kitB "NoneType" "bool" = some false ∧ kitB "NoneType" "str" = some false ∧ kitB "NoneType" "tuple" = some false ∧ kitB "NoneType" "list" = some false) := by
  decide +kernel
/-! ### lists in the heap -/
def lmC (g : Nat → List D → List D → Hm → RD) (n : Nat) (ds : List D) (h2 : Hm) : RD := match h2[n]? with
  | some (.lst xs) => g n xs ds h2
  | _ => .bad
def lmB (g : Nat → List D → List D → Hm → RD) (d : D) (l : List FE) (s : DS) (h1 : Hm) : RD := match d with
  | .ref n => match h1[n]? with
    | some (.lst _) => evR l s h1 fun ds h2 => lmC g n ds h2
    | _ => .bad
  | _ => .bad
variable {gl : Nat → List D → List D → Hm → RD} {l : List FE} {n : Nat} {xs ys : List D}
@[simp] theorem x_lm {fo : FE} : eLm gl fo l s h = (fo s h).bind fun d h1 => lmB gl d l s h1 := by
  unfold eLm lmB
  congr 1
  funext d h1
  cases d with
  | ref n =>
    dsimp only
    cases h1[n]? with
    | none => rfl
    | some o =>
      cases o with
      | lst zs => exact x_args
      | _ => rfl
  | _ => rfl
theorem lmB_ref (e : h[n]? = some (.lst ys)) : lmB gl (.ref n) l s h = evR l s h fun ds h2 => lmC gl n ds h2 := by simp [lmB, e]
theorem lmC_ok (e : h[n]? = some (.lst ys)) : lmC gl n xs h = gl n ys xs h := by simp [lmC, e]
theorem app_ok (e : xs.length < 1000000) : lAppend n xs [d] h = .ok .non (h.set n (.lst (xs ++ [d]))) := by
  have e' : xs.length < big := e
  simp [lAppend, e']
theorem get_last {o : O} : (h ++ [o])[h.length]? = some o := by simp
theorem set_last {o o' : O} : (h ++ [o]).set h.length o' = h ++ [o'] := by simp
theorem get_old {o : O} {n : Nat} (e : n < h.length) : (h ++ [o])[n]? = h[n]? := List.getElem?_append_left e
theorem lt_of_get {o : O} {n : Nat} (e : h[n]? = some o) : n < h.length := (List.getElem?_eq_some_iff.mp e).1
/-- appending to the newest list -/
theorem app_last {fo : FE} {e : FE} (hf : fo s (h ++ [.lst xs]) = .ok (.ref h.length) (h ++ [.lst xs])) (he : e s (h ++ [.lst xs]) = .ok d (h ++ [.lst xs])) (hl : xs.length < 1000000) :
    eLm lAppend fo [e] s (h ++ [.lst xs]) = .ok .non (h ++ [.lst (xs ++ [d])]) := by
  simp only [x_lm, hf, RD.bind_ok, lmB_ref (gl := lAppend) (get_last (h := h) (o := .lst xs)), evR_cons, evR_nil, he, lmC_ok (gl := lAppend) (get_last (h := h) (o := .lst xs)), app_ok hl, set_last]
theorem atI_nat {α : Type} {l : List α} {k : Nat} {x : α} (e : l[k]? = some x) : atI l (k : Int) = some x := by
  have hk := (List.getElem?_eq_some_iff.mp e).1
  have h0 : (0 : Int) ≤ (k : Int) := Int.natCast_nonneg k
  have h1 : (k : Int) < (l.length : Int) := Int.ofNat_lt.mpr hk
  unfold atI ixN
  rw [if_pos h0, if_pos h1]
  exact e
theorem ix_tup {k : Nat} {x : D} (e : xs[k]? = some x) : dIx (.tup xs) (.int k) h = .ok x h := by simp [dIx, items, atI_nat e]
theorem ix_ref {k : Nat} {x : D} (e0 : h[n]? = some (.lst xs)) (e : xs[k]? = some x) : dIx (.ref n) (.int k) h = .ok x h := by simp [dIx, items, e0, atI_nat e]
theorem len_ref (e : h[n]? = some (.lst xs)) : bLen [.ref n] h = .ok (.int xs.length) h := by simp [bLen, items, e]
/-! ### loops -/
variable {ck : Option (Nat × List D)} {gt : GT} {gb : FS} {fi : FI}
theorem loop_nil (hc : chkB ck h = true) : loopG ck gt gb [] s h = .nx s h := by simp [loopG, hc]
def RT.lp (r : RT) (k : FS) : RT := match r with
  | .nx s h => k s h
  | .ct s h => k s h
  | .bk s h => .nx s h
  | r => r
@[simp] theorem lp_nx : (RT.nx s h).lp k = k s h := rfl
@[simp] theorem lp_ct : (RT.ct s h).lp k = k s h := rfl
@[simp] theorem lp_bk : (RT.bk s h).lp k = .nx s h := rfl
@[simp] theorem lp_rt : (RT.rt d h).lp k = .rt d h := rfl
@[simp] theorem lp_ite {a b : RT} : (if P then a else b).lp k = if P then a.lp k else b.lp k := by split <;> rfl
theorem loop_cons {x : D} {s1 : DS} {h1 : Hm} (hc : chkB ck h = true) (ht : gt x s h = .nx s1 h1) : loopG ck gt gb (x :: xs) s h = (gb s1 h1).lp fun s2 h2 => loopG ck gt gb xs s2 h2 := by
  rw [loopG, if_pos hc, ht]
  dsimp only
  cases gb s1 h1 <;> rfl
theorem for_ok {h1 : Hm} (e : fi s h = .ok xs ck h1) : gFor fi gt gb s h = loopG ck gt gb xs s h1 := by simp [gFor, e]
theorem fi_ref {f : FE} {h1 : Hm} (e : f s h = .ok (.ref n) h1) (e1 : h1[n]? = some (.lst xs)) : fiSeq f s h = .ok xs (some (n, xs)) h1 := by simp [fiSeq, e, RD.it, iSeq, items, e1]
theorem fi_tup {f : FE} {h1 : Hm} (e : f s h = .ok (.tup xs) h1) : fiSeq f s h = .ok xs none h1 := by simp [fiSeq, e, RD.it, iSeq]
theorem fi_rg {f : FE} {h1 : Hm} {j : Int} (e : f s h = .ok (.int j) h1) (h0 : 0 ≤ j) (h2 : j < 1000000) : fiRg [f] s h = .ok ((List.range j.toNat).map fun i => .int (i : Nat)) none h1 := by
  have b : -4611686018427387904 ≤ j ∧ j < 4611686018427387904 := ⟨by omega, by omega⟩
  simp [fiRg, evalL, e, iRg, b, rgD]
theorem chk_ref (e : h[n]? = some (.lst xs)) : chkB (some (n, xs)) h = true := by
  simp [chkB, items, e, D.beqL_self]
theorem chk_none : chkB none h = true := rfl
@[simp] theorem q_int {i j : Int} : dEq (.int i) (.int j) h = .ok (.bl (decide (i = j))) h := by simp [dEq, eqB, eqSc]
@[simp] theorem q_str {i j : Str} : dEq (.str i) (.str j) h = .ok (.bl (decide (i = j))) h := by simp [dEq, eqB, eqSc]
@[simp] theorem q_is {i : Int} {j : Str} : dEq (.int i) (.str j) h = .ok (.bl false) h := by simp [dEq, eqB, eqSc]
@[simp] theorem q_si {i : Int} {j : Str} : dEq (.str j) (.int i) h = .ok (.bl false) h := by simp [dEq, eqB, eqSc]
@[simp] theorem q_ns {j : Str} : dEq .non (.str j) h = .ok (.bl false) h := by simp [dEq, eqB, eqSc]
@[simp] theorem q_ni {j : Int} : dEq .non (.int j) h = .ok (.bl false) h := by simp [dEq, eqB, eqSc]
@[simp] theorem nq_int {i j : Int} : dNe (.int i) (.int j) h = .ok (.bl (!decide (i = j))) h := by simp [dNe, eqB, eqSc]
@[simp] theorem nq_str {i j : Str} : dNe (.str i) (.str j) h = .ok (.bl (!decide (i = j))) h := by simp [dNe, eqB, eqSc]
@[simp] theorem nq_is {i : Int} {j : Str} : dNe (.int i) (.str j) h = .ok (.bl true) h := by simp [dNe, eqB, eqSc]
theorem pop_ok {i : Int} {x : D} (h0 : 0 ≤ i) (h1 : i < 1000000) (e : xs[i.toNat]? = some x) : lPopAt n xs [.int i] h = .ok x (h.set n (.lst (xs.eraseIdx i.toNat))) := by
  have hk := (List.getElem?_eq_some_iff.mp e).1
  have hs : seqIndex? i xs.length = some i.toNat := by
    unfold seqIndex?
    have : ¬ i < 0 := by omega
    simp [this, hk]
    omega
  have b : -9223372036854775808 ≤ i ∧ i < 9223372036854775808 := ⟨by omega, by omega⟩
  simp [lPopAt, b, hs, e]
/-! ### comprehensions whose items leave the heap but for new things -/
theorem lcv_ok {ft fe : FE} {s0 : DS} {val : D → D} {tt : D → Bool} (hck : ∀ u : Hm, chkB ck (h ++ u) = true) : ∀ (xs acc : List D) (t : Hm),
    (∀ x ∈ xs, ∀ u : Hm, ∃ (s1 : DS) (t' : Hm), gt x s0 (h ++ u) = .nx s1 (h ++ u) ∧ ft s1 (h ++ u) = .ok (.bl (tt x)) (h ++ u) ∧ (tt x = true → fe s1 (h ++ u) = .ok (val x) (h ++ u ++ t'))) → acc.length + xs.length < 1000000 →
    ∃ t2, lcLoop ck gt ft fe h.length s0 xs (h ++ .lst acc :: t) = .ok (.ref h.length) (h ++ .lst (acc ++ (xs.filter tt).map val) :: t2)
  | [], acc, t, _, _ => ⟨t, by
      unfold lcLoop
      rw [if_pos (hck _)]
      simp⟩
  | x :: xs, acc, t, k, hl => by
    simp only [List.length_cons] at hl
    obtain ⟨s1, t', e1, e2, e3⟩ := k x (List.mem_cons_self ..) (.lst acc :: t)
    unfold lcLoop
    rw [if_pos (hck _), e1]
    dsimp only
    rw [e2]
    cases ht : tt x with
    | false =>
      dsimp only
      obtain ⟨t2, r⟩ := lcv_ok hck xs acc t (fun y hy => k y (List.mem_cons_of_mem _ hy)) (by omega)
      exact ⟨t2, by rw [r, List.filter_cons_of_neg (by rw [ht]; exact Bool.false_ne_true)]⟩
    | true =>
      dsimp only
      rw [e3 ht]
      dsimp only
      have g : (h ++ .lst acc :: t ++ t')[h.length]? = some (.lst acc) := by simp
      rw [g]
      dsimp only
      have hb : acc.length < big := by show acc.length < 1000000; omega
      rw [if_pos hb]
      have es : (h ++ .lst acc :: t ++ t').set h.length (.lst (acc ++ [val x])) = h ++ .lst (acc ++ [val x]) :: (t ++ t') := by simp
      rw [es]
      obtain ⟨t2, r⟩ := lcv_ok hck xs (acc ++ [val x]) (t ++ t') (fun y hy => k y (List.mem_cons_of_mem _ hy)) (by simp; omega)
      exact ⟨t2, by rw [r, List.filter_cons_of_pos ht, List.map_cons, List.append_assoc]; rfl⟩
theorem elc_ok {ft fe : FE} {own : List Nat} {val : D → D} {tt : D → Bool} {xs : List D} (ef : fi s h = .ok xs ck h) (hck : ∀ u : Hm, chkB ck (h ++ u) = true)
    (k : ∀ x ∈ xs, ∀ u : Hm, ∃ (s1 : DS) (t' : Hm), gt x (wipeD s own) (h ++ u) = .nx s1 (h ++ u) ∧ ft s1 (h ++ u) = .ok (.bl (tt x)) (h ++ u) ∧ (tt x = true → fe s1 (h ++ u) = .ok (val x) (h ++ u ++ t'))) (hl : xs.length < 1000000) :
    ∃ t2, eLc fi gt ft fe own s h = .ok (.ref h.length) (h ++ .lst ((xs.filter tt).map val) :: t2) := by
  obtain ⟨t2, r⟩ := lcv_ok (s0 := wipeD s own) hck xs [] [] k (by simpa using hl)
  refine ⟨t2, ?_⟩
  unfold eLc
  rw [ef]
  dsimp only
  rw [r, List.nil_append]
theorem chk_old {n : Nat} {xs : List D} (e : h[n]? = some (.lst xs)) (u : Hm) : chkB (some (n, xs)) (h ++ u) = true := chk_ref (by rw [List.getElem?_append_left (lt_of_get e)]; exact e)
theorem bls_of : ∀ {ds : List D} {bs : List Bool}, ds = bs.map D.bl → bls ds = some bs
  | _, [], e => by subst e; rfl
  | _, b :: bs, e => by
    subst e
    simp only [List.map_cons, bls, bls_of rfl, Option.map_some]
theorem quant_ok {g : List Bool → Bool} {bs : List Bool} (e : h[n]? = some (.lst (bs.map D.bl))) : bQuant g [.ref n] h = .ok (.bl (g bs)) h := by
  simp [bQuant, e, bls_of rfl]
theorem lcIn_ok {ft fe : FE} {s0 : DS} {val : D → D} {tt : D → Bool} (hck : ∀ u : Hm, chkB ck (h ++ u) = true) : ∀ (xs acc : List D) (t : Hm),
    (∀ x ∈ xs, ∀ u : Hm, ∃ (s1 : DS) (t' : Hm), gt x s0 (h ++ u) = .nx s1 (h ++ u) ∧ ft s1 (h ++ u) = .ok (.bl (tt x)) (h ++ u) ∧ (tt x = true → fe s1 (h ++ u) = .ok (val x) (h ++ u ++ t'))) → acc.length + xs.length < 1000000 →
    ∃ t2, lcIn ck gt ft fe h.length s0 xs (h ++ .lst acc :: t) = some (h ++ .lst (acc ++ (xs.filter tt).map val) :: t2)
  | [], acc, t, _, _ => ⟨t, by
      unfold lcIn
      rw [if_pos (hck _)]
      simp⟩
  | x :: xs, acc, t, k, hl => by
    simp only [List.length_cons] at hl
    obtain ⟨s1, t', e1, e2, e3⟩ := k x (List.mem_cons_self ..) (.lst acc :: t)
    unfold lcIn
    rw [if_pos (hck _), e1]
    dsimp only
    rw [e2]
    cases ht : tt x with
    | false =>
      dsimp only
      obtain ⟨t2, r⟩ := lcIn_ok hck xs acc t (fun y hy => k y (List.mem_cons_of_mem _ hy)) (by omega)
      exact ⟨t2, by rw [r, List.filter_cons_of_neg (by rw [ht]; exact Bool.false_ne_true)]⟩
    | true =>
      dsimp only
      rw [e3 ht]
      dsimp only
      have g : (h ++ .lst acc :: t ++ t')[h.length]? = some (.lst acc) := by simp
      rw [g]
      dsimp only
      have hb : acc.length < big := by show acc.length < 1000000; omega
      rw [if_pos hb]
      have es : (h ++ .lst acc :: t ++ t').set h.length (.lst (acc ++ [val x])) = h ++ .lst (acc ++ [val x]) :: (t ++ t') := by simp
      rw [es]
      obtain ⟨t2, r⟩ := lcIn_ok hck xs (acc ++ [val x]) (t ++ t') (fun y hy => k y (List.mem_cons_of_mem _ hy)) (by simp; omega)
      exact ⟨t2, by rw [r, List.filter_cons_of_pos ht, List.map_cons, List.append_assoc]; rfl⟩
/-- two fors: of each x the items ys x, a tuple -/
theorem lc2_okv {fi1 : FI} {gt1 : GT} {ft1 fe : FE} {s0 : DS} {vs1 : List Nat} {ys : D → List D} {val : D → D → D} {tt : D → D → Bool} (hck : ∀ u : Hm, chkB ck (h ++ u) = true) : ∀ (xs acc : List D) (t : Hm),
    (∀ x ∈ xs, ∃ s1 : DS, (∀ u : Hm, gt x s0 (h ++ u) = .nx s1 (h ++ u) ∧ fi1 s1 (h ++ u) = .ok (ys x) none (h ++ u)) ∧
      ∀ y ∈ ys x, ∀ u : Hm, ∃ (s2 : DS) (t' : Hm), gt1 y (wipeD s1 vs1) (h ++ u) = .nx s2 (h ++ u) ∧ ft1 s2 (h ++ u) = .ok (.bl (tt x y)) (h ++ u) ∧ (tt x y = true → fe s2 (h ++ u) = .ok (val x y) (h ++ u ++ t'))) →
    acc.length + (xs.map fun x => (ys x).length).sum < 1000000 →
    ∃ t2, lc2Loop ck gt (eC (.bl true)) fi1 gt1 ft1 fe h.length s0 vs1 xs (h ++ .lst acc :: t) = .ok (.ref h.length) (h ++ .lst (acc ++ (xs.map fun x => ((ys x).filter (tt x)).map (val x)).flatten) :: t2)
  | [], acc, t, _, _ => ⟨t, by
      unfold lc2Loop
      rw [if_pos (hck _)]
      simp⟩
  | x :: xs, acc, t, k, hl => by
    simp only [List.map_cons, List.sum_cons] at hl
    obtain ⟨s1, e1, e2⟩ := k x (List.mem_cons_self ..)
    obtain ⟨t1, r1⟩ := lcIn_ok (ck := none) (gt := gt1) (ft := ft1) (fe := fe) (s0 := wipeD s1 vs1) (val := val x) (tt := tt x) (fun _ => rfl) (ys x) acc t e2 (by omega)
    have hfl : (((ys x).filter (tt x)).map (val x)).length ≤ (ys x).length := by rw [List.length_map]; exact List.length_filter_le ..
    obtain ⟨t2, r⟩ := lc2_okv hck xs (acc ++ ((ys x).filter (tt x)).map (val x)) t1 (fun y hy => k y (List.mem_cons_of_mem _ hy)) (by rw [List.length_append]; omega)
    refine ⟨t2, ?_⟩
    unfold lc2Loop
    rw [if_pos (hck _), (e1 _).1]
    dsimp only
    rw [x_c]
    dsimp only
    rw [(e1 _).2]
    dsimp only
    rw [r1]
    dsimp only
    rw [r, List.map_cons, List.flatten_cons, List.append_assoc]
theorem elc2_ok {fi1 : FI} {gt1 : GT} {ft1 fe : FE} {own vs1 : List Nat} {ys : D → List D} {val : D → D → D} {tt : D → D → Bool} {xs : List D} (ef : fi s h = .ok xs ck h) (hck : ∀ u : Hm, chkB ck (h ++ u) = true)
    (k : ∀ x ∈ xs, ∃ s1 : DS, (∀ u : Hm, gt x (wipeD s own) (h ++ u) = .nx s1 (h ++ u) ∧ fi1 s1 (h ++ u) = .ok (ys x) none (h ++ u)) ∧
      ∀ y ∈ ys x, ∀ u : Hm, ∃ (s2 : DS) (t' : Hm), gt1 y (wipeD s1 vs1) (h ++ u) = .nx s2 (h ++ u) ∧ ft1 s2 (h ++ u) = .ok (.bl (tt x y)) (h ++ u) ∧ (tt x y = true → fe s2 (h ++ u) = .ok (val x y) (h ++ u ++ t')))
    (hl : (xs.map fun x => (ys x).length).sum < 1000000) :
    ∃ t2, eLc2 fi gt (eC (.bl true)) fi1 gt1 ft1 fe own vs1 s h = .ok (.ref h.length) (h ++ .lst ((xs.map fun x => ((ys x).filter (tt x)).map (val x)).flatten) :: t2) := by
  obtain ⟨t2, r⟩ := lc2_okv (s0 := wipeD s own) hck xs [] [] k (by simpa using hl)
  refine ⟨t2, ?_⟩
  unfold eLc2
  rw [ef]
  dsimp only
  rw [r, List.nil_append]
end
end Sh

set_option Elab.async false
set_option linter.all false
set_option maxRecDepth 100000
set_option maxHeartbeats 4000000
/-! Lists of ints: sum, max, min, count; index of flat things; l[i] = e. -/
namespace Sh
open PySem L2 PyProof.Rows
theorem intsD_map (ns : List Int) : intsD (ns.map D.int) = some ns := by
  induction ns with
  | nil => rfl
  | cons a l ih => simp [intsD, ih]
/-- a function of a list of ints -/
def bInts (g : List Int → Option Int) (ds : List D) (h : Hm) : RD := match ds with
  | [.ref k] => match h[k]? with
    | some (.lst xs) => match intsD xs with
      | some ns => match g ns with
        | some i => .ok (.int i) h
        | none => .bad
      | none => .bad
    | _ => .bad
  | _ => .bad
def mxI : List Int → Int
  | [] => 0
  | a :: r => r.foldr max a
def mnI : List Int → Int
  | [] => 0
  | a :: r => r.foldr min a
theorem mxI_mem : ∀ {l : List Int}, l ≠ [] → mxI l ∈ l ∧ ∀ y ∈ l, y ≤ mxI l
  | [], h => absurd rfl h
  | a :: r, _ => by
    show r.foldr max a ∈ a :: r ∧ _
    have hh : r.foldr max a ∈ a :: r ∧ ∀ y ∈ a :: r, y ≤ r.foldr max a := by
      induction r with
      | nil => simp
      | cons b t ih =>
        rw [List.foldr_cons]
        obtain ⟨h1, h2⟩ := ih (List.cons_ne_nil _ _)
        refine ⟨?_, fun y hy => ?_⟩
        · rcases Int.le_total b (t.foldr max a) with h | h
          · rw [Int.max_eq_right h]
            rcases List.mem_cons.mp h1 with h1 | h1
            · rw [h1]; exact List.mem_cons_self
            · exact List.mem_cons_of_mem _ (List.mem_cons_of_mem _ h1)
          · rw [Int.max_eq_left h]
            exact List.mem_cons_of_mem _ List.mem_cons_self
        · rcases List.mem_cons.mp hy with rfl | hy
          · exact Int.le_trans (h2 y List.mem_cons_self) (Int.le_max_right _ _)
          · rcases List.mem_cons.mp hy with rfl | hy
            · exact Int.le_max_left _ _
            · exact Int.le_trans (h2 y (List.mem_cons_of_mem _ hy)) (Int.le_max_right _ _)
    exact hh
theorem mnI_mem : ∀ {l : List Int}, l ≠ [] → mnI l ∈ l ∧ ∀ y ∈ l, mnI l ≤ y
  | [], h => absurd rfl h
  | a :: r, _ => by
    show r.foldr min a ∈ a :: r ∧ _
    have hh : r.foldr min a ∈ a :: r ∧ ∀ y ∈ a :: r, r.foldr min a ≤ y := by
      induction r with
      | nil => simp
      | cons b t ih =>
        rw [List.foldr_cons]
        obtain ⟨h1, h2⟩ := ih (List.cons_ne_nil _ _)
        refine ⟨?_, fun y hy => ?_⟩
        · rcases Int.le_total (t.foldr min a) b with h | h
          · rw [Int.min_eq_right h]
            rcases List.mem_cons.mp h1 with h1 | h1
            · rw [h1]; exact List.mem_cons_self
            · exact List.mem_cons_of_mem _ (List.mem_cons_of_mem _ h1)
          · rw [Int.min_eq_left h]
            exact List.mem_cons_of_mem _ List.mem_cons_self
        · rcases List.mem_cons.mp hy with rfl | hy
          · exact Int.le_trans (Int.min_le_right _ _) (h2 y List.mem_cons_self)
          · rcases List.mem_cons.mp hy with rfl | hy
            · exact Int.min_le_left _ _
            · exact Int.le_trans (Int.min_le_right _ _) (h2 y (List.mem_cons_of_mem _ hy))
    exact hh
abbrev bSum := bInts fun ns => some ns.sum
abbrev bMax := bInts fun ns => if ns = [] then none else some (mxI ns)
abbrev bMin := bInts fun ns => if ns = [] then none else some (mnI ns)
section
variable {X : Cx}
theorem cs_ints {r : List V → Hp → VK → Prop} (g : List Int → Option Int) (k : ∀ (a : Addr) (ns : List Int) (i : Int) (H : Hp) (Q : VK), SqL X.K H a (ns.map V.int) → g ns = some i → Q (.int i) H → r [V.ref a] H Q) : CallS X r (bInts g) := by
  intro W m H h vs ds Q r rv p
  unfold bInts at p
  split at p
  · split at p
    · rename_i k' xs hk
      split at p
      · rename_i bs hb
        split at p
        · rename_i i hi
          cases rv with
          | cons r1 r2 =>
            cases r2
            obtain ⟨a, rfl, hm⟩ := r1.ref_inv
            obtain ⟨ws, q1, q2⟩ := r.ob _ _ _ hm hk
            exact k a bs i H Q (.inl (.inl (by rw [q1, intsD_rep q2 hb]))) hi (p.val r (.int _))
        · exact False.elim p
      · exact False.elim p
    · exact False.elim p
  · exact False.elim p
theorem cs_sum : CallS X (rSum X.K) bSum := cs_ints _ fun a ns i H Q h e q => ⟨a, ns, rfl, h, by cases e; exact q⟩
theorem cs_max : CallS X (rMax X.K) bMax := cs_ints _ fun a ns i H Q h e q => by
  by_cases z : ns = []
  · rw [if_pos z] at e; cases e
  · rw [if_neg z] at e
    cases e
    refine ⟨a, ns, rfl, h, List.length_pos_iff.mpr z, fun m h1 h2 => ?_⟩
    have e : m = mxI ns := Int.le_antisymm ((mxI_mem z).2 m h1) (h2 _ (mxI_mem z).1)
    rw [e]
    exact q
theorem cs_min : CallS X (rMin X.K) bMin := cs_ints _ fun a ns i H Q h e q => by
  by_cases z : ns = []
  · rw [if_pos z] at e; cases e
  · rw [if_neg z] at e
    cases e
    refine ⟨a, ns, rfl, h, List.length_pos_iff.mpr z, fun m h1 h2 => ?_⟩
    have e : m = mnI ns := Int.le_antisymm (h2 _ (mnI_mem z).1) ((mnI_mem z).2 m h1)
    rw [e]
    exact q
/-- max(i, j), min(i, j) -/
def bTwo (g : Int → Int → Int) (ds : List D) (h : Hm) : RD := match ds with
  | [.int i, .int j] => .ok (.int (g i j)) h
  | _ => .bad
theorem cs_two (g : Int → Int → Int) : CallS X (fun xs H Q => ∃ i j, xs = [.int i, .int j] ∧ Q (.int (g i j)) H) (bTwo g) := by
  intro W m H h vs ds Q r rv p
  unfold bTwo at p
  split at p
  · cases rv with | cons r1 r2 => cases r2 with | cons r2 r3 => cases r3; cases r1; cases r2; exact ⟨_, _, rfl, p.val r (.int _)⟩
  · exact False.elim p
abbrev bMax2 := bTwo fun i j => if j > i then j else i
abbrev bMin2 := bTwo fun i j => if j < i then j else i
/-- xs.index(x), flat things, x there -/
def lIndex (n : Nat) (xs ds : List D) (h : Hm) : RD := match ds with
  | [d] => if flatD d = true ∧ xs.all flatD = true then (match xs.findIdx? (fun z => eqF z d) with
    | some j => .ok (.int j) h
    | none => .bad) else .bad
  | _ => .bad
theorem ls_index : LmS X (rIndex X.K) lIndex := by
  intro W m H h n a xs us vs ds Q r hm hk hu l1 l2 p
  unfold lIndex at p
  split at p
  · rename_i d
    split at p
    · rename_i hf
      split at p
      · rename_i j hj
        cases l2 with
        | cons rv rn =>
          cases rn
          rename_i y
          obtain ⟨h1, h2, h3⟩ := List.findIdx?_eq_some_iff_getElem.mp hj
          obtain ⟨z, e1, e2⟩ := l1.get (List.getElem?_eq_getElem h1)
          refine ⟨a, us, y, j, z, rfl, rfl, .inl (.inl hu), flat_rep rv hf.1, flat_repL l1 hf.2, e1, by rw [eqF_rep e2 rv]; exact h2, fun i z' hi hz' => ?_, p.val r (.int _)⟩
          obtain ⟨d', e3, e4⟩ := l1.get' hz'
          rw [eqF_rep e4 rv]
          obtain ⟨h5, h6⟩ := List.getElem?_eq_some_iff.mp e3
          rw [← h6]
          simpa using h3 i hi
      · exact False.elim p
    · exact False.elim p
  · exact False.elim p
/-- xs.count(k) of ints -/
def lCount (n : Nat) (xs ds : List D) (h : Hm) : RD := match ds with
  | [.int k] => match intsD xs with
    | some ns => .ok (.int (ns.count k : Nat)) h
    | none => .bad
  | _ => .bad
theorem ls_count : LmS X (rCntI X.K) lCount := by
  intro W m H h n a xs us vs ds Q r hm hk hu l1 l2 p
  unfold lCount at p
  split at p
  · split at p
    · rename_i ns hn
      cases l2 with
      | cons rv rn =>
        cases rn
        cases rv
        exact ⟨a, ns, _, rfl, rfl, .inl (.inl (by rw [hu, intsD_rep l1 hn])), p.val r (.int _)⟩
    · exact False.elim p
  · exact False.elim p
variable {W : WX} {o i e : Expr} {fo fi f : FE} {pos pos' : Pos}
/-- l[i] = v, l a list -/
def gLput (fo fi fv : FE) : FS := fun s h => (fv s h).st s fun v h1 => (fo s h1).st s fun d h2 => (fi s h2).st s fun y h3 => match d, y with
  | .ref n, .int k => (match h3[n]? with
    | some (.lst xs) => (match ixN xs.length k with
      | some j => .nx s (h3.set n (.lst (xs.set j v)))
      | none => .bad)
    | _ => .bad)
  | _, _ => .bad
theorem ss_lput (ho : SE X W o fo) (hi : SE X W i fi) (hv : SE X W e f) (hs : swapsWithSole [.Subscript o i pos'] e pos.line X.env = pure false := by rfl) (hw : swappedStores [.Subscript o i pos'] e X.env = pure none := by rfl)
    (h1 : (assignEach [.Subscript o i pos'] X.env).map (·.2) = [assign (.Subscript o i pos') X.env] := by rfl)
    (ha : ∀ v, assign (.Subscript o i pos') X.env v = (do
      let ov ← holding [v] (eval o X.env)
      let iv ← holding [v, ov] (eval i X.env)
      standAt pos'
      holding [v, ov, iv] (setItem ov iv v)
      release [v, ov, iv] []) := by intro _; rfl) : SS X W (.Assign [.Subscript o i pos'] e pos) (gLput fo fi f) := by
  refine PS.imp (ps_asg hv (pg_sub ho hi set_list ha) hs hw h1) fun D σ H h => ?_
  obtain ⟨m, s, h, R0, rs, p⟩ := h
  refine ⟨m, s, h, R0, rs, PostE.mono (PostS.ofE rs p) ?_⟩
  rintro v H1 ⟨m1, dv, h1, g1, R1, rv, p1⟩
  refine ⟨m1, s, h1, R1, rs.grow g1, PostE.mono (PostS.ofE (rs.grow g1) p1) ?_⟩
  rintro x H2 ⟨m2, dx, h2, g2, R2, rx, p2⟩
  refine ⟨m2, s, h2, R2, (rs.grow g1).grow g2, PostE.mono (PostS.ofE ((rs.grow g1).grow g2) p2) ?_⟩
  rintro y H3 ⟨m3, dy, h3, g3, R3, ry, p3⟩
  split at p3
  · split at p3
    · rename_i n k xs hn
      split at p3
      · rename_i j hj
        obtain ⟨a, rfl, hm⟩ := (rx.grow g3).ref_inv
        obtain ⟨us, q1, q2⟩ := R3.ob _ _ _ hm hn
        cases ry
        refine ⟨a, us, _, j, rfl, rfl, q1, by rw [q2.length]; exact hj, ?_⟩
        obtain ⟨g4, R4⟩ := R3.lset hm hn (q2.set (rv.grow (g2.trans g3)) j)
        exact p3 m3 _ σ g4 R4 ((rs.grow (g1.trans (g2.trans g3))).grow g4)
      · exact False.elim p3
    · exact False.elim p3
  · exact False.elim p3
/-- a, b = x, y: both ahead, then both names -/
def gPar (i j : Nat) (fa fb : FE) : FS := fun s h => (fa s h).st s fun x h1 => (fb s h1).st s fun y h2 => .nx ((s.set i (some x)).set j (some y)) h2
theorem ss_par {i j : Nat} {x y : Str} {a b : Expr} {fa fb : FE} {px py pt : Pos} {kt k2 pt2} (hc : X.calm = true) (hN : X.N.Nodup) (hi : X.N[i]? = some x) (hj : X.N[j]? = some y) (hij : i ≠ j)
    (hx : X.env.scope.names.lookup x = some .local) (hy : X.env.scope.names.lookup y = some .local) (ha : SE X W a fa) (hb : SE X W b fb)
    (hw : swappedStores [.Tuple [.Name x px, .Name y py] kt pt] (.Tuple [a, b] k2 pt2) X.env = pure (some [x, y]))
    (hs : swapsWithSole [.Tuple [.Name x px, .Name y py] kt pt] (.Tuple [a, b] k2 pt2) pos.line X.env = pure false := by rfl)
    (h1 : starEach [a, b] X.env = (false, eval a X.env) :: starEach [b] X.env := by rfl) (h2 : starEach [b] X.env = (false, eval b X.env) :: starEach [] X.env := by rfl) :
    SS X W (.Assign [.Tuple [.Name x px, .Name y py] kt pt] (.Tuple [a, b] k2 pt2) pos) (gPar i j fa fb) := by
  refine PS.imp (ps_par hc hN hi hj hij hx hy (sa_cons ha (sa_cons hb sa_nil h2) h1) hw hs) fun D σ H h => ?_
  obtain ⟨m, s, h, R0, rs, p⟩ := h
  refine ⟨m, s, h, R0, rs, ?_⟩
  unfold gPar at p
  simp only [evalL]
  generalize fa s h = r1 at p
  cases r1 with
  | ok x h1 =>
    simp only [RD.st_ok] at p
    dsimp only
    generalize fb s h1 = r2 at p
    cases r2 with
    | ok y h2 =>
      intro m1 H1 vs g1 R1 rvs
      cases rvs with
      | cons rv t =>
        cases t with
        | cons rw t =>
          cases t
          exact ⟨_, _, rfl, p m1 H1 _ g1 R1 (((rs.grow g1).set i rv).set j rw)⟩
    | exc c fs h2 => exact fun m1 H1 cls dx g1 R1 ex => p m1 H1 σ cls dx g1 R1 (rs.grow g1) ex
    | bad => exact p
  | exc c fs h2 => exact fun m1 H1 cls dx g1 R1 ex => p m1 H1 σ cls dx g1 R1 (rs.grow g1) ex
  | bad => exact p
/-! ### truth -/
def truB (h : Hm) : D → Option Bool
  | .non => some false
  | .bl b => some b
  | .int i => some (i != 0)
  | .str x => if x.length ≤ big then some ((x.length : Int) != 0) else none
  | .tup xs => some (!xs.isEmpty)
  | .scl xs => some (!xs.isEmpty)
  | .ref n => match h[n]? with
    | some (.lst xs) => some (!xs.isEmpty)
    | some (.dk kvs) => some (!kvs.isEmpty)
    | _ => none
theorem RepL.empty {K : PySem.W.Frag} {m : List Addr} {H : Hp} {vs : List V} {ds : List D} (r : RepL K m H vs ds) : vs.isEmpty = ds.isEmpty := by cases r <;> rfl
theorem truB_ok {K : PySem.W.Frag} {mg : Str → Option Value} {m : List Addr} {H : Hp} {h : Hm} (r : R K mg m H h) {v : V} {d : D} {b : Bool} (x : Rep K m H v d) (e : truB h d = some b) : TruV K v H b := by
  cases d with
  | non => cases e; cases x; rfl
  | bl p => cases e; cases x; rfl
  | int p => cases e; cases x; rfl
  | str p =>
    simp only [truB] at e
    split at e
    · rename_i hz
      cases e
      cases x
      exact ⟨big_line hz, rfl⟩
    · cases e
  | tup ds =>
    cases e
    obtain ⟨a, vs, rfl, t, l⟩ := x.tup_inv
    exact .inr (.inl ⟨vs, t.sqT, by rw [l.empty]⟩)
  | scl ds =>
    cases e
    obtain ⟨a, vs, rfl, t, l⟩ := x.scl_inv
    exact .inl ⟨vs, t.sqL, by rw [l.empty]⟩
  | ref k =>
    obtain ⟨a, rfl, hm⟩ := x.ref_inv
    simp only [truB] at e
    split at e
    · rename_i ds hk
      cases e
      obtain ⟨vs, q1, q2⟩ := r.ob _ _ _ hm hk
      exact .inl ⟨vs, .inl (.inl q1), by rw [q2.empty]⟩
    · rename_i ds hk
      cases e
      obtain ⟨kv, q1, q2⟩ := r.ob _ _ _ hm hk
      refine .inr (.inr ⟨kv, q1, ?_⟩)
      have hl := q2.len
      cases kv <;> cases ds <;> first | rfl | (simp at hl)
    · cases e
def eTru (f : FE) : FE := fun s h => (f s h).bind fun d h1 => match truB h1 d with
  | some b => .ok (.bl b) h1
  | none => .bad
theorem tru_okE {f : FE} {σ : L2.St} {H : Hp} {Q : Bool → Hp → Prop} (h : tST X.K X.mg W (eTru f) σ H Q) : tS X.K X.mg W f σ H fun x H' => ∃ k, TruV X.K x H' k ∧ Q k H' := by
  obtain ⟨m, s, h, R0, rs, p⟩ := h
  refine ⟨m, s, h, R0, rs, PostE.mono (PostT.bindE p) ?_⟩
  rintro x H1 ⟨m1, dx, h1, g1, R1, rx, p1⟩
  try dsimp only at p1
  split at p1
  · rename_i b hb
    exact ⟨b, truB_ok R1 rx hb, p1 m1 H1 (Grow.refl _ _) R1⟩
  · exact False.elim p1
/-- a value of any kind, as a test -/
theorem st_tru (he : SE X W e f) (hw : ∀ whole, isTrue e X.env whole = (do let v ← whole; standAt e.pos; holding [v] (truthy v)) := by intro _; rfl) : ST X W e (eTru f) :=
  PT.imp (pt_truth he hw) fun σ H Q h => tru_okE h
/-- not of a value of any kind -/
theorem se_notT (he : SE X W e f) : SE X W (.UnaryOp .Not e pos) (eNot (eTru f)) := by
  refine PE.imp (pe_notT he) fun σ H Q h => ?_
  obtain ⟨m, s, h, R0, rs, p⟩ := h
  refine ⟨m, s, h, R0, rs, ?_⟩
  unfold eNot eTru at p
  generalize f s h = r at p
  cases r with
  | ok d h1 =>
    intro m1 H1 x g1 R1 rx
    simp only [RD.bind_ok] at p
    generalize hb : truB h1 d = ob at p
    cases ob with
    | some b => exact ⟨b, truB_ok R1 rx hb, (PostE.grow p g1).val R1 (.bl _)⟩
    | none => exact False.elim p
  | exc c fs h1 => exact p
  | bad => exact p
end
end Sh

set_option Elab.async false
set_option linter.all false
set_option maxRecDepth 100000
set_option maxHeartbeats 4000000
/-! What a mirror comes to, statement by statement: OK of expressions, NX of statements. -/
namespace Sh
open PySem L2 PyProof.Rows
inductive OK : RD → (D → Hm → Prop) → Prop
  | mk {d : D} {h : Hm} {Q : D → Hm → Prop} (q : Q d h) : OK (.ok d h) Q
def BL (d : D) (P : Bool → Prop) : Prop := match d with
  | .bl p => P p
  | _ => False
inductive NX : RT → (DS → Hm → Prop) → (D → Hm → Prop) → Prop
  | nx {s : DS} {h : Hm} {N : DS → Hm → Prop} {T : D → Hm → Prop} (q : N s h) : NX (.nx s h) N T
  | rt {d : D} {h : Hm} {N : DS → Hm → Prop} {T : D → Hm → Prop} (q : T d h) : NX (.rt d h) N T
section
variable {r : RD} {Q Q' : D → Hm → Prop} {d : D} {h h1 : Hm} {k : D → Hm → RD} {kb : Bool → Hm → RD} {P : Prop} [Decidable P] {a b : RD} {N N' : DS → Hm → Prop} {T T' : D → Hm → Prop} {s : DS}
theorem ok_ok : OK (.ok d h) Q = Q d h := propext ⟨fun x => (by cases x with | mk q => exact q), .mk⟩
theorem ok_bind : OK (r.bind k) Q = OK r fun d h => OK (k d h) Q := by
  cases r with
  | ok d h => rw [RD.bind_ok, ok_ok]
  | exc c fs h => exact propext ⟨fun x => (by cases x), fun x => (by cases x)⟩
  | bad => exact propext ⟨fun x => (by cases x), fun x => (by cases x)⟩
theorem ok_tb : OK (r.tb kb) Q = OK r fun d h => BL d fun p => OK (kb p h) Q := by
  cases r with
  | ok d h =>
    rw [ok_ok]
    cases d with
    | bl p => rfl
    | _ => exact propext ⟨fun x => (by cases x), fun x => False.elim x⟩
  | exc c fs h => exact propext ⟨fun x => (by cases x), fun x => (by cases x)⟩
  | bad => exact propext ⟨fun x => (by cases x), fun x => (by cases x)⟩
theorem bl_bl {p : Bool} {P : Bool → Prop} : BL (.bl p) P = P p := rfl
theorem ok_ite : OK (if P then a else b) Q = ((P → OK a Q) ∧ (¬ P → OK b Q)) := by
  by_cases h : P <;> simp [h]
theorem OK.mono (x : OK r Q) (k : ∀ d h, Q d h → Q' d h) : OK r Q' := by
  cases x with
  | mk q => exact .mk (k _ _ q)
theorem OK.get (x : OK r Q) : ∃ d h, r = .ok d h ∧ Q d h := by
  cases x with
  | mk q => exact ⟨_, _, rfl, q⟩
theorem OK.of (e : r = .ok d h) (q : Q d h) : OK r Q := by
  rw [e]
  exact .mk q
theorem NX.mono {r : RT} (x : NX r N T) (k : ∀ s h, N s h → N' s h) (k' : ∀ d h, T d h → T' d h) : NX r N' T' := by
  cases x with
  | nx q => exact .nx (k _ _ q)
  | rt q => exact .rt (k' _ _ q)
variable {f c fo fi : FE} {g ga gb : FS} {i : Nat}
theorem nx_seq (x : NX (ga s h) (fun s1 h1 => NX (gb s1 h1) N T) T) : NX (gSeq ga gb s h) N T := by
  rw [x_seq]
  generalize ga s h = r at x
  cases x with
  | nx q => exact q
  | rt q => exact .rt q
theorem nx_set (x : OK (f s h) fun d h1 => N (s.set i (some d)) h1) : NX (gSet i f s h) N T := by
  rw [x_set]
  obtain ⟨d, h1, e, q⟩ := x.get
  rw [e]
  exact .nx q
theorem nx_ret (x : OK (f s h) T) : NX (gRet f s h) N T := by
  rw [x_ret]
  obtain ⟨d, h1, e, q⟩ := x.get
  rw [e]
  exact .rt q
theorem nx_drop (x : OK (f s h) fun _ h1 => N s h1) : NX (gDrop f s h) N T := by
  rw [x_drop]
  obtain ⟨d, h1, e, q⟩ := x.get
  rw [e]
  exact .nx q
theorem nx_next (x : N s h) : NX (gNext s h) N T := .nx x
theorem nx_if (x : OK (c s h) fun d h1 => BL d fun p => (p = true → NX (ga s h1) N T) ∧ (p = false → NX (gb s h1) N T)) : NX (gIf c ga gb s h) N T := by
  rw [x_if]
  obtain ⟨d, h1, e, q⟩ := x.get
  rw [e]
  cases d with
  | bl p =>
    cases p with
    | true => exact q.1 rfl
    | false => exact q.2 rfl
  | _ => exact False.elim q
/-- the condition's value is known -/
theorem nx_ifT (e : c s h = .ok (.bl true) h1) (x : NX (ga s h1) N T) : NX (gIf c ga gb s h) N T := by
  rw [x_if, e]
  exact x
theorem nx_ifF (e : c s h = .ok (.bl false) h1) (x : NX (gb s h1) N T) : NX (gIf c ga gb s h) N T := by
  rw [x_if, e]
  exact x
theorem nx_ifP {p : Prop} [Decidable p] (e : c s h = .ok (.bl (decide p)) h1) (x : p → NX (ga s h1) N T) (y : ¬ p → NX (gb s h1) N T) : NX (gIf c ga gb s h) N T := by
  by_cases hp : p
  · exact nx_ifT (by rw [e, decide_eq_true hp]) (x hp)
  · exact nx_ifF (by rw [e, decide_eq_false hp]) (y hp)
def lputK (d y v : D) (s : DS) (h3 : Hm) : RT := match d, y with
  | .ref n, .int k => (match h3[n]? with
    | some (.lst xs) => (match ixN xs.length k with
      | some j => .nx s (h3.set n (.lst (xs.set j v)))
      | none => .bad)
    | _ => .bad)
  | _, _ => .bad
theorem ixN_nat {n j : Nat} (e : j < n) : ixN n (j : Int) = some j := by
  unfold ixN
  have h0 : (0 : Int) ≤ (j : Int) := Int.natCast_nonneg j
  have h1 : (j : Int) < (n : Int) := Int.ofNat_lt.mpr e
  rw [if_pos h0, if_pos h1]
  rfl
theorem nx_lput {fv : FE} (x : OK (fv s h) fun v h1 => OK (fo s h1) fun d h2 => OK (fi s h2) fun y h3 => ∃ (n j : Nat) (xs : List D), d = .ref n ∧ y = .int j ∧ h3[n]? = some (.lst xs) ∧ j < xs.length ∧ N s (h3.set n (.lst (xs.set j v)))) : NX (gLput fo fi fv s h) N T := by
  unfold gLput
  obtain ⟨v, h1, e1, q⟩ := x.get
  obtain ⟨d, h2, e2, q⟩ := q.get
  obtain ⟨y, h3, e3, n, j, xs, rfl, rfl, e4, e5, q⟩ := q.get
  rw [e1, RD.st_ok, e2, RD.st_ok, e3, RD.st_ok]
  dsimp only
  rw [e4]
  dsimp only
  rw [ixN_nat e5]
  exact .nx q
/-- a def -/
theorem ok_run {n : Nat} {g : FS} {ds : List D} (x : NX (g (ds.map some ++ List.replicate (n - ds.length) none) h) (fun _ h1 => Q .non h1) Q) : OK (runB n g ds h) Q := by
  rw [x_run]
  generalize g (ds.map some ++ List.replicate (n - ds.length) none) h = r at x
  cases x with
  | nx q => exact .mk q
  | rt q => exact .mk q
/-- for i in range(n): an invariant I i s h before the turn i -/
theorem nx_loopR {gt : GT} {ck : Option (Nat × List D)} (I : Nat → DS → Hm → Prop) {n : Nat} (val : Nat → D) (hck : ∀ j s h, I j s h → chkB ck h = true)
    (turn : ∀ j s h, j < n → I j s h → ∃ s1, gt (val j) s h = .nx s1 h ∧ NX (gb s1 h) (I (j + 1)) T) : ∀ (m j : Nat) (s : DS) (h : Hm), j + m = n → I j s h → (∀ s h, I n s h → N s h) → NX (loopG ck gt gb ((List.range' j m).map val) s h) N T
  | 0, j, s, h, e, i0, fin => by
    rw [List.range'_zero, List.map_nil, loop_nil (hck _ _ _ i0)]
    have : j = n := by omega
    subst this
    exact .nx (fin _ _ i0)
  | m + 1, j, s, h, e, i0, fin => by
    obtain ⟨s1, e1, x⟩ := turn j s h (by omega) i0
    rw [List.range'_succ, List.map_cons, loop_cons (hck _ _ _ i0) e1]
    generalize gb s1 h = r at x
    cases x with
    | nx q => exact nx_loopR I val hck turn m (j + 1) _ _ (by omega) q fin
    | rt q => exact .rt q
theorem nx_forR {v : Nat} (I : Nat → DS → Hm → Prop) {n : Nat} (hn : n < 1000000) (e : f s h = .ok (.int (n : Int)) h1) (i0 : I 0 s h1)
    (turn : ∀ j s h, j < n → I j s h → NX (gb (s.set v (some (.int (j : Nat)))) h) (I (j + 1)) T) (fin : ∀ s h, I n s h → N s h) : NX (gFor (fiRg [f]) (tName v) gb s h) N T := by
  rw [for_ok (fi_rg e (by omega) (by omega)), Int.toNat_natCast, List.range_eq_range']
  exact nx_loopR I (fun i => D.int (i : Nat)) (fun _ _ _ _ => rfl) (fun j s h hj hi => ⟨_, rfl, turn j s h hj hi⟩) n 0 s h1 (by omega) i0 fin
/-- [e for i in range(n)], e with effects -/
theorem ok_lcR {gt : GT} {ft fe : FE} {p n : Nat} {s0 : DS} (I : Nat → List D → Hm → Prop) (hb : n < 1000000) (hl : ∀ j acc h, I j acc h → acc.length = j ∧ h[p]? = some (.lst acc))
    (turn : ∀ j acc h, j < n → I j acc h → ∃ s1, gt (.int (j : Nat)) s0 h = .nx s1 h ∧ ft s1 h = .ok (.bl true) h ∧ OK (fe s1 h) fun d h3 => h3[p]? = some (.lst acc) ∧ I (j + 1) (acc ++ [d]) (h3.set p (.lst (acc ++ [d])))) :
    ∀ (m j : Nat) (acc : List D) (h : Hm), j + m = n → I j acc h → (∀ acc h, I n acc h → Q (.ref p) h) → OK (lcLoop none gt ft fe p s0 ((List.range' j m).map fun i => D.int (i : Nat)) h) Q
  | 0, j, acc, h, e, i0, fin => by
    rw [List.range'_zero, List.map_nil]
    unfold lcLoop
    rw [if_pos chk_none]
    have : j = n := by omega
    subst this
    exact .mk (fin _ _ i0)
  | m + 1, j, acc, h, e, i0, fin => by
    obtain ⟨s1, e1, e2, x⟩ := turn j acc h (by omega) i0
    obtain ⟨d, h3, e3, e4, q⟩ := x.get
    rw [List.range'_succ, List.map_cons]
    unfold lcLoop
    rw [if_pos chk_none, e1]
    dsimp only
    rw [e2]
    dsimp only
    rw [e3]
    dsimp only
    rw [e4]
    dsimp only
    have hlt : acc.length < big := by
      have := (hl _ _ _ i0).1
      show acc.length < 1000000
      omega
    rw [if_pos hlt]
    exact ok_lcR I hb hl turn m (j + 1) _ _ (by omega) q fin
theorem ok_elcR {v n : Nat} {ft fe : FE} {own : List Nat} (I : Nat → List D → Hm → Prop) (hb : n < 1000000) (e : f s h = .ok (.int (n : Int)) h1) (i0 : I 0 [] (h1 ++ [.lst []])) (hl : ∀ j acc h, I j acc h → acc.length = j ∧ h[h1.length]? = some (.lst acc))
    (turn : ∀ j acc h, j < n → I j acc h → ft ((wipeD s own).set v (some (.int (j : Nat)))) h = .ok (.bl true) h ∧ OK (fe ((wipeD s own).set v (some (.int (j : Nat)))) h) fun d h3 => h3[h1.length]? = some (.lst acc) ∧ I (j + 1) (acc ++ [d]) (h3.set h1.length (.lst (acc ++ [d]))))
    (fin : ∀ acc h, I n acc h → Q (.ref h1.length) h) : OK (eLc (fiRg [f]) (tName v) ft fe own s h) Q := by
  unfold eLc
  rw [fi_rg e (by omega) (by omega)]
  dsimp only
  rw [Int.toNat_natCast, List.range_eq_range']
  exact ok_lcR I hb hl (fun j acc h hj hi => ⟨_, rfl, turn j acc h hj hi⟩) n 0 [] _ (by omega) i0 fin
end
/-! two lists of ints -/
theorem mapO_ints (n : Nat) (h : Hm) : ∀ l : List Int, mapO (toPy n h) (l.map D.int) = some (l.map PyData.int)
  | [] => rfl
  | p :: ps => by
    have e : toPy n h (.int p) = some (.int p) := by cases n <;> rfl
    simp only [List.map_cons, mapO, e, mapO_ints n h ps]
theorem toPy_ints {n : Nat} {h : Hm} {l : List Int} (e : h[n]? = some (.lst (l.map D.int))) : toPy 20 h (.ref n) = some (.list (l.map PyData.int)) := by
  show (match h[n]? with
    | some (.lst ds) => (mapO (toPy 19 h) ds).map PyData.list
    | some (.scr ds) => (mapO (toPy 19 h) ds).map PyData.list
    | _ => none) = _
  rw [e]
  dsimp only
  rw [mapO_ints]
  rfl
theorem lay_ints : ∀ l : List Int, PyData.canLayAll0 (l.map PyData.int) = true
  | [] => rfl
  | p :: ps => by
    rw [List.map_cons, PyData.canLayAll0, lay_ints ps, Bool.and_true]
    rfl
theorem dep_ints : ∀ l : List Int, PyData.depthAll (l.map PyData.int) = 0
  | [] => rfl
  | p :: ps => by
    rw [List.map_cons, PyData.depthAll, dep_ints ps]
    rfl
theorem shaped_ints (l : List Int) : SeqAt.shaped (.list (l.map PyData.int)) = true := by
  have e1 : PyData.canLay0 (.list (l.map PyData.int)) = true := lay_ints l
  have e2 : PyData.depth (.list (l.map PyData.int)) = 1 := by
    show PyData.depthAll (l.map PyData.int) + 1 = 1
    rw [dep_ints]
  simp only [SeqAt.shaped, e1, e2]
  decide
theorem eqv_ints : ∀ l r : List Int, PyData.eqvAll (l.map PyData.int) (r.map PyData.int) = decide (l = r)
  | [], [] => rfl
  | [], b :: r => rfl
  | a :: l, [] => rfl
  | a :: l, b :: r => by
    rw [List.map_cons, List.map_cons, PyData.eqvAll, eqv_ints l r]
    show ((a == b) && decide (l = r)) = _
    by_cases h1 : a = b
    · subst h1
      simp
    · simp [h1]
theorem eqB_ints {a b : Nat} {h : Hm} {l r : List Int} (ea : h[a]? = some (.lst (l.map D.int))) (eb : h[b]? = some (.lst (r.map D.int))) : eqB h (.ref a) (.ref b) = some (decide (l = r)) := by
  have h1 := toPy_ints ea
  have h2 := toPy_ints eb
  have h3 : SeqAt.shaped (.list (l.map PyData.int)) = true ∧ SeqAt.shaped (.list (r.map PyData.int)) = true := ⟨shaped_ints _, shaped_ints _⟩
  unfold eqB
  simp only [eqSc, h1, h2]
  rw [if_pos h3]
  show some (PyData.eqvAll _ _) = _
  rw [eqv_ints]
theorem eq_ints {a b : Nat} {h : Hm} {l r : List Int} (ea : h[a]? = some (.lst (l.map D.int))) (eb : h[b]? = some (.lst (r.map D.int))) : dEq (.ref a) (.ref b) h = .ok (.bl (decide (l = r))) h := by
  simp only [dEq, eqB_ints ea eb]
theorem ne_ints {a b : Nat} {h : Hm} {l r : List Int} (ea : h[a]? = some (.lst (l.map D.int))) (eb : h[b]? = some (.lst (r.map D.int))) : dNe (.ref a) (.ref b) h = .ok (.bl (!decide (l = r))) h := by
  simp only [dNe, eqB_ints ea eb]
theorem ints_ok {g : List Int → Option Int} {n : Nat} {h : Hm} {l : List Int} {i : Int} (e : h[n]? = some (.lst (l.map D.int))) (eg : g l = some i) : bInts g [.ref n] h = .ok (.int i) h := by
  simp only [bInts, e, intsD_map, eg]
end Sh

set_option Elab.async false
set_option linter.all false
set_option maxRecDepth 100000
set_option maxHeartbeats 4000000
/-! tuples: index of flat things; times an int. -/
namespace Sh
open PySem L2 PyProof.Rows PySem.Spec
section
variable {X : Cx}
def rIndexT (K : PySem.W.Frag) : V → List V → Hp → VK → Prop := fun x xs H Q => ∃ (a : Addr) (ys : List V) (y : V) (j : Nat) (z : V), x = V.ref a ∧ xs = [y] ∧ SqT K H a ys ∧ flatV y = true ∧ ys.all flatV = true ∧ ys[j]? = some z ∧ eqV z y = true ∧
  (∀ (m : Nat) (z' : V), m < j → ys[m]? = some z' → eqV z' y = false) ∧ Q (.int (j : Nat)) H
theorem mt_tindex : MtR X "tuple.index" (rIndexT X.K) := by
  intro pins s σ H x xs v us Q I rx rxs h
  obtain ⟨a, ys, y, j, z, rfl, rfl, hs, fy, fys, hz, hzj, hno, q⟩ := h
  cases rx
  cases rxs with
  | cons ry rt =>
    rename_i uy ut
    cases rt
    obtain ⟨its, rv, pl, hlen⟩ := I.tuple hs
    obtain ⟨⟨cls, dd, data, sl⟩, ho, hc, n, hd⟩ := pl
    simp only at hc hd
    subst hc hd
    obtain ⟨u, hu, ru⟩ := rv.get hz
    obtain ⟨hjl, hje⟩ := List.getElem?_eq_some_iff.mp hu
    have hvl := rv.length
    have hj : j < its.toArray.size := by simpa using hjl
    refine call_meets PySem.F.slot_tuple_index ⟨_, ho, rfl⟩ PySem.F.entry_tuple_index (PySem.F.args_tuple_index_2 _ _)
      (TI.tuple_indexAt a its.toArray n dd sl uy (eqU y) j hj ?_ ?_) ⟨ho, fun u' hu' => mem_eqAt ry fy rv fys u' (by simpa using hu'), ?_⟩
    · have e1 : its.toArray[j] = u := by simpa using hje
      rw [e1, eqU_of ru (flat_at fys hz)]
      exact hzj
    · intro m hm hmj
      have hml : m < its.length := by simpa using hm
      have hmy : m < ys.length := by omega
      have hy' : ys[m]? = some ys[m] := List.getElem?_eq_getElem hmy
      obtain ⟨u2, hu2, ru2⟩ := rv.get hy'
      obtain ⟨_, hme⟩ := List.getElem?_eq_some_iff.mp hu2
      have e1 : its.toArray[m] = u2 := by simpa using hme
      rw [e1, eqU_of ru2 (flat_at fys hy')]
      exact hno m _ hmj hy'
    · exact ⟨.int (j : Nat), H, I.tok _, ⟨_, rfl⟩, q⟩
/-- t.index(x), flat things, x there -/
def tIndex (xs ds : List D) (h : Hm) : RD := match ds with
  | [d] => if flatD d = true ∧ xs.all flatD = true then (match xs.findIdx? (fun z => eqF z d) with
    | some j => .ok (.int j) h
    | none => .bad) else .bad
  | _ => .bad
theorem ts_index : TmS X (rIndexT X.K) tIndex := by
  intro W m H h a xs us vs ds Q r ht l1 l2 p
  unfold tIndex at p
  split at p
  · rename_i d
    split at p
    · rename_i hf
      split at p
      · rename_i j hj
        cases l2 with
        | cons rv rn =>
          cases rn
          rename_i y
          obtain ⟨h1, h2, h3⟩ := List.findIdx?_eq_some_iff_getElem.mp hj
          obtain ⟨z, e1, e2⟩ := l1.get (List.getElem?_eq_getElem h1)
          refine ⟨a, us, y, j, z, rfl, rfl, ht.sqT, flat_rep rv hf.1, flat_repL l1 hf.2, e1, by rw [eqF_rep e2 rv]; exact h2, fun i z' hi hz' => ?_, p.val r (.int _)⟩
          obtain ⟨d', e3, e4⟩ := l1.get' hz'
          rw [eqF_rep e4 rv]
          obtain ⟨h5, h6⟩ := List.getElem?_eq_some_iff.mp e3
          rw [← h6]
          simpa using h3 i hi
      · exact False.elim p
    · exact False.elim p
  · exact False.elim p
/-! a tuple times an int from 1 on -/
theorem tuple_mul1 (l : Addr) (items : Array Value) (n : Nat) (dd : Option Addr) (sl : Array (Option Value)) (x : Int) (u : Tok) (c0 : (decide (x < -(2 ^ 63)) || decide (x ≥ 2 ^ 63)) = false) (c1 : (items.isEmpty || x == 1) = true) :
    Meets (Builtin.«tuple.__mul__» ⟨[.ref l, .int x u], []⟩) (fun _ R s => s.heap.get? l = some { cls := .type "tuple", dict := dd, data := .seq items n, slots := sl } ∧ R (.ok (.ret (Value.ref l))) s) :=
  .of_wp fun prog w A R s h => by
    obtain ⟨hp, g, d, tk, os⟩ := s
    obtain ⟨hl, h⟩ := h
    have f1 := AutoSeq1.idx_int
    wp_walk using wpAny_loadPart' hl
    repeat (first
      | (refine wpAny_ite_false (decide_eq_false (by rw [c0]; exact Bool.false_ne_true)) ?_; wp_walk using wpAny_loadPart' hl)
      | (refine wpAny_ite_true (decide_eq_true c1) ?_; wp_walk using wpAny_loadPart' hl))
    exact ⟨_, rfl, h⟩
def rRepTF (K : PySem.W.Frag) : R2 := fun x y H Q => ∃ l k xs, x = .ref l ∧ y = .int k ∧ SqT K H l xs ∧ xs ≠ [] ∧ 1 ≤ k ∧ k ≤ 1000 ∧ xs.length ≤ 1000 ∧ (k = 1 → Q (.ref l) H) ∧ (k ≠ 1 → rTupF (List.replicate k.toNat xs).flatten H Q)
theorem op_repTF : OpR X (binaryOp .Mult) (rRepTF X.K) := by
  intro pins s σ H x y v u Q I rx ry h
  obtain ⟨l, k, xs, rfl, rfl, hT, hne, h1, h2, hz, q1, q2⟩ := h
  cases rx
  obtain ⟨t, rfl⟩ := ry
  obtain ⟨its, r, ⟨⟨cls, dd, data, sl⟩, ho, hc, n, hd⟩, hs⟩ := I.tuple hT
  simp only at hc hd
  subst hc hd
  have hle : its.length = xs.length := r.length.symm
  have hn : its ≠ [] := fun e => hne (by
    rw [e] at hle
    exact List.eq_nil_of_length_eq_zero hle.symm)
  have hi : its.toArray.isEmpty = false := by
    cases its with
    | nil => exact absurd rfl hn
    | cons a b => rfl
  have hsz0 : its.toArray.size = xs.length := by rw [List.size_toArray, hle]
  have hm : ((its.toArray.size : Nat) : Int) * k ≤ 1000000 := by
    rw [hsz0]
    have a1 : ((xs.length : Nat) : Int) * k ≤ 1000 * k := Int.mul_le_mul_of_nonneg_right (by omega) (by omega)
    omega
  have flen : (List.replicate k.toNat its).flatten.length ≤ sizeLine := by
    rw [PyProof.Rows.lm_len_rep_flat, hle, sizeLine_eq]
    have a1 : k.toNat * xs.length ≤ 1000 * 1000 := Nat.mul_le_mul (by omega) hz
    omega
  have c0 : (decide (k < -(2 ^ 63)) || decide (k ≥ 2 ^ 63)) = false := by
    rw [decide_eq_false (by omega), decide_eq_false (by omega)] <;> rfl
  by_cases hk : k = 1
  · have c1 : (its.toArray.isEmpty || k == 1) = true := by
      rw [hi, Bool.false_or]
      exact beq_iff_eq.mpr hk
    refine wpAny_binaryOp_repeat_ref (T := "tuple") (U := "int") (by decide) ⟨_, ho, rfl⟩ (fun s' => typeIs_int s' k t) noFill_tuple_mul F.fills_int_mul F.slot_int_rmul repeat_tuple F.slot_int_index.lookup
      (call_meets F.slot_int_rmul (typeIs_int s k t) F.entry_int_rmul (F.args_int_rmul_2 _ _) (int_rmul_tuple k t l its.toArray n dd sl)
        ⟨ho, rfl, ⟨_, ho, rfl⟩, call_meets F.slot_tuple_mul ⟨_, ho, rfl⟩ F.entry_tuple_mul (F.args_tuple_mul_2 _ _) (tuple_mul1 l its.toArray n dd sl k t c0 c1) ⟨ho, ?_⟩⟩)
    exact ⟨.ref l, H, I, rfl, q1 hk⟩
  · have c1 : (its.toArray.isEmpty || k == 1) = false := by
      rw [hi, Bool.false_or]
      exact beq_eq_false_iff_ne.mpr hk
    have c2 : (decide (k ≤ 0) || its.toArray.isEmpty) = false := by
      rw [hi, Bool.or_false]
      exact decide_eq_false (by omega)
    have c4 : Builtin.Tuple.tupleTooMany (((its.toArray.size : Nat) : Int) * k) = false := by
      unfold Builtin.Tuple.tupleTooMany
      rw [sizeLine_eq]
      exact decide_eq_false (by omega)
    refine wpAny_binaryOp_repeat_ref (T := "tuple") (U := "int") (by decide) ⟨_, ho, rfl⟩ (fun s' => typeIs_int s' k t) noFill_tuple_mul F.fills_int_mul F.slot_int_rmul repeat_tuple F.slot_int_index.lookup
      (call_meets F.slot_int_rmul (typeIs_int s k t) F.entry_int_rmul (F.args_int_rmul_2 _ _) (int_rmul_tuple k t l its.toArray n dd sl)
        ⟨ho, rfl, ⟨_, ho, rfl⟩, call_meets F.slot_tuple_mul ⟨_, ho, rfl⟩ F.entry_tuple_mul (F.args_tuple_mul_2 _ _) (tuple_mulW l its.toArray n dd sl k t c0 c1 c2 (by omega) c4 (by rw [size_rep, List.size_toArray]; exact flen)) ⟨ho, ?_⟩⟩)
    rw [size_rep]
    have flen2 : (List.replicate k.toNat xs).flatten.length ≤ sizeLine := by
      rw [PyProof.Rows.lm_len_rep_flat, sizeLine_eq]
      have a1 : k.toNat * xs.length ≤ 1000 * 1000 := Nat.mul_le_mul (by omega) hz
      omega
    exact ⟨.ref s.heap.objs.size, _, Inv.tupF I (r.rep k.toNat) flen2 s.toks, rfl, q2 hk _ _ (I.hok.fresh (Nat.le_refl _)) rfl⟩
def dMulT (x y : D) (h : Hm) : RD := match x, y with
  | .tup xs, .int k => if xs ≠ [] ∧ 1 ≤ k ∧ k ≤ 1000 ∧ xs.length ≤ 1000 then .ok (.tup (List.replicate k.toNat xs).flatten) h else .bad
  | _, _ => .bad
theorem os_mulT : OpS X (rRepTF X.K) dMulT := by
  intro W m H h x y dx dy Q r rx ry p
  unfold dMulT at p
  split at p
  · rename_i xs k
    split at p
    · rename_i hc
      obtain ⟨a, vs, rfl, t, l⟩ := rx.tup_inv
      cases ry
      have e1 := l.length
      refine ⟨a, k, vs, rfl, rfl, t.sqT, ?_, hc.2.1, hc.2.2.1, by omega, fun hk => ?_, fun hk q o hq ho => PostE.tup p r (l.flat _) q o hq ho⟩
      · intro z
        rw [z] at e1
        exact hc.1 (List.eq_nil_of_length_eq_zero e1.symm)
      · subst hk
        have e : (List.replicate (1 : Int).toNat xs).flatten = xs := by simp
        rw [e] at p
        exact p.val r rx
    · exact False.elim p
  · exact False.elim p
/-! a comprehension within another one -/
def relabelS (scope sc : Scope) : Scope := { scope with names := scope.names.map fun (n, k) => if (k == .free && sc.kind == .function && sc.names.lookup n == some .cell) then (n, .cell) else (n, k) }
theorem blk_nest {X : Cx} {s : Shared} {H : Hp} {sc1 scope : Scope} {cl : List (Str × Addr)} {C : Addr} {fp : List Addr} {N : List Str} {own : List (Str × Nat)} (D : Scope) (hD : X.env.scope = D) (ok : BlkOk N (relabelS sc1 D) scope own) :
    BlkOk N (X.blk s H sc1 (compEnvC sc1 cl C X.env) fp).env.scope scope own := by
  subst hD
  exact ok
end
end Sh

set_option Elab.async false
set_option linter.all false
set_option maxRecDepth 100000
set_option maxHeartbeats 4000000
namespace Sh.k07
open PySem L2 PyProof.Rows Sh
def top (i : Nat) : Stmt := PySem.Challenge.pw_spentblocks_k07_whole_rows_of_acts.main.body.getD i (.Pass ⟨0, 0, 0, 0⟩)
abbrev s__law_cell : Stmt := top 42
abbrev s__law_mixed : Stmt := top 43
abbrev s__law_digits : Stmt := top 44
abbrev s__law_left : Stmt := top 46
abbrev s__law_pages : Stmt := top 47
abbrev s__law_block : Stmt := top 48
abbrev s__law_drawn : Stmt := top 49
abbrev s__law_small_left : Stmt := top 63
abbrev s__law_small : Stmt := top 64
abbrev s__law_any_stand : Stmt := top 65
abbrev s_is_whole : Stmt := top 31
abbrev s_is_left : Stmt := top 36
abbrev s_is_key : Stmt := top 32
abbrev s_is_block : Stmt := top 35
abbrev s_are_blocks : Stmt := top 34
abbrev s_wrong_part : Stmt := top 33
abbrev s_Stand_init : Stmt := inClass (top 39) 0
abbrev s__law_stand : Stmt := top 50
abbrev s_Stand_shape : Stmt := inClass (top 39) 7
abbrev s__law_same : Stmt := top 45
abbrev s_has_room : Stmt := top 10
abbrev s_places : Stmt := top 8
abbrev s_held : Stmt := top 9
abbrev s_can_be_erased : Stmt := top 11
abbrev s_acts_on : Stmt := top 12
abbrev s_shape_acts : Stmt := top 22
abbrev s_Stand_acts : Stmt := inClass (top 39) 10
abbrev s__law_rooms : Stmt := top 51
abbrev s__law_place : Stmt := top 52
abbrev s__law_erasable : Stmt := top 53
abbrev s__law_acts : Stmt := top 54
abbrev s_Stand_asked : Stmt := inClass (top 39) 5
abbrev s_Stand_many : Stmt := inClass (top 39) 1
abbrev s_Stand_where : Stmt := inClass (top 39) 6
abbrev s__law_agrees : Stmt := top 66
abbrev s__law_replies : Stmt := top 55
abbrev s__law_choice : Stmt := top 67
abbrev s_is_act : Stmt := top 13
abbrev s_Stand_fails : Stmt := inClass (top 39) 3
abbrev s_Stand_cuts : Stmt := inClass (top 39) 4
abbrev s_let_replies : Stmt := top 14
abbrev s_Stand_replies : Stmt := inClass (top 39) 11
abbrev s_is_served : Stmt := top 15
abbrev s_Stand_served : Stmt := inClass (top 39) 13
abbrev s__law_bad : Stmt := top 58
abbrev s__law_erased : Stmt := top 59
abbrev s__law_filled : Stmt := top 56
abbrev s__law_aged : Stmt := top 57
abbrev s__law_rows_after : Stmt := top 60
abbrev s__law_after : Stmt := top 61
abbrev s__law_put : Stmt := top 62
abbrev s__law_model_step : Stmt := top 68
abbrev s_gone_bad : Stmt := top 17
abbrev s_with_block : Stmt := top 20
abbrev s_erased : Stmt := top 18
abbrev s_filled : Stmt := top 16
abbrev s_with_copy : Stmt := top 19
abbrev s_blocks_behind : Stmt := top 21
abbrev s_shape_behind : Stmt := top 24
abbrev s_is_shape : Stmt := top 37
abbrev s_stand_of : Stmt := top 40
abbrev s_Stand_after : Stmt := inClass (top 39) 12
abbrev s_shape_asked : Stmt := top 23
abbrev s_Stand_put : Stmt := inClass (top 39) 9
abbrev s__law_program_step : Stmt := top 69
abbrev s_law : Stmt := top 70
structure Txt (K : PySem.W.Frag) (mg : Str → Option Value) where
  b_all : mg "all" = none
  b_any : mg "any" = none
  b_bool : mg "bool" = none
  b_enumerate : mg "enumerate" = none
  b_int : mg "int" = none
  b_isinstance : mg "isinstance" = none
  b_len : mg "len" = none
  b_list : mg "list" = none
  b_max : mg "max" = none
  b_min : mg "min" = none
  b_range : mg "range" = none
  b_set : mg "set" = none
  b_sorted : mg "sorted" = none
  b_str : mg "str" = none
  b_tuple : mg "tuple" = none
  c_MOST_BLOCKS : ∃ t, mg "MOST_BLOCKS" = some (.int 9 t)
  c_MOST_KEYS : ∃ t, mg "MOST_KEYS" = some (.int 9 t)
  c_MOST_LEFT : ∃ t, mg "MOST_LEFT" = some (.int 99 t)
  c_MOST_LOSSES : ∃ t, mg "MOST_LOSSES" = some (.int 9 t)
  c_MOST_PAGES : ∃ t, mg "MOST_PAGES" = some (.int 6 t)
  k_Stand : ClAt K mg "Stand"
  na_Stand__shape : NoAttr K k_Stand.C "_shape"
  e_NoAct : ExAt K mg "NoAct"
  e_NoKey : ExAt K mg "NoKey"
  e_NoReply : ExAt K mg "NoReply"
  e_NotAtRest : ExAt K mg "NotAtRest"
  f__law_cell : FnAt K mg "_law_cell" "_law_cell" s__law_cell ["script", "k"]
  f__law_mixed : FnAt K mg "_law_mixed" "_law_mixed" s__law_mixed ["cell", "k"]
  f__law_digits : FnAt K mg "_law_digits" "_law_digits" s__law_digits ["cell", "sizes"]
  f__law_left : FnAt K mg "_law_left" "_law_left" s__law_left ["digit"]
  f__law_pages : FnAt K mg "_law_pages" "_law_pages" s__law_pages ["digits", "rest", "pages", "written"]
  f__law_block : FnAt K mg "_law_block" "_law_block" s__law_block ["cell", "rest", "pages"]
  f__law_drawn : FnAt K mg "_law_drawn" "_law_drawn" s__law_drawn ["script", "at"]
  f__law_small_left : FnAt K mg "_law_small_left" "_law_small_left" s__law_small_left ["digit"]
  f__law_small : FnAt K mg "_law_small" "_law_small" s__law_small ["script", "at", "most_fails", "most_cuts"]
  f__law_any_stand : FnAt K mg "_law_any_stand" "_law_any_stand" s__law_any_stand ["script", "at"]
  f_is_whole : FnAt K mg "is_whole" "is_whole" s_is_whole ["thing", "low", "high"]
  f_is_left : FnAt K mg "is_left" "is_left" s_is_left ["left"]
  f_is_key : FnAt K mg "is_key" "is_key" s_is_key ["thing", "keys"]
  f_is_block : FnAt K mg "is_block" "is_block" s_is_block ["block", "keys"]
  f_are_blocks : FnAt K mg "are_blocks" "are_blocks" s_are_blocks ["blocks", "keys"]
  f_wrong_part : FnAt K mg "wrong_part" "wrong_part" s_wrong_part ["keys", "blocks", "fails", "cuts", "asked"]
  f_Stand_init : InAt K k_Stand.C "Stand.__init__" s_Stand_init ["self", "keys", "blocks", "fails", "cuts", "asked"] 4 ["asked"]
  f__law_stand : FnAt K mg "_law_stand" "_law_stand" s__law_stand ["shape"]
  f_Stand_shape : MeAt K k_Stand.C "shape" "Stand.shape" s_Stand_shape ["self"]
  f__law_same : FnAt K mg "_law_same" "_law_same" s__law_same ["got", "due"]
  f_has_room : FnAt K mg "has_room" "has_room" s_has_room ["block"]
  f_places : FnAt K mg "places" "places" s_places ["blocks"]
  f_held : FnAt K mg "held" "held" s_held ["block"]
  f_can_be_erased : FnAt K mg "can_be_erased" "can_be_erased" s_can_be_erased ["block"]
  f_acts_on : FnAt K mg "acts_on" "acts_on" s_acts_on ["blocks"]
  f_shape_acts : FnAt K mg "shape_acts" "shape_acts" s_shape_acts ["shape"]
  f_Stand_acts : MeAt K k_Stand.C "acts" "Stand.acts" s_Stand_acts ["self"]
  f__law_rooms : FnAt K mg "_law_rooms" "_law_rooms" s__law_rooms ["shape"]
  f__law_place : FnAt K mg "_law_place" "_law_place" s__law_place ["shape", "key"]
  f__law_erasable : FnAt K mg "_law_erasable" "_law_erasable" s__law_erasable ["block"]
  f__law_acts : FnAt K mg "_law_acts" "_law_acts" s__law_acts ["shape"]
  f_Stand_asked : MeAt K k_Stand.C "asked" "Stand.asked" s_Stand_asked ["self"]
  f_Stand_many : MeAt K k_Stand.C "many" "Stand.many" s_Stand_many ["self"]
  f_Stand_where : MeAt K k_Stand.C "where" "Stand.where" s_Stand_where ["self", "key"]
  f__law_agrees : FnAt K mg "_law_agrees" "_law_agrees" s__law_agrees ["stand", "shape"]
  f__law_replies : FnAt K mg "_law_replies" "_law_replies" s__law_replies ["shape"]
  f__law_choice : FnAt K mg "_law_choice" "_law_choice" s__law_choice ["shape", "cell"]
  f_is_act : FnAt K mg "is_act" "is_act" s_is_act ["act", "acts"]
  f_Stand_fails : MeAt K k_Stand.C "fails" "Stand.fails" s_Stand_fails ["self"]
  f_Stand_cuts : MeAt K k_Stand.C "cuts" "Stand.cuts" s_Stand_cuts ["self"]
  f_let_replies : FnAt K mg "let_replies" "let_replies" s_let_replies ["fails", "cuts"]
  f_Stand_replies : MeAt K k_Stand.C "replies" "Stand.replies" s_Stand_replies ["self", "act"]
  f_is_served : FnAt K mg "is_served" "is_served" s_is_served ["act", "reply"]
  f_Stand_served : MeAt K k_Stand.C "served" "Stand.served" s_Stand_served ["self", "act", "reply"]
  f__law_bad : FnAt K mg "_law_bad" "_law_bad" s__law_bad ["block"]
  f__law_erased : FnAt K mg "_law_erased" "_law_erased" s__law_erased ["block", "page"]
  f__law_filled : FnAt K mg "_law_filled" "_law_filled" s__law_filled ["pages", "page"]
  f__law_aged : FnAt K mg "_law_aged" "_law_aged" s__law_aged ["block", "key"]
  f__law_rows_after : FnAt K mg "_law_rows_after" "_law_rows_after" s__law_rows_after ["shape", "act", "reply"]
  f__law_after : FnAt K mg "_law_after" "_law_after" s__law_after ["shape", "act", "reply"]
  f__law_put : FnAt K mg "_law_put" "_law_put" s__law_put ["shape", "key"]
  f__law_model_step : FnAt K mg "_law_model_step" "_law_model_step" s__law_model_step ["shape", "item"]
  f_gone_bad : FnAt K mg "gone_bad" "gone_bad" s_gone_bad ["block"]
  f_with_block : FnAt K mg "with_block" "with_block" s_with_block ["blocks", "b", "block"]
  f_erased : FnAt K mg "erased" "erased" s_erased ["block", "page"]
  f_filled : FnAt K mg "filled" "filled" s_filled ["block", "page"]
  f_with_copy : FnAt K mg "with_copy" "with_copy" s_with_copy ["blocks", "key", "b"]
  f_blocks_behind : FnAt K mg "blocks_behind" "blocks_behind" s_blocks_behind ["blocks", "asked", "act", "reply"]
  f_shape_behind : FnAt K mg "shape_behind" "shape_behind" s_shape_behind ["shape", "act", "reply"]
  f_is_shape : FnAt K mg "is_shape" "is_shape" s_is_shape ["shape"]
  f_stand_of : FnAt K mg "stand_of" "stand_of" s_stand_of ["shape"]
  f_Stand_after : MeAt K k_Stand.C "after" "Stand.after" s_Stand_after ["self", "act", "reply"]
  f_shape_asked : FnAt K mg "shape_asked" "shape_asked" s_shape_asked ["shape", "key"]
  f_Stand_put : MeAt K k_Stand.C "put" "Stand.put" s_Stand_put ["self", "key"]
  f__law_program_step : FnAt K mg "_law_program_step" "_law_program_step" s__law_program_step ["stand", "item"]
  f_law : FnAt K mg "law" "law" s_law ["script"]
section
variable {P : Program} {w : World} {K : PySem.W.Frag} {mg : Str → Option Value} {base : Heap}
theorem sc__law_cell : FnScope ["script", "k", "first"] ["script", "k"] (defScope s__law_cell) := ⟨rfl, rfl, rfl, by decide +kernel, rfl, by decide +kernel, by decide +kernel⟩
def g__law_cell : FS := (gSeq (gIf (eBin (dCmp fun i j => decide (i < j)) (eVar 1) (eArgs bLen [(eVar 0)])) (gRet (eArgs bInt [(eBin dIx (eVar 0) (eVar 1))])) gNext)
    (gSeq (gSet 2 (eC (.int 0)))
    (gSeq (gIf (eBin (dCmp fun i j => decide (j < i)) (eArgs bLen [(eVar 0)]) (eC (.int 0))) (gSet 2 (eArgs bInt [(eBin dIx (eVar 0) (eC (.int 0)))])) gNext)
    (gRet (eBin dMod (eArgs bInt [(eBin dMul (eBin dAdd (eVar 2) (eBin dMul (eC (.int 7919)) (eVar 1))) (eC (.int 48271)))]) (eC (.int 2147483647)))))))
def m__law_cell : FF := runB 3 g__law_cell
theorem ok__law_cell (T : Txt K mg) : OkF P w K mg base 1 T.f__law_cell.f T.f__law_cell.fd ["script", "k"] m__law_cell := by
  refine @okS P w K mg base "_law_cell" "_law_cell" s__law_cell T.f__law_cell.f T.f__law_cell.fd ["script", "k", "first"] ["script", "k"]  0 g__law_cell T.f__law_cell.fn sc__law_cell ?_
  intro cdv A outer s H E hr tk PO
  unfold g__law_cell
  refine sss_cons ?_ ?_
  · refine ss_if ?_ ?_ ?_
    · refine st_cmp op_lt os_cmp ?_ ?_ (nomark _)
      · exact se_var 1
      · refine se_callB (call_len) (cs_len) rfl T.b_len rfl ?_
        refine sa_cons ?_ ?_
        · exact se_var 0
        · exact sa_nil
    · refine sss_one ?_
      refine ss_ret ?_
      refine se_callTy (call_int1) (cs_int) rfl T.b_int rfl ?_
      refine sa_cons ?_ ?_
      · refine se_ix ?_ ?_
        · exact se_var 0
        · exact se_var 1
      · exact sa_nil
    · exact sss_nil
  · refine sss_cons ?_ ?_
    · refine ss_set sc__law_cell.nd rfl (by first | exact Or.inl rfl | exact Or.inr rfl) ?_
      exact se_int
    · refine sss_cons ?_ ?_
      · refine ss_if ?_ ?_ ?_
        · refine st_cmp op_gt os_cmp ?_ ?_ (nomark _)
          · refine se_callB (call_len) (cs_len) rfl T.b_len rfl ?_
            refine sa_cons ?_ ?_
            · exact se_var 0
            · exact sa_nil
          · exact se_int
        · refine sss_one ?_
          refine ss_set sc__law_cell.nd rfl (by first | exact Or.inl rfl | exact Or.inr rfl) ?_
          refine se_callTy (call_int1) (cs_int) rfl T.b_int rfl ?_
          refine sa_cons ?_ ?_
          · refine se_ix ?_ ?_
            · exact se_var 0
            · exact se_int
          · exact sa_nil
        · exact sss_nil
      · refine sss_one ?_
        refine ss_ret ?_
        refine se_op op_mod os_mod ?_ ?_
        · refine se_callTy (call_int1) (cs_int) rfl T.b_int rfl ?_
          refine sa_cons ?_ ?_
          · refine se_op op_mul2 os_mul ?_ ?_
            · refine se_op op_add4 os_add ?_ ?_
              · exact se_var 2
              · refine se_op op_mul2 os_mul ?_ ?_
                · exact se_int
                · exact se_var 1
            · exact se_int
          · exact sa_nil
        · exact se_int

theorem sc__law_mixed : FnScope ["cell", "k", "number"] ["cell", "k"] (defScope s__law_mixed) := ⟨rfl, rfl, rfl, by decide +kernel, rfl, by decide +kernel, by decide +kernel⟩
def g__law_mixed : FS := (gSeq (gSet 2 (eBin dMod (eArgs bInt [(eBin dMul (eBin dAdd (eBin dAdd (eVar 0) (eBin dMul (eC (.int 7919)) (eVar 1))) (eC (.int 1))) (eC (.int 48271)))]) (eC (.int 2147483647))))
    (gSeq (gSet 2 (eBin dMod (eArgs bInt [(eBin dMul (eVar 2) (eBin dAdd (eBin dDiv (eVar 2) (eC (.int 1009))) (eC (.int 69621))))]) (eC (.int 2147483647))))
    (gRet (eBin dMod (eArgs bInt [(eBin dMul (eVar 2) (eBin dAdd (eBin dDiv (eVar 2) (eC (.int 2003))) (eC (.int 40692))))]) (eC (.int 2147483399))))))
def m__law_mixed : FF := runB 3 g__law_mixed
theorem ok__law_mixed (T : Txt K mg) : OkF P w K mg base 1 T.f__law_mixed.f T.f__law_mixed.fd ["cell", "k"] m__law_mixed := by
  refine @okS P w K mg base "_law_mixed" "_law_mixed" s__law_mixed T.f__law_mixed.f T.f__law_mixed.fd ["cell", "k", "number"] ["cell", "k"]  0 g__law_mixed T.f__law_mixed.fn sc__law_mixed ?_
  intro cdv A outer s H E hr tk PO
  unfold g__law_mixed
  refine sss_cons ?_ ?_
  · refine ss_set sc__law_mixed.nd rfl (by first | exact Or.inl rfl | exact Or.inr rfl) ?_
    refine se_op op_mod os_mod ?_ ?_
    · refine se_callTy (call_int1) (cs_int) rfl T.b_int rfl ?_
      refine sa_cons ?_ ?_
      · refine se_op op_mul2 os_mul ?_ ?_
        · refine se_op op_add4 os_add ?_ ?_
          · refine se_op op_add4 os_add ?_ ?_
            · exact se_var 0
            · refine se_op op_mul2 os_mul ?_ ?_
              · exact se_int
              · exact se_var 1
          · exact se_int
        · exact se_int
      · exact sa_nil
    · exact se_int
  · refine sss_cons ?_ ?_
    · refine ss_set sc__law_mixed.nd rfl (by first | exact Or.inl rfl | exact Or.inr rfl) ?_
      refine se_op op_mod os_mod ?_ ?_
      · refine se_callTy (call_int1) (cs_int) rfl T.b_int rfl ?_
        refine sa_cons ?_ ?_
        · refine se_op op_mul2 os_mul ?_ ?_
          · exact se_var 2
          · refine se_op op_add4 os_add ?_ ?_
            · refine se_op op_fdivW os_div ?_ ?_
              · exact se_var 2
              · exact se_int
            · exact se_int
        · exact sa_nil
      · exact se_int
    · refine sss_one ?_
      refine ss_ret ?_
      refine se_op op_mod os_mod ?_ ?_
      · refine se_callTy (call_int1) (cs_int) rfl T.b_int rfl ?_
        refine sa_cons ?_ ?_
        · refine se_op op_mul2 os_mul ?_ ?_
          · exact se_var 2
          · refine se_op op_add4 os_add ?_ ?_
            · refine se_op op_fdivW os_div ?_ ?_
              · exact se_var 2
              · exact se_int
            · exact se_int
        · exact sa_nil
      · exact se_int

theorem sc__law_digits : FnScope ["cell", "sizes", "row", "size", "k"] ["cell", "sizes"] (defScope s__law_digits) := ⟨rfl, rfl, rfl, by decide +kernel, rfl, by decide +kernel, by decide +kernel⟩
def g__law_digits : FS := (gSeq (gSet 2 (eLst []))
    (gSeq (gIf (eBin (dCmp fun i j => decide (j ≤ i)) (eVar 0) (eBin dPow (eC (.int 10)) (eC (.int 18)))) (gSeq (gFor (fiSeq (eVar 1)) (tName 3) (gSeq (gDrop (eLm lAppend (eVar 2) [(eBin dMod (eArgs bInt [(eVar 0)]) (eVar 3))]))
    (gSet 0 (eBin dDiv (eVar 0) (eVar 3)))))
    (gRet (eVar 2))) gNext)
    (gSeq (gFor (fiRg [(eArgs bLen [(eVar 1)])]) (tName 4) (gDrop (eLm lAppend (eVar 2) [(eBin dMod (eArgs bInt [(eBin dDiv (eArgs m__law_mixed [(eVar 0), (eVar 4)]) (eC (.int 16)))]) (eBin dIx (eVar 1) (eVar 4)))])))
    (gRet (eVar 2)))))
def m__law_digits : FF := runB 5 g__law_digits
theorem ok__law_digits (T : Txt K mg) : OkF P w K mg base 2 T.f__law_digits.f T.f__law_digits.fd ["cell", "sizes"] m__law_digits := by
  refine @okS P w K mg base "_law_digits" "_law_digits" s__law_digits T.f__law_digits.f T.f__law_digits.fd ["cell", "sizes", "row", "size", "k"] ["cell", "sizes"]  1 g__law_digits T.f__law_digits.fn sc__law_digits ?_
  intro cdv A outer s H E hr tk PO
  unfold g__law_digits
  refine sss_cons ?_ ?_
  · refine ss_set sc__law_digits.nd rfl (by first | exact Or.inl rfl | exact Or.inr rfl) ?_
    refine se_lst ?_
    exact sa_nil
  · refine sss_cons ?_ ?_
    · refine ss_if ?_ ?_ ?_
      · refine st_cmp op_ge os_cmp ?_ ?_ (nomark _)
        · exact se_var 0
        · refine se_op op_pow os_pow ?_ ?_
          · exact se_int
          · exact se_int
      · refine sss_cons ?_ ?_
        · refine ss_for (vs := [3]) (wk := false) PO rfl ?_ ?_ ?_
          · refine si_seq ?_
            exact se_var 1
          · exact sg_name sc__law_digits.nd rfl (by first | exact Or.inl rfl | exact Or.inr rfl)
          · refine sss_cons ?_ ?_
            · refine ss_expr ?_
              refine se_lm PySem.F.plainAttrs_list PySem.F.slot_list_append PySem.F.type_list_append mt_append ls_append ?_ ?_
              · exact se_var 2
              · refine sa_cons ?_ ?_
                · refine se_op op_mod os_mod ?_ ?_
                  · refine se_callTy (call_int1) (cs_int) rfl T.b_int rfl ?_
                    refine sa_cons ?_ ?_
                    · exact se_var 0
                    · exact sa_nil
                  · exact se_var 3
                · exact sa_nil
            · refine sss_one ?_
              refine ss_set sc__law_digits.nd rfl (by first | exact Or.inl rfl | exact Or.inr rfl) ?_
              refine se_op op_fdivW os_div ?_ ?_
              · exact se_var 0
              · exact se_var 3
        · refine sss_one ?_
          refine ss_ret ?_
          exact se_var 2
      · exact sss_nil
    · refine sss_cons ?_ ?_
      · refine ss_for (vs := [4]) (wk := false) PO rfl ?_ ?_ ?_
        · refine si_rg1 rfl T.b_range ?_
          refine sa_cons ?_ ?_
          · refine se_callB (call_len) (cs_len) rfl T.b_len rfl ?_
            refine sa_cons ?_ ?_
            · exact se_var 1
            · exact sa_nil
          · exact sa_nil
        · exact sg_name sc__law_digits.nd rfl (by first | exact Or.inl rfl | exact Or.inr rfl)
        · refine sss_one ?_
          refine ss_expr ?_
          refine se_lm PySem.F.plainAttrs_list PySem.F.slot_list_append PySem.F.type_list_append mt_append ls_append ?_ ?_
          · exact se_var 2
          · refine sa_cons ?_ ?_
            · refine se_op op_mod os_mod ?_ ?_
              · refine se_callTy (call_int1) (cs_int) rfl T.b_int rfl ?_
                refine sa_cons ?_ ?_
                · refine se_op op_fdivW os_div ?_ ?_
                  · refine se_callA T.f__law_mixed (ok__law_mixed T) tk (hr.mono (by decide)) rfl ?_
                    refine sa_cons ?_ ?_
                    · exact se_var 0
                    · refine sa_cons ?_ ?_
                      · exact se_var 4
                      · exact sa_nil
                  · exact se_int
                · exact sa_nil
              · refine se_ix ?_ ?_
                · exact se_var 1
                · exact se_var 4
            · exact sa_nil
      · refine sss_one ?_
        refine ss_ret ?_
        exact se_var 2

theorem sc__law_left : FnScope ["digit"] ["digit"] (defScope s__law_left) := ⟨rfl, rfl, rfl, by decide +kernel, rfl, by decide +kernel, by decide +kernel⟩
def g__law_left : FS := (gSeq (gIf (eBin (dCmp fun i j => decide (i < j)) (eVar 0) (eC (.int 10))) (gRet (eC .non)) gNext)
    (gSeq (gIf (eBin (dCmp fun i j => decide (i < j)) (eVar 0) (eC (.int 20))) (gRet (eC (.str "ever"))) gNext)
    (gSeq (gIf (eBin (dCmp fun i j => decide (i < j)) (eVar 0) (eC (.int 120))) (gRet (eBin dSub (eVar 0) (eC (.int 20)))) gNext)
    (gRet (eBin dMod (eArgs bInt [(eVar 0)]) (eC (.int 3)))))))
def m__law_left : FF := runB 1 g__law_left
theorem ok__law_left (T : Txt K mg) : OkF P w K mg base 1 T.f__law_left.f T.f__law_left.fd ["digit"] m__law_left := by
  refine @okS P w K mg base "_law_left" "_law_left" s__law_left T.f__law_left.f T.f__law_left.fd ["digit"] ["digit"]  0 g__law_left T.f__law_left.fn sc__law_left ?_
  intro cdv A outer s H E hr tk PO
  unfold g__law_left
  refine sss_cons ?_ ?_
  · refine ss_if ?_ ?_ ?_
    · refine st_cmp op_lt os_cmp ?_ ?_ (nomark _)
      · exact se_var 0
      · exact se_int
    · refine sss_one ?_
      refine ss_ret ?_
      exact se_non
    · exact sss_nil
  · refine sss_cons ?_ ?_
    · refine ss_if ?_ ?_ ?_
      · refine st_cmp op_lt os_cmp ?_ ?_ (nomark _)
        · exact se_var 0
        · exact se_int
      · refine sss_one ?_
        refine ss_ret ?_
        exact se_str
      · exact sss_nil
    · refine sss_cons ?_ ?_
      · refine ss_if ?_ ?_ ?_
        · refine st_cmp op_lt os_cmp ?_ ?_ (nomark _)
          · exact se_var 0
          · exact se_int
        · refine sss_one ?_
          refine ss_ret ?_
          refine se_op op_sub os_sub ?_ ?_
          · exact se_var 0
          · exact se_int
        · exact sss_nil
      · refine sss_one ?_
        refine ss_ret ?_
        refine se_op op_mod os_mod ?_ ?_
        · refine se_callTy (call_int1) (cs_int) rfl T.b_int rfl ?_
          refine sa_cons ?_ ?_
          · exact se_var 0
          · exact sa_nil
        · exact se_int

theorem sc__law_pages : FnScope ["digits", "rest", "pages", "written", "row", "k"] ["digits", "rest", "pages", "written"] (defScope s__law_pages) := ⟨rfl, rfl, rfl, by decide +kernel, rfl, by decide +kernel, by decide +kernel⟩
def g__law_pages : FS := (gSeq (gSet 4 (eLst []))
    (gSeq (gFor (fiRg [(eVar 2)]) (tName 5) (gIf (eBin (dCmp fun i j => decide (j ≤ i)) (eVar 5) (eVar 3)) (gDrop (eLm lAppend (eVar 4) [(eC (.str "free"))])) (gIf (eOr (eBin dEq (eBin dMod (eArgs bInt [(eBin dIx (eVar 0) (eVar 5))]) (eC (.int 3))) (eC (.int 0))) (eBin dEq (eArgs bLen [(eVar 1)]) (eC (.int 0)))) (gDrop (eLm lAppend (eVar 4) [(eC (.str "old"))])) (gDrop (eLm lAppend (eVar 4) [(eLm lPopAt (eVar 1) [(eBin dMod (eArgs bInt [(eBin dDiv (eBin dIx (eVar 0) (eVar 5)) (eC (.int 3)))]) (eArgs bLen [(eVar 1)]))])])))))
    (gRet (eArgs bTuple [(eVar 4)]))))
def m__law_pages : FF := runB 6 g__law_pages
theorem ok__law_pages (T : Txt K mg) : OkF P w K mg base 1 T.f__law_pages.f T.f__law_pages.fd ["digits", "rest", "pages", "written"] m__law_pages := by
  refine @okS P w K mg base "_law_pages" "_law_pages" s__law_pages T.f__law_pages.f T.f__law_pages.fd ["digits", "rest", "pages", "written", "row", "k"] ["digits", "rest", "pages", "written"]  0 g__law_pages T.f__law_pages.fn sc__law_pages ?_
  intro cdv A outer s H E hr tk PO
  unfold g__law_pages
  refine sss_cons ?_ ?_
  · refine ss_set sc__law_pages.nd rfl (by first | exact Or.inl rfl | exact Or.inr rfl) ?_
    refine se_lst ?_
    exact sa_nil
  · refine sss_cons ?_ ?_
    · refine ss_for (vs := [5]) (wk := false) PO rfl ?_ ?_ ?_
      · refine si_rg1 rfl T.b_range ?_
        refine sa_cons ?_ ?_
        · exact se_var 2
        · exact sa_nil
      · exact sg_name sc__law_pages.nd rfl (by first | exact Or.inl rfl | exact Or.inr rfl)
      · refine sss_one ?_
        refine ss_if ?_ ?_ ?_
        · refine st_cmp op_ge os_cmp ?_ ?_ (nomark _)
          · exact se_var 5
          · exact se_var 3
        · refine sss_one ?_
          refine ss_expr ?_
          refine se_lm PySem.F.plainAttrs_list PySem.F.slot_list_append PySem.F.type_list_append mt_append ls_append ?_ ?_
          · exact se_var 4
          · refine sa_cons ?_ ?_
            · exact se_str
            · exact sa_nil
        · refine sss_one ?_
          refine ss_if ?_ ?_ ?_
          · refine SW.st ?_
            refine sw_or ?_ ?_
            · refine st_cmp (op_eq2 hr.units) os_eq ?_ ?_ (nomark _)
              · refine se_op op_mod os_mod ?_ ?_
                · refine se_callTy (call_int1) (cs_int) rfl T.b_int rfl ?_
                  refine sa_cons ?_ ?_
                  · refine se_ix ?_ ?_
                    · exact se_var 0
                    · exact se_var 5
                  · exact sa_nil
                · exact se_int
              · exact se_int
            · refine sw_or1 ?_
              refine st_cmp (op_eq2 hr.units) os_eq ?_ ?_ (nomark _)
              · refine se_callB (call_len) (cs_len) rfl T.b_len rfl ?_
                refine sa_cons ?_ ?_
                · exact se_var 1
                · exact sa_nil
              · exact se_int
          · refine sss_one ?_
            refine ss_expr ?_
            refine se_lm PySem.F.plainAttrs_list PySem.F.slot_list_append PySem.F.type_list_append mt_append ls_append ?_ ?_
            · exact se_var 4
            · refine sa_cons ?_ ?_
              · exact se_str
              · exact sa_nil
          · refine sss_one ?_
            refine ss_expr ?_
            refine se_lm PySem.F.plainAttrs_list PySem.F.slot_list_append PySem.F.type_list_append mt_append ls_append ?_ ?_
            · exact se_var 4
            · refine sa_cons ?_ ?_
              · refine se_lm PySem.F.plainAttrs_list PySem.F.slot_list_pop PySem.F.type_list_pop mt_popAt ls_popAt ?_ ?_
                · exact se_var 1
                · refine sa_cons ?_ ?_
                  · refine se_op op_mod os_mod ?_ ?_
                    · refine se_callTy (call_int1) (cs_int) rfl T.b_int rfl ?_
                      refine sa_cons ?_ ?_
                      · refine se_op op_fdivW os_div ?_ ?_
                        · refine se_ix ?_ ?_
                          · exact se_var 0
                          · exact se_var 5
                        · exact se_int
                      · exact sa_nil
                    · refine se_callB (call_len) (cs_len) rfl T.b_len rfl ?_
                      refine sa_cons ?_ ?_
                      · exact se_var 1
                      · exact sa_nil
                  · exact sa_nil
              · exact sa_nil
    · refine sss_one ?_
      refine ss_ret ?_
      refine se_callTy (call_tuple_ofF) (cs_tuple) rfl T.b_tuple rfl ?_
      refine sa_cons ?_ ?_
      · exact se_var 4
      · exact sa_nil

theorem sc__law_block : FnScope ["cell", "rest", "pages", "digits", "left", "written"] ["cell", "rest", "pages"] (defScope s__law_block) := ⟨rfl, rfl, rfl, by decide +kernel, rfl, by decide +kernel, by decide +kernel⟩
def g__law_block : FS := (gSeq (gSet 3 (eArgs m__law_digits [(eVar 0), (eBin dAdd (eLst [(eC (.int 160)), (eBin dAdd (eVar 2) (eC (.int 1)))]) (eBin dMul (eLst [(eC (.int 36))]) (eVar 2)))]))
    (gSeq (gSet 4 (eArgs m__law_left [(eBin dIx (eVar 3) (eC (.int 0)))]))
    (gSeq (gSet 5 (eBin dIx (eVar 3) (eC (.int 1))))
    (gSeq (gIf (eBin dIs (eVar 4) (eC .non)) (gSet 5 (eVar 2)) gNext)
    (gRet (eTup [(eVar 4), (eArgs m__law_pages [(eSl (eVar 3) (some (eC (.int 2))) none), (eVar 1), (eVar 2), (eVar 5)])]))))))
def m__law_block : FF := runB 6 g__law_block
theorem ok__law_block (T : Txt K mg) : OkF P w K mg base 3 T.f__law_block.f T.f__law_block.fd ["cell", "rest", "pages"] m__law_block := by
  refine @okS P w K mg base "_law_block" "_law_block" s__law_block T.f__law_block.f T.f__law_block.fd ["cell", "rest", "pages", "digits", "left", "written"] ["cell", "rest", "pages"]  2 g__law_block T.f__law_block.fn sc__law_block ?_
  intro cdv A outer s H E hr tk PO
  unfold g__law_block
  refine sss_cons ?_ ?_
  · refine ss_set sc__law_block.nd rfl (by first | exact Or.inl rfl | exact Or.inr rfl) ?_
    refine se_callA T.f__law_digits (ok__law_digits T) tk (hr.mono (by decide)) rfl ?_
    refine sa_cons ?_ ?_
    · exact se_var 0
    · refine sa_cons ?_ ?_
      · refine se_op op_add4 os_add ?_ ?_
        · refine se_lst ?_
          refine sa_cons ?_ ?_
          · exact se_int
          · refine sa_cons ?_ ?_
            · refine se_op op_add4 os_add ?_ ?_
              · exact se_var 2
              · exact se_int
            · exact sa_nil
        · refine se_op op_mul2 os_mul ?_ ?_
          · refine se_lst ?_
            refine sa_cons ?_ ?_
            · exact se_int
            · exact sa_nil
          · exact se_var 2
      · exact sa_nil
  · refine sss_cons ?_ ?_
    · refine ss_set sc__law_block.nd rfl (by first | exact Or.inl rfl | exact Or.inr rfl) ?_
      refine se_callA T.f__law_left (ok__law_left T) tk (hr.mono (by decide)) rfl ?_
      refine sa_cons ?_ ?_
      · refine se_ix ?_ ?_
        · exact se_var 3
        · exact se_int
      · exact sa_nil
    · refine sss_cons ?_ ?_
      · refine ss_set sc__law_block.nd rfl (by first | exact Or.inl rfl | exact Or.inr rfl) ?_
        refine se_ix ?_ ?_
        · exact se_var 3
        · exact se_int
      · refine sss_cons ?_ ?_
        · refine ss_if ?_ ?_ ?_
          · refine st_cmp op_is3 os_is ?_ ?_ (nomark _)
            · exact se_var 4
            · exact se_non
          · refine sss_one ?_
            refine ss_set sc__law_block.nd rfl (by first | exact Or.inl rfl | exact Or.inr rfl) ?_
            exact se_var 2
          · exact sss_nil
        · refine sss_one ?_
          refine ss_ret ?_
          refine se_tup ?_
          refine sa_cons ?_ ?_
          · exact se_var 4
          · refine sa_cons ?_ ?_
            · refine se_callA T.f__law_pages (ok__law_pages T) tk (hr.mono (by decide)) rfl ?_
              refine sa_cons ?_ ?_
              · refine se_sl ?_ ?_ ?_
                · exact se_var 3
                · refine SO.yes ?_
                  exact se_int
                · exact SO.no
              · refine sa_cons ?_ ?_
                · exact se_var 1
                · refine sa_cons ?_ ?_
                  · exact se_var 2
                  · refine sa_cons ?_ ?_
                    · exact se_var 5
                    · exact sa_nil
            · exact sa_nil

theorem sc__law_drawn : FnScope ["script", "at", "head", "keys", "rest", "rows", "b", "due"] ["script", "at"] (defScope s__law_drawn) := ⟨rfl, rfl, rfl, by decide +kernel, rfl, by decide +kernel, by decide +kernel⟩
def g__law_drawn : FS := (gSeq (gSet 2 (eArgs m__law_digits [(eArgs m__law_cell [(eVar 0), (eVar 1)]), (eLst [(eC (.int 9)), (eC (.int 9)), (eC (.int 6)), (eC (.int 10)), (eC (.int 10)), (eC (.int 18))])]))
    (gSeq (gSet 3 (eBin dAdd (eC (.int 1)) (eBin dIx (eVar 2) (eC (.int 0)))))
    (gSeq (gSet 4 (eListRg (eVar 3)))
    (gSeq (gSet 5 (eLst []))
    (gSeq (gFor (fiRg [(eBin dAdd (eC (.int 1)) (eBin dIx (eVar 2) (eC (.int 1))))]) (tName 6) (gDrop (eLm lAppend (eVar 5) [(eArgs m__law_block [(eArgs m__law_cell [(eVar 0), (eBin dAdd (eBin dAdd (eVar 1) (eC (.int 1))) (eVar 6))]), (eVar 4), (eBin dAdd (eC (.int 1)) (eBin dIx (eVar 2) (eC (.int 2))))])])))
    (gSeq (gSet 7 (eC .non))
    (gSeq (gIf (eBin (dCmp fun i j => decide (j ≤ i)) (eBin dIx (eVar 2) (eC (.int 5))) (eC (.int 9))) (gSet 7 (eBin dMod (eArgs bInt [(eBin dSub (eBin dIx (eVar 2) (eC (.int 5))) (eC (.int 9)))]) (eVar 3))) gNext)
    (gRet (eTup [(eVar 3), (eArgs bTuple [(eVar 5)]), (eBin dIx (eVar 2) (eC (.int 3))), (eBin dIx (eVar 2) (eC (.int 4))), (eVar 7)])))))))))
def m__law_drawn : FF := runB 8 g__law_drawn
theorem ok__law_drawn (T : Txt K mg) : OkF P w K mg base 4 T.f__law_drawn.f T.f__law_drawn.fd ["script", "at"] m__law_drawn := by
  refine @okS P w K mg base "_law_drawn" "_law_drawn" s__law_drawn T.f__law_drawn.f T.f__law_drawn.fd ["script", "at", "head", "keys", "rest", "rows", "b", "due"] ["script", "at"]  3 g__law_drawn T.f__law_drawn.fn sc__law_drawn ?_
  intro cdv A outer s H E hr tk PO
  unfold g__law_drawn
  refine sss_cons ?_ ?_
  · refine ss_set sc__law_drawn.nd rfl (by first | exact Or.inl rfl | exact Or.inr rfl) ?_
    refine se_callA T.f__law_digits (ok__law_digits T) tk (hr.mono (by decide)) rfl ?_
    refine sa_cons ?_ ?_
    · refine se_callA T.f__law_cell (ok__law_cell T) tk (hr.mono (by decide)) rfl ?_
      refine sa_cons ?_ ?_
      · exact se_var 0
      · refine sa_cons ?_ ?_
        · exact se_var 1
        · exact sa_nil
    · refine sa_cons ?_ ?_
      · refine se_lst ?_
        refine sa_cons ?_ ?_
        · exact se_int
        · refine sa_cons ?_ ?_
          · exact se_int
          · refine sa_cons ?_ ?_
            · exact se_int
            · refine sa_cons ?_ ?_
              · exact se_int
              · refine sa_cons ?_ ?_
                · exact se_int
                · refine sa_cons ?_ ?_
                  · exact se_int
                  · exact sa_nil
      · exact sa_nil
  · refine sss_cons ?_ ?_
    · refine ss_set sc__law_drawn.nd rfl (by first | exact Or.inl rfl | exact Or.inr rfl) ?_
      refine se_op op_add4 os_add ?_ ?_
      · exact se_int
      · refine se_ix ?_ ?_
        · exact se_var 2
        · exact se_int
    · refine sss_cons ?_ ?_
      · refine ss_set sc__law_drawn.nd rfl (by first | exact Or.inl rfl | exact Or.inr rfl) ?_
        refine se_listRg rfl rfl T.b_list rfl T.b_range ?_
        exact se_var 3
      · refine sss_cons ?_ ?_
        · refine ss_set sc__law_drawn.nd rfl (by first | exact Or.inl rfl | exact Or.inr rfl) ?_
          refine se_lst ?_
          exact sa_nil
        · refine sss_cons ?_ ?_
          · refine ss_for (vs := [6]) (wk := false) PO rfl ?_ ?_ ?_
            · refine si_rg1 rfl T.b_range ?_
              refine sa_cons ?_ ?_
              · refine se_op op_add4 os_add ?_ ?_
                · exact se_int
                · refine se_ix ?_ ?_
                  · exact se_var 2
                  · exact se_int
              · exact sa_nil
            · exact sg_name sc__law_drawn.nd rfl (by first | exact Or.inl rfl | exact Or.inr rfl)
            · refine sss_one ?_
              refine ss_expr ?_
              refine se_lm PySem.F.plainAttrs_list PySem.F.slot_list_append PySem.F.type_list_append mt_append ls_append ?_ ?_
              · exact se_var 5
              · refine sa_cons ?_ ?_
                · refine se_callA T.f__law_block (ok__law_block T) tk (hr.mono (by decide)) rfl ?_
                  refine sa_cons ?_ ?_
                  · refine se_callA T.f__law_cell (ok__law_cell T) tk (hr.mono (by decide)) rfl ?_
                    refine sa_cons ?_ ?_
                    · exact se_var 0
                    · refine sa_cons ?_ ?_
                      · refine se_op op_add4 os_add ?_ ?_
                        · refine se_op op_add4 os_add ?_ ?_
                          · exact se_var 1
                          · exact se_int
                        · exact se_var 6
                      · exact sa_nil
                  · refine sa_cons ?_ ?_
                    · exact se_var 4
                    · refine sa_cons ?_ ?_
                      · refine se_op op_add4 os_add ?_ ?_
                        · exact se_int
                        · refine se_ix ?_ ?_
                          · exact se_var 2
                          · exact se_int
                      · exact sa_nil
                · exact sa_nil
          · refine sss_cons ?_ ?_
            · refine ss_set sc__law_drawn.nd rfl (by first | exact Or.inl rfl | exact Or.inr rfl) ?_
              exact se_non
            · refine sss_cons ?_ ?_
              · refine ss_if ?_ ?_ ?_
                · refine st_cmp op_ge os_cmp ?_ ?_ (nomark _)
                  · refine se_ix ?_ ?_
                    · exact se_var 2
                    · exact se_int
                  · exact se_int
                · refine sss_one ?_
                  refine ss_set sc__law_drawn.nd rfl (by first | exact Or.inl rfl | exact Or.inr rfl) ?_
                  refine se_op op_mod os_mod ?_ ?_
                  · refine se_callTy (call_int1) (cs_int) rfl T.b_int rfl ?_
                    refine sa_cons ?_ ?_
                    · refine se_op op_sub os_sub ?_ ?_
                      · refine se_ix ?_ ?_
                        · exact se_var 2
                        · exact se_int
                      · exact se_int
                    · exact sa_nil
                  · exact se_var 3
                · exact sss_nil
              · refine sss_one ?_
                refine ss_ret ?_
                refine se_tup ?_
                refine sa_cons ?_ ?_
                · exact se_var 3
                · refine sa_cons ?_ ?_
                  · refine se_callTy (call_tuple_ofF) (cs_tuple) rfl T.b_tuple rfl ?_
                    refine sa_cons ?_ ?_
                    · exact se_var 5
                    · exact sa_nil
                  · refine sa_cons ?_ ?_
                    · refine se_ix ?_ ?_
                      · exact se_var 2
                      · exact se_int
                    · refine sa_cons ?_ ?_
                      · refine se_ix ?_ ?_
                        · exact se_var 2
                        · exact se_int
                      · refine sa_cons ?_ ?_
                        · exact se_var 7
                        · exact sa_nil

theorem sc__law_small_left : FnScope ["digit"] ["digit"] (defScope s__law_small_left) := ⟨rfl, rfl, rfl, by decide +kernel, rfl, by decide +kernel, by decide +kernel⟩
def g__law_small_left : FS := (gRet (eBin dIx (eLst [(eC (.int 0)), (eC (.int 1)), (eC (.int 2)), (eC (.str "ever")), (eC .non), (eC (.int 1))]) (eVar 0)))
def m__law_small_left : FF := runB 1 g__law_small_left
theorem ok__law_small_left (T : Txt K mg) : OkF P w K mg base 1 T.f__law_small_left.f T.f__law_small_left.fd ["digit"] m__law_small_left := by
  refine @okS P w K mg base "_law_small_left" "_law_small_left" s__law_small_left T.f__law_small_left.f T.f__law_small_left.fd ["digit"] ["digit"]  0 g__law_small_left T.f__law_small_left.fn sc__law_small_left ?_
  intro cdv A outer s H E hr tk PO
  unfold g__law_small_left
  refine sss_one ?_
  refine ss_ret ?_
  refine se_ix ?_ ?_
  · refine se_lst ?_
    refine sa_cons ?_ ?_
    · exact se_int
    · refine sa_cons ?_ ?_
      · exact se_int
      · refine sa_cons ?_ ?_
        · exact se_int
        · refine sa_cons ?_ ?_
          · exact se_str
          · refine sa_cons ?_ ?_
            · exact se_non
            · refine sa_cons ?_ ?_
              · exact se_int
              · exact sa_nil
  · exact se_var 0

theorem sc__law_small : FnScope ["script", "at", "most_fails", "most_cuts", "head", "keys", "rest", "rows", "b", "digits", "left", "written", "due"] ["script", "at", "most_fails", "most_cuts"] (defScope s__law_small) := ⟨rfl, rfl, rfl, by decide +kernel, rfl, by decide +kernel, by decide +kernel⟩
def g__law_small : FS := (gSeq (gSet 4 (eArgs m__law_digits [(eArgs m__law_cell [(eVar 0), (eVar 1)]), (eLst [(eC (.int 3)), (eC (.int 3)), (eC (.int 2)), (eBin dAdd (eVar 2) (eC (.int 1))), (eBin dAdd (eVar 3) (eC (.int 1))), (eC (.int 4))])]))
    (gSeq (gSet 5 (eBin dAdd (eC (.int 1)) (eBin dIx (eVar 4) (eC (.int 0)))))
    (gSeq (gSet 6 (eListRg (eVar 5)))
    (gSeq (gSet 7 (eLst []))
    (gSeq (gFor (fiRg [(eBin dAdd (eC (.int 1)) (eBin dIx (eVar 4) (eC (.int 1))))]) (tName 8) (gSeq (gSet 9 (eArgs m__law_digits [(eArgs m__law_cell [(eVar 0), (eBin dAdd (eBin dAdd (eVar 1) (eC (.int 1))) (eVar 8))]), (eLst [(eC (.int 6)), (eC (.int 4)), (eC (.int 36)), (eC (.int 36))])]))
    (gSeq (gSet 10 (eArgs m__law_small_left [(eBin dIx (eVar 9) (eC (.int 0)))]))
    (gSeq (gSet 11 (eBin dMod (eArgs bInt [(eBin dIx (eVar 9) (eC (.int 1)))]) (eBin dAdd (eC (.int 2)) (eBin dIx (eVar 4) (eC (.int 2))))))
    (gSeq (gIf (eBin dIs (eVar 10) (eC .non)) (gSet 11 (eBin dAdd (eC (.int 1)) (eBin dIx (eVar 4) (eC (.int 2))))) gNext)
    (gDrop (eLm lAppend (eVar 7) [(eTup [(eVar 10), (eArgs m__law_pages [(eSl (eVar 9) (some (eC (.int 2))) none), (eVar 6), (eBin dAdd (eC (.int 1)) (eBin dIx (eVar 4) (eC (.int 2)))), (eVar 11)])])])))))))
    (gSeq (gSet 12 (eC .non))
    (gSeq (gIf (eBin (dCmp fun i j => decide (j ≤ i)) (eBin dIx (eVar 4) (eC (.int 5))) (eC (.int 2))) (gSet 12 (eBin dMod (eArgs bInt [(eBin dIx (eVar 4) (eC (.int 5)))]) (eVar 5))) gNext)
    (gRet (eTup [(eVar 5), (eArgs bTuple [(eVar 7)]), (eBin dIx (eVar 4) (eC (.int 3))), (eBin dIx (eVar 4) (eC (.int 4))), (eVar 12)])))))))))
def m__law_small : FF := runB 13 g__law_small
theorem ok__law_small (T : Txt K mg) : OkF P w K mg base 3 T.f__law_small.f T.f__law_small.fd ["script", "at", "most_fails", "most_cuts"] m__law_small := by
  refine @okS P w K mg base "_law_small" "_law_small" s__law_small T.f__law_small.f T.f__law_small.fd ["script", "at", "most_fails", "most_cuts", "head", "keys", "rest", "rows", "b", "digits", "left", "written", "due"] ["script", "at", "most_fails", "most_cuts"]  2 g__law_small T.f__law_small.fn sc__law_small ?_
  intro cdv A outer s H E hr tk PO
  unfold g__law_small
  refine sss_cons ?_ ?_
  · refine ss_set sc__law_small.nd rfl (by first | exact Or.inl rfl | exact Or.inr rfl) ?_
    refine se_callA T.f__law_digits (ok__law_digits T) tk (hr.mono (by decide)) rfl ?_
    refine sa_cons ?_ ?_
    · refine se_callA T.f__law_cell (ok__law_cell T) tk (hr.mono (by decide)) rfl ?_
      refine sa_cons ?_ ?_
      · exact se_var 0
      · refine sa_cons ?_ ?_
        · exact se_var 1
        · exact sa_nil
    · refine sa_cons ?_ ?_
      · refine se_lst ?_
        refine sa_cons ?_ ?_
        · exact se_int
        · refine sa_cons ?_ ?_
          · exact se_int
          · refine sa_cons ?_ ?_
            · exact se_int
            · refine sa_cons ?_ ?_
              · refine se_op op_add4 os_add ?_ ?_
                · exact se_var 2
                · exact se_int
              · refine sa_cons ?_ ?_
                · refine se_op op_add4 os_add ?_ ?_
                  · exact se_var 3
                  · exact se_int
                · refine sa_cons ?_ ?_
                  · exact se_int
                  · exact sa_nil
      · exact sa_nil
  · refine sss_cons ?_ ?_
    · refine ss_set sc__law_small.nd rfl (by first | exact Or.inl rfl | exact Or.inr rfl) ?_
      refine se_op op_add4 os_add ?_ ?_
      · exact se_int
      · refine se_ix ?_ ?_
        · exact se_var 4
        · exact se_int
    · refine sss_cons ?_ ?_
      · refine ss_set sc__law_small.nd rfl (by first | exact Or.inl rfl | exact Or.inr rfl) ?_
        refine se_listRg rfl rfl T.b_list rfl T.b_range ?_
        exact se_var 5
      · refine sss_cons ?_ ?_
        · refine ss_set sc__law_small.nd rfl (by first | exact Or.inl rfl | exact Or.inr rfl) ?_
          refine se_lst ?_
          exact sa_nil
        · refine sss_cons ?_ ?_
          · refine ss_for (vs := [8]) (wk := false) PO rfl ?_ ?_ ?_
            · refine si_rg1 rfl T.b_range ?_
              refine sa_cons ?_ ?_
              · refine se_op op_add4 os_add ?_ ?_
                · exact se_int
                · refine se_ix ?_ ?_
                  · exact se_var 4
                  · exact se_int
              · exact sa_nil
            · exact sg_name sc__law_small.nd rfl (by first | exact Or.inl rfl | exact Or.inr rfl)
            · refine sss_cons ?_ ?_
              · refine ss_set sc__law_small.nd rfl (by first | exact Or.inl rfl | exact Or.inr rfl) ?_
                refine se_callA T.f__law_digits (ok__law_digits T) tk (hr.mono (by decide)) rfl ?_
                refine sa_cons ?_ ?_
                · refine se_callA T.f__law_cell (ok__law_cell T) tk (hr.mono (by decide)) rfl ?_
                  refine sa_cons ?_ ?_
                  · exact se_var 0
                  · refine sa_cons ?_ ?_
                    · refine se_op op_add4 os_add ?_ ?_
                      · refine se_op op_add4 os_add ?_ ?_
                        · exact se_var 1
                        · exact se_int
                      · exact se_var 8
                    · exact sa_nil
                · refine sa_cons ?_ ?_
                  · refine se_lst ?_
                    refine sa_cons ?_ ?_
                    · exact se_int
                    · refine sa_cons ?_ ?_
                      · exact se_int
                      · refine sa_cons ?_ ?_
                        · exact se_int
                        · refine sa_cons ?_ ?_
                          · exact se_int
                          · exact sa_nil
                  · exact sa_nil
              · refine sss_cons ?_ ?_
                · refine ss_set sc__law_small.nd rfl (by first | exact Or.inl rfl | exact Or.inr rfl) ?_
                  refine se_callA T.f__law_small_left (ok__law_small_left T) tk (hr.mono (by decide)) rfl ?_
                  refine sa_cons ?_ ?_
                  · refine se_ix ?_ ?_
                    · exact se_var 9
                    · exact se_int
                  · exact sa_nil
                · refine sss_cons ?_ ?_
                  · refine ss_set sc__law_small.nd rfl (by first | exact Or.inl rfl | exact Or.inr rfl) ?_
                    refine se_op op_mod os_mod ?_ ?_
                    · refine se_callTy (call_int1) (cs_int) rfl T.b_int rfl ?_
                      refine sa_cons ?_ ?_
                      · refine se_ix ?_ ?_
                        · exact se_var 9
                        · exact se_int
                      · exact sa_nil
                    · refine se_op op_add4 os_add ?_ ?_
                      · exact se_int
                      · refine se_ix ?_ ?_
                        · exact se_var 4
                        · exact se_int
                  · refine sss_cons ?_ ?_
                    · refine ss_if ?_ ?_ ?_
                      · refine st_cmp op_is3 os_is ?_ ?_ (nomark _)
                        · exact se_var 10
                        · exact se_non
                      · refine sss_one ?_
                        refine ss_set sc__law_small.nd rfl (by first | exact Or.inl rfl | exact Or.inr rfl) ?_
                        refine se_op op_add4 os_add ?_ ?_
                        · exact se_int
                        · refine se_ix ?_ ?_
                          · exact se_var 4
                          · exact se_int
                      · exact sss_nil
                    · refine sss_one ?_
                      refine ss_expr ?_
                      refine se_lm PySem.F.plainAttrs_list PySem.F.slot_list_append PySem.F.type_list_append mt_append ls_append ?_ ?_
                      · exact se_var 7
                      · refine sa_cons ?_ ?_
                        · refine se_tup ?_
                          refine sa_cons ?_ ?_
                          · exact se_var 10
                          · refine sa_cons ?_ ?_
                            · refine se_callA T.f__law_pages (ok__law_pages T) tk (hr.mono (by decide)) rfl ?_
                              refine sa_cons ?_ ?_
                              · refine se_sl ?_ ?_ ?_
                                · exact se_var 9
                                · refine SO.yes ?_
                                  exact se_int
                                · exact SO.no
                              · refine sa_cons ?_ ?_
                                · exact se_var 6
                                · refine sa_cons ?_ ?_
                                  · refine se_op op_add4 os_add ?_ ?_
                                    · exact se_int
                                    · refine se_ix ?_ ?_
                                      · exact se_var 4
                                      · exact se_int
                                  · refine sa_cons ?_ ?_
                                    · exact se_var 11
                                    · exact sa_nil
                            · exact sa_nil
                        · exact sa_nil
          · refine sss_cons ?_ ?_
            · refine ss_set sc__law_small.nd rfl (by first | exact Or.inl rfl | exact Or.inr rfl) ?_
              exact se_non
            · refine sss_cons ?_ ?_
              · refine ss_if ?_ ?_ ?_
                · refine st_cmp op_ge os_cmp ?_ ?_ (nomark _)
                  · refine se_ix ?_ ?_
                    · exact se_var 4
                    · exact se_int
                  · exact se_int
                · refine sss_one ?_
                  refine ss_set sc__law_small.nd rfl (by first | exact Or.inl rfl | exact Or.inr rfl) ?_
                  refine se_op op_mod os_mod ?_ ?_
                  · refine se_callTy (call_int1) (cs_int) rfl T.b_int rfl ?_
                    refine sa_cons ?_ ?_
                    · refine se_ix ?_ ?_
                      · exact se_var 4
                      · exact se_int
                    · exact sa_nil
                  · exact se_var 5
                · exact sss_nil
              · refine sss_one ?_
                refine ss_ret ?_
                refine se_tup ?_
                refine sa_cons ?_ ?_
                · exact se_var 5
                · refine sa_cons ?_ ?_
                  · refine se_callTy (call_tuple_ofF) (cs_tuple) rfl T.b_tuple rfl ?_
                    refine sa_cons ?_ ?_
                    · exact se_var 7
                    · exact sa_nil
                  · refine sa_cons ?_ ?_
                    · refine se_ix ?_ ?_
                      · exact se_var 4
                      · exact se_int
                    · refine sa_cons ?_ ?_
                      · refine se_ix ?_ ?_
                        · exact se_var 4
                        · exact se_int
                      · refine sa_cons ?_ ?_
                        · exact se_var 12
                        · exact sa_nil

theorem sc__law_any_stand : FnScope ["script", "at"] ["script", "at"] (defScope s__law_any_stand) := ⟨rfl, rfl, rfl, by decide +kernel, rfl, by decide +kernel, by decide +kernel⟩
def g__law_any_stand : FS := (gSeq (gIf (eBin dEq (eBin dIx (eArgs m__law_digits [(eArgs m__law_cell [(eVar 0), (eC (.int 0))]), (eLst [(eC (.int 2))])]) (eC (.int 0))) (eC (.int 0))) (gRet (eArgs m__law_drawn [(eVar 0), (eVar 1)])) gNext)
    (gRet (eArgs m__law_small [(eVar 0), (eVar 1), (eC (.int 2)), (eC (.int 2))])))
def m__law_any_stand : FF := runB 2 g__law_any_stand
theorem ok__law_any_stand (T : Txt K mg) : OkF P w K mg base 5 T.f__law_any_stand.f T.f__law_any_stand.fd ["script", "at"] m__law_any_stand := by
  refine @okS P w K mg base "_law_any_stand" "_law_any_stand" s__law_any_stand T.f__law_any_stand.f T.f__law_any_stand.fd ["script", "at"] ["script", "at"]  4 g__law_any_stand T.f__law_any_stand.fn sc__law_any_stand ?_
  intro cdv A outer s H E hr tk PO
  unfold g__law_any_stand
  refine sss_cons ?_ ?_
  · refine ss_if ?_ ?_ ?_
    · refine st_cmp (op_eq2 hr.units) os_eq ?_ ?_ (nomark _)
      · refine se_ix ?_ ?_
        · refine se_callA T.f__law_digits (ok__law_digits T) tk (hr.mono (by decide)) rfl ?_
          refine sa_cons ?_ ?_
          · refine se_callA T.f__law_cell (ok__law_cell T) tk (hr.mono (by decide)) rfl ?_
            refine sa_cons ?_ ?_
            · exact se_var 0
            · refine sa_cons ?_ ?_
              · exact se_int
              · exact sa_nil
          · refine sa_cons ?_ ?_
            · refine se_lst ?_
              refine sa_cons ?_ ?_
              · exact se_int
              · exact sa_nil
            · exact sa_nil
        · exact se_int
      · exact se_int
    · refine sss_one ?_
      refine ss_ret ?_
      refine se_callA T.f__law_drawn (ok__law_drawn T) tk (hr.mono (by decide)) rfl ?_
      refine sa_cons ?_ ?_
      · exact se_var 0
      · refine sa_cons ?_ ?_
        · exact se_var 1
        · exact sa_nil
    · exact sss_nil
  · refine sss_one ?_
    refine ss_ret ?_
    refine se_callA T.f__law_small (ok__law_small T) tk (hr.mono (by decide)) rfl ?_
    refine sa_cons ?_ ?_
    · exact se_var 0
    · refine sa_cons ?_ ?_
      · exact se_var 1
      · refine sa_cons ?_ ?_
        · exact se_int
        · refine sa_cons ?_ ?_
          · exact se_int
          · exact sa_nil

theorem sc_is_whole : FnScope ["thing", "low", "high"] ["thing", "low", "high"] (defScope s_is_whole) := ⟨rfl, rfl, rfl, by decide +kernel, rfl, by decide +kernel, by decide +kernel⟩
def g_is_whole : FS := (gRet (eAnd (eIsi "int" (eVar 0)) (eAnd (eNot (eIsi "bool" (eVar 0))) (eChain (dCmp fun i j => decide (i ≤ j)) (dCmp fun i j => decide (i ≤ j)) (eVar 1) (eVar 0) (eVar 2)))))
def m_is_whole : FF := runB 3 g_is_whole
theorem ok_is_whole (T : Txt K mg) : OkF P w K mg base 1 T.f_is_whole.f T.f_is_whole.fd ["thing", "low", "high"] m_is_whole := by
  refine @okS P w K mg base "is_whole" "is_whole" s_is_whole T.f_is_whole.f T.f_is_whole.fd ["thing", "low", "high"] ["thing", "low", "high"]  0 g_is_whole T.f_is_whole.fn sc_is_whole ?_
  intro cdv A outer s H E hr tk PO
  unfold g_is_whole
  refine sss_one ?_
  refine ss_ret ?_
  refine se_and ?_ ?_
  · refine se_isi ?_ rfl T.b_isinstance rfl rfl T.b_int rfl
    exact se_var 0
  · refine se_and ?_ ?_
    · refine se_not ?_
      refine se_isi ?_ rfl T.b_isinstance rfl rfl T.b_bool rfl
      exact se_var 0
    · refine se_one ?_
      refine se_chain op_le op_le os_cmp os_cmp ?_ ?_ ?_
      · exact se_var 1
      · exact se_var 0
      · exact se_var 2

theorem sc_is_left : FnScope ["left"] ["left"] (defScope s_is_left) := ⟨rfl, rfl, rfl, by decide +kernel, rfl, by decide +kernel, by decide +kernel⟩
def g_is_left : FS := (gRet (eOr (eBin dIs (eVar 0) (eC .non)) (eOr (eBin dEq (eVar 0) (eC (.str "ever"))) (eArgs m_is_whole [(eVar 0), (eC (.int 0)), (eC (.int 99))]))))
def m_is_left : FF := runB 1 g_is_left
theorem ok_is_left (T : Txt K mg) : OkF P w K mg base 2 T.f_is_left.f T.f_is_left.fd ["left"] m_is_left := by
  refine @okS P w K mg base "is_left" "is_left" s_is_left T.f_is_left.f T.f_is_left.fd ["left"] ["left"]  1 g_is_left T.f_is_left.fn sc_is_left ?_
  intro cdv A outer s H E hr tk PO
  unfold g_is_left
  refine sss_one ?_
  refine ss_ret ?_
  refine se_or ?_ ?_
  · refine se_cmp op_is3 os_is ?_ ?_ (nomark _)
    · exact se_var 0
    · exact se_non
  · refine se_or ?_ ?_
    · refine se_cmp (op_eq2 hr.units) os_eq ?_ ?_ (nomark _)
      · exact se_var 0
      · exact se_str
    · refine se_one ?_
      refine se_callA T.f_is_whole (ok_is_whole T) tk (hr.mono (by decide)) rfl ?_
      refine sa_cons ?_ ?_
      · exact se_var 0
      · refine sa_cons ?_ ?_
        · exact se_int
        · refine sa_cons ?_ ?_
          · exact se_gint (t := T.c_MOST_LEFT.choose) rfl T.c_MOST_LEFT.choose_spec
          · exact sa_nil

theorem sc_is_key : FnScope ["thing", "keys"] ["thing", "keys"] (defScope s_is_key) := ⟨rfl, rfl, rfl, by decide +kernel, rfl, by decide +kernel, by decide +kernel⟩
def g_is_key : FS := (gRet (eArgs m_is_whole [(eVar 0), (eC (.int 0)), (eBin dSub (eVar 1) (eC (.int 1)))]))
def m_is_key : FF := runB 2 g_is_key
theorem ok_is_key (T : Txt K mg) : OkF P w K mg base 2 T.f_is_key.f T.f_is_key.fd ["thing", "keys"] m_is_key := by
  refine @okS P w K mg base "is_key" "is_key" s_is_key T.f_is_key.f T.f_is_key.fd ["thing", "keys"] ["thing", "keys"]  1 g_is_key T.f_is_key.fn sc_is_key ?_
  intro cdv A outer s H E hr tk PO
  unfold g_is_key
  refine sss_one ?_
  refine ss_ret ?_
  refine se_callA T.f_is_whole (ok_is_whole T) tk (hr.mono (by decide)) rfl ?_
  refine sa_cons ?_ ?_
  · exact se_var 0
  · refine sa_cons ?_ ?_
    · exact se_int
    · refine sa_cons ?_ ?_
      · refine se_op op_sub os_sub ?_ ?_
        · exact se_var 1
        · exact se_int
      · exact sa_nil

theorem sc_is_block : FnScope ["block", "keys", "left", "pages", "free", "page"] ["block", "keys"] (defScope s_is_block) := ⟨rfl, rfl, rfl, by decide +kernel, rfl, by decide +kernel, by decide +kernel⟩
def g_is_block : FS := (gSeq (gIf (eOr (eNot (eIsi "tuple" (eVar 0))) (eOr (eBin dNe (eArgs bLen [(eVar 0)]) (eC (.int 2))) (eNot (eArgs m_is_left [(eBin dIx (eVar 0) (eC (.int 0)))])))) (gRet (eC (.bl false))) gNext)
    (gSeq (gAsg (eVar 0) (tTup [(tName 2), (tName 3)]))
    (gSeq (gIf (eOr (eNot (eIsi "tuple" (eVar 3))) (eNot (eChain (dCmp fun i j => decide (i ≤ j)) (dCmp fun i j => decide (i ≤ j)) (eC (.int 1)) (eArgs bLen [(eVar 3)]) (eC (.int 6))))) (gRet (eC (.bl false))) gNext)
    (gSeq (gIf (eNot (eArgs bAll [(eLc (fiSeq (eVar 3)) (tName 5) (eC (.bl true)) (eOr (eBin dEq (eVar 5) (eC (.str "free"))) (eOr (eBin dEq (eVar 5) (eC (.str "old"))) (eArgs m_is_key [(eVar 5), (eVar 1)]))) [5])])) (gRet (eC (.bl false))) gNext)
    (gSeq (gSet 4 (eTm tCount (eVar 3) [(eC (.str "free"))]))
    (gSeq (gIf (eBin dIs (eVar 2) (eC .non)) (gRet (eBin dEq (eVar 4) (eC (.int 0)))) gNext)
    (gRet (eBin dNotIn (eC (.str "free")) (eSl (eVar 3) none (some (eBin dSub (eArgs bLen [(eVar 3)]) (eVar 4))))))))))))
def m_is_block : FF := runB 6 g_is_block
theorem ok_is_block (T : Txt K mg) : OkF P w K mg base 3 T.f_is_block.f T.f_is_block.fd ["block", "keys"] m_is_block := by
  refine @okS P w K mg base "is_block" "is_block" s_is_block T.f_is_block.f T.f_is_block.fd ["block", "keys", "left", "pages", "free", "page"] ["block", "keys"]  2 g_is_block T.f_is_block.fn sc_is_block ?_
  intro cdv A outer s H E hr tk PO
  unfold g_is_block
  refine sss_cons ?_ ?_
  · refine ss_if ?_ ?_ ?_
    · refine SW.st ?_
      refine sw_or ?_ ?_
      · refine st_not ?_
        refine st_val ?_
        refine se_isi ?_ rfl T.b_isinstance rfl rfl T.b_tuple rfl
        exact se_var 0
      · refine sw_or ?_ ?_
        · refine st_cmp (op_ne2 hr.units) os_ne ?_ ?_ (nomark _)
          · refine se_callB (call_len) (cs_len) rfl T.b_len rfl ?_
            refine sa_cons ?_ ?_
            · exact se_var 0
            · exact sa_nil
          · exact se_int
        · refine sw_or1 ?_
          refine st_not ?_
          refine st_val ?_
          refine se_callA T.f_is_left (ok_is_left T) tk (hr.mono (by decide)) rfl ?_
          refine sa_cons ?_ ?_
          · refine se_ix ?_ ?_
            · exact se_var 0
            · exact se_int
          · exact sa_nil
    · refine sss_one ?_
      refine ss_ret ?_
      exact se_bl
    · exact sss_nil
  · refine sss_cons ?_ ?_
    · refine ss_asg (vs := [2, 3]) ?_ ?_
      · exact se_var 0
      · refine sg_tup rfl ?_
        refine sgs_cons (vs := [2]) (ws := [3]) ?_ ?_
        · exact sg_name sc_is_block.nd rfl (by first | exact Or.inl rfl | exact Or.inr rfl)
        · refine sgs_cons (vs := [3]) (ws := []) ?_ ?_
          · exact sg_name sc_is_block.nd rfl (by first | exact Or.inl rfl | exact Or.inr rfl)
          · exact sgs_nil
    · refine sss_cons ?_ ?_
      · refine ss_if ?_ ?_ ?_
        · refine SW.st ?_
          refine sw_or ?_ ?_
          · refine st_not ?_
            refine st_val ?_
            refine se_isi ?_ rfl T.b_isinstance rfl rfl T.b_tuple rfl
            exact se_var 3
          · refine sw_or1 ?_
            refine st_not ?_
            refine st_chain op_le op_le os_cmp os_cmp ?_ ?_ ?_
            · exact se_int
            · refine se_callB (call_len) (cs_len) rfl T.b_len rfl ?_
              refine sa_cons ?_ ?_
              · exact se_var 3
              · exact sa_nil
            · exact se_gint (t := T.c_MOST_PAGES.choose) rfl T.c_MOST_PAGES.choose_spec
        · refine sss_one ?_
          refine ss_ret ?_
          exact se_bl
        · exact sss_nil
      · refine sss_cons ?_ ?_
        · refine ss_if ?_ ?_ ?_
          · refine st_not ?_
            refine st_val ?_
            refine se_callB (cr_all rfl) (cs_quant _) rfl T.b_all rfl ?_
            refine sa_cons ?_ ?_
            · refine se_lc (own := [("page", 5)]) (vs := [5]) (wk := false) rfl sc_is_block.nd ?_ (show BlkOk ["block", "keys", "left", "pages", "free", "page"] (defScope s_is_block) _ _ from ⟨rfl, by decide +kernel, by decide +kernel, by decide +kernel, by decide +kernel⟩) (fun _ _ _ _ _ => ?_) (fun _ _ _ _ _ => ?_) (fun _ _ _ _ _ => ?_)
              · refine si_seq ?_
                exact se_var 3
              · exact sg_name sc_is_block.nd rfl (by first | exact Or.inl rfl | exact Or.inr rfl)
              · exact sts_nil
              · refine se_or ?_ ?_
                · refine se_cmp (op_eq2 hr.units) os_eq ?_ ?_ (nomark _)
                  · exact se_var 5
                  · exact se_str
                · refine se_or ?_ ?_
                  · refine se_cmp (op_eq2 hr.units) os_eq ?_ ?_ (nomark _)
                    · exact se_var 5
                    · exact se_str
                  · refine se_one ?_
                    refine se_callA T.f_is_key (ok_is_key T) takesW0 (hr.mono (by decide)) rfl ?_
                    refine sa_cons ?_ ?_
                    · exact se_var 5
                    · refine sa_cons ?_ ?_
                      · exact se_var 1
                      · exact sa_nil
            · exact sa_nil
          · refine sss_one ?_
            refine ss_ret ?_
            exact se_bl
          · exact sss_nil
        · refine sss_cons ?_ ?_
          · refine ss_set sc_is_block.nd rfl (by first | exact Or.inl rfl | exact Or.inr rfl) ?_
            refine se_tm PySem.F.plainAttrs_tuple PySem.F.slot_tuple_count PySem.F.type_tuple_count (mt_tcount hr.units) ts_count ?_ ?_
            · exact se_var 3
            · refine sa_cons ?_ ?_
              · exact se_str
              · exact sa_nil
          · refine sss_cons ?_ ?_
            · refine ss_if ?_ ?_ ?_
              · refine st_cmp op_is3 os_is ?_ ?_ (nomark _)
                · exact se_var 2
                · exact se_non
              · refine sss_one ?_
                refine ss_ret ?_
                refine se_cmp (op_eq2 hr.units) os_eq ?_ ?_ (nomark _)
                · exact se_var 4
                · exact se_int
              · exact sss_nil
            · refine sss_one ?_
              refine ss_ret ?_
              refine se_cmp (op_notIn2 (units65 hr)) os_notIn ?_ ?_ (by with_unfolding_all rfl)
              · exact se_str
              · refine se_sl ?_ ?_ ?_
                · exact se_var 3
                · exact SO.no
                · refine SO.yes ?_
                  refine se_op op_sub os_sub ?_ ?_
                  · refine se_callB (call_len) (cs_len) rfl T.b_len rfl ?_
                    refine sa_cons ?_ ?_
                    · exact se_var 3
                    · exact sa_nil
                  · exact se_var 4

theorem sc_are_blocks : FnScope ["blocks", "keys", "held", "block", "left", "pages", "page"] ["blocks", "keys"] (defScope s_are_blocks) := ⟨rfl, rfl, rfl, by decide +kernel, rfl, by decide +kernel, by decide +kernel⟩
def g_are_blocks : FS := (gSeq (gIf (eOr (eNot (eIsi "list" (eVar 0))) (eNot (eChain (dCmp fun i j => decide (i ≤ j)) (dCmp fun i j => decide (i ≤ j)) (eC (.int 1)) (eArgs bLen [(eVar 0)]) (eC (.int 9))))) (gRet (eC (.bl false))) gNext)
    (gSeq (gIf (eNot (eArgs bAll [(eLc (fiSeq (eVar 0)) (tName 3) (eC (.bl true)) (eArgs m_is_block [(eVar 3), (eVar 1)]) [3])])) (gRet (eC (.bl false))) gNext)
    (gSeq (gIf (eArgs bAny [(eLc (fiSeq (eVar 0)) (tTup [(tName 4), (tName 5)]) (eC (.bl true)) (eBin dNe (eArgs bLen [(eVar 5)]) (eArgs bLen [(eBin dIx (eBin dIx (eVar 0) (eC (.int 0))) (eC (.int 1)))])) [4, 5])]) (gRet (eC (.bl false))) gNext)
    (gSeq (gSet 2 (eLc2 (fiSeq (eVar 0)) (tTup [(tName 4), (tName 5)]) (eC (.bl true)) (fiSeq (eVar 5)) (tName 6) (eNot (eIsi "str" (eVar 6))) (eVar 6) [4, 5, 6] [6]))
    (gRet (eBin dEq (eArgs bLen [(eVar 2)]) (eLenSet (eVar 2))))))))
def m_are_blocks : FF := runB 7 g_are_blocks
theorem ok_are_blocks (T : Txt K mg) : OkF P w K mg base 4 T.f_are_blocks.f T.f_are_blocks.fd ["blocks", "keys"] m_are_blocks := by
  refine @okS P w K mg base "are_blocks" "are_blocks" s_are_blocks T.f_are_blocks.f T.f_are_blocks.fd ["blocks", "keys", "held", "block", "left", "pages", "page"] ["blocks", "keys"]  3 g_are_blocks T.f_are_blocks.fn sc_are_blocks ?_
  intro cdv A outer s H E hr tk PO
  unfold g_are_blocks
  refine sss_cons ?_ ?_
  · refine ss_if ?_ ?_ ?_
    · refine SW.st ?_
      refine sw_or ?_ ?_
      · refine st_not ?_
        refine st_val ?_
        refine se_isi ?_ rfl T.b_isinstance rfl rfl T.b_list rfl
        exact se_var 0
      · refine sw_or1 ?_
        refine st_not ?_
        refine st_chain op_le op_le os_cmp os_cmp ?_ ?_ ?_
        · exact se_int
        · refine se_callB (call_len) (cs_len) rfl T.b_len rfl ?_
          refine sa_cons ?_ ?_
          · exact se_var 0
          · exact sa_nil
        · exact se_gint (t := T.c_MOST_BLOCKS.choose) rfl T.c_MOST_BLOCKS.choose_spec
    · refine sss_one ?_
      refine ss_ret ?_
      exact se_bl
    · exact sss_nil
  · refine sss_cons ?_ ?_
    · refine ss_if ?_ ?_ ?_
      · refine st_not ?_
        refine st_val ?_
        refine se_callB (cr_all rfl) (cs_quant _) rfl T.b_all rfl ?_
        refine sa_cons ?_ ?_
        · refine se_lc (own := [("block", 3)]) (vs := [3]) (wk := false) rfl sc_are_blocks.nd ?_ (show BlkOk ["blocks", "keys", "held", "block", "left", "pages", "page"] (defScope s_are_blocks) _ _ from ⟨rfl, by decide +kernel, by decide +kernel, by decide +kernel, by decide +kernel⟩) (fun _ _ _ _ _ => ?_) (fun _ _ _ _ _ => ?_) (fun _ _ _ _ _ => ?_)
          · refine si_seq ?_
            exact se_var 0
          · exact sg_name sc_are_blocks.nd rfl (by first | exact Or.inl rfl | exact Or.inr rfl)
          · exact sts_nil
          · refine se_callA T.f_is_block (ok_is_block T) takesW0 (hr.mono (by decide)) rfl ?_
            refine sa_cons ?_ ?_
            · exact se_var 3
            · refine sa_cons ?_ ?_
              · exact se_var 1
              · exact sa_nil
        · exact sa_nil
      · refine sss_one ?_
        refine ss_ret ?_
        exact se_bl
      · exact sss_nil
    · refine sss_cons ?_ ?_
      · refine ss_if ?_ ?_ ?_
        · refine st_val ?_
          refine se_callB (cr_any rfl) (cs_quant _) rfl T.b_any rfl ?_
          refine sa_cons ?_ ?_
          · refine se_lc (own := [("left", 4), ("pages", 5)]) (vs := [4, 5]) (wk := false) rfl sc_are_blocks.nd ?_ (show BlkOk ["blocks", "keys", "held", "block", "left", "pages", "page"] (defScope s_are_blocks) _ _ from ⟨rfl, by decide +kernel, by decide +kernel, by decide +kernel, by decide +kernel⟩) (fun _ _ _ _ _ => ?_) (fun _ _ _ _ _ => ?_) (fun _ _ _ _ _ => ?_)
            · refine si_seq ?_
              exact se_var 0
            · refine sg_tup rfl ?_
              refine sgs_cons (vs := [4]) (ws := [5]) ?_ ?_
              · exact sg_name sc_are_blocks.nd rfl (by first | exact Or.inl rfl | exact Or.inr rfl)
              · refine sgs_cons (vs := [5]) (ws := []) ?_ ?_
                · exact sg_name sc_are_blocks.nd rfl (by first | exact Or.inl rfl | exact Or.inr rfl)
                · exact sgs_nil
            · exact sts_nil
            · refine se_cmp (op_ne2 hr.units) os_ne ?_ ?_ (nomark _)
              · refine se_callB (call_len) (cs_len) rfl T.b_len rfl ?_
                refine sa_cons ?_ ?_
                · exact se_var 5
                · exact sa_nil
              · refine se_callB (call_len) (cs_len) rfl T.b_len rfl ?_
                refine sa_cons ?_ ?_
                · refine se_ix ?_ ?_
                  · refine se_ix ?_ ?_
                    · exact se_var 0
                    · exact se_int
                  · exact se_int
                · exact sa_nil
          · exact sa_nil
        · refine sss_one ?_
          refine ss_ret ?_
          exact se_bl
        · exact sss_nil
      · refine sss_cons ?_ ?_
        · refine ss_setLc2 (own := [("left", 4), ("pages", 5), ("page", 6)]) (vs := [4, 5]) (ws := [6]) (vs1 := [6]) (wk := false) (wk1 := false) rfl sc_are_blocks.nd rfl rfl rfl ?_ (show BlkOk ["blocks", "keys", "held", "block", "left", "pages", "page"] (defScope s_are_blocks) _ _ from ⟨rfl, by decide +kernel, by decide +kernel, by decide +kernel, by decide +kernel⟩) (fun _ _ _ _ _ => ?_) (fun _ _ _ _ _ => ?_) (fun _ _ _ _ _ => ?_) (fun _ _ _ _ _ => ?_) (fun _ _ _ _ _ => ?_) (fun _ _ _ _ _ => ?_)
          · refine si_seq ?_
            exact se_var 0
          · refine sg_tup rfl ?_
            refine sgs_cons (vs := [4]) (ws := [5]) ?_ ?_
            · exact sg_name sc_are_blocks.nd rfl (by first | exact Or.inl rfl | exact Or.inr rfl)
            · refine sgs_cons (vs := [5]) (ws := []) ?_ ?_
              · exact sg_name sc_are_blocks.nd rfl (by first | exact Or.inl rfl | exact Or.inr rfl)
              · exact sgs_nil
          · exact sts_nil
          · refine si_seq ?_
            exact se_var 5
          · exact sg_name sc_are_blocks.nd rfl (by first | exact Or.inl rfl | exact Or.inr rfl)
          · refine sts_one ?_
            refine st_not ?_
            refine st_val ?_
            refine se_isi ?_ rfl T.b_isinstance rfl rfl T.b_str rfl
            exact se_var 6
          · exact se_var 6
        · refine sss_one ?_
          refine ss_ret ?_
          refine se_cmp (op_eq2 hr.units) os_eq ?_ ?_ (nomark _)
          · refine se_callB (call_len) (cs_len) rfl T.b_len rfl ?_
            refine sa_cons ?_ ?_
            · exact se_var 2
            · exact sa_nil
          · refine se_lenSet rfl T.b_len rfl T.b_set rfl ?_
            exact se_var 2

theorem sc_wrong_part : FnScope ["keys", "blocks", "fails", "cuts", "asked"] ["keys", "blocks", "fails", "cuts", "asked"] (defScope s_wrong_part) := ⟨rfl, rfl, rfl, by decide +kernel, rfl, by decide +kernel, by decide +kernel⟩
def g_wrong_part : FS := (gSeq (gIf (eNot (eArgs m_is_whole [(eVar 0), (eC (.int 1)), (eC (.int 9))])) (gRet (eC (.str "keys"))) gNext)
    (gSeq (gIf (eNot (eArgs m_are_blocks [(eVar 1), (eVar 0)])) (gRet (eC (.str "blocks"))) gNext)
    (gSeq (gIf (eNot (eArgs m_is_whole [(eVar 2), (eC (.int 0)), (eC (.int 9))])) (gRet (eC (.str "fails"))) gNext)
    (gSeq (gIf (eNot (eArgs m_is_whole [(eVar 3), (eC (.int 0)), (eC (.int 9))])) (gRet (eC (.str "cuts"))) gNext)
    (gSeq (gIf (eAnd (eBin dIsNot (eVar 4) (eC .non)) (eNot (eArgs m_is_key [(eVar 4), (eVar 0)]))) (gRet (eC (.str "asked"))) gNext)
    (gRet (eC .non)))))))
def m_wrong_part : FF := runB 5 g_wrong_part
theorem ok_wrong_part (T : Txt K mg) : OkF P w K mg base 5 T.f_wrong_part.f T.f_wrong_part.fd ["keys", "blocks", "fails", "cuts", "asked"] m_wrong_part := by
  refine @okS P w K mg base "wrong_part" "wrong_part" s_wrong_part T.f_wrong_part.f T.f_wrong_part.fd ["keys", "blocks", "fails", "cuts", "asked"] ["keys", "blocks", "fails", "cuts", "asked"]  4 g_wrong_part T.f_wrong_part.fn sc_wrong_part ?_
  intro cdv A outer s H E hr tk PO
  unfold g_wrong_part
  refine sss_cons ?_ ?_
  · refine ss_if ?_ ?_ ?_
    · refine st_not ?_
      refine st_val ?_
      refine se_callA T.f_is_whole (ok_is_whole T) tk (hr.mono (by decide)) rfl ?_
      refine sa_cons ?_ ?_
      · exact se_var 0
      · refine sa_cons ?_ ?_
        · exact se_int
        · refine sa_cons ?_ ?_
          · exact se_gint (t := T.c_MOST_KEYS.choose) rfl T.c_MOST_KEYS.choose_spec
          · exact sa_nil
    · refine sss_one ?_
      refine ss_ret ?_
      exact se_str
    · exact sss_nil
  · refine sss_cons ?_ ?_
    · refine ss_if ?_ ?_ ?_
      · refine st_not ?_
        refine st_val ?_
        refine se_callA T.f_are_blocks (ok_are_blocks T) tk (hr.mono (by decide)) rfl ?_
        refine sa_cons ?_ ?_
        · exact se_var 1
        · refine sa_cons ?_ ?_
          · exact se_var 0
          · exact sa_nil
      · refine sss_one ?_
        refine ss_ret ?_
        exact se_str
      · exact sss_nil
    · refine sss_cons ?_ ?_
      · refine ss_if ?_ ?_ ?_
        · refine st_not ?_
          refine st_val ?_
          refine se_callA T.f_is_whole (ok_is_whole T) tk (hr.mono (by decide)) rfl ?_
          refine sa_cons ?_ ?_
          · exact se_var 2
          · refine sa_cons ?_ ?_
            · exact se_int
            · refine sa_cons ?_ ?_
              · exact se_gint (t := T.c_MOST_LOSSES.choose) rfl T.c_MOST_LOSSES.choose_spec
              · exact sa_nil
        · refine sss_one ?_
          refine ss_ret ?_
          exact se_str
        · exact sss_nil
      · refine sss_cons ?_ ?_
        · refine ss_if ?_ ?_ ?_
          · refine st_not ?_
            refine st_val ?_
            refine se_callA T.f_is_whole (ok_is_whole T) tk (hr.mono (by decide)) rfl ?_
            refine sa_cons ?_ ?_
            · exact se_var 3
            · refine sa_cons ?_ ?_
              · exact se_int
              · refine sa_cons ?_ ?_
                · exact se_gint (t := T.c_MOST_LOSSES.choose) rfl T.c_MOST_LOSSES.choose_spec
                · exact sa_nil
          · refine sss_one ?_
            refine ss_ret ?_
            exact se_str
          · exact sss_nil
        · refine sss_cons ?_ ?_
          · refine ss_if ?_ ?_ ?_
            · refine SW.st ?_
              refine sw_and ?_ ?_
              · refine st_cmp op_isNot3 os_isNot ?_ ?_ (nomark _)
                · exact se_var 4
                · exact se_non
              · refine sw_and1 ?_
                refine st_not ?_
                refine st_val ?_
                refine se_callA T.f_is_key (ok_is_key T) tk (hr.mono (by decide)) rfl ?_
                refine sa_cons ?_ ?_
                · exact se_var 4
                · refine sa_cons ?_ ?_
                  · exact se_var 0
                  · exact sa_nil
            · refine sss_one ?_
              refine ss_ret ?_
              exact se_str
            · exact sss_nil
          · refine sss_one ?_
            refine ss_ret ?_
            exact se_non

theorem sc_Stand_init : FnScope ["self", "keys", "blocks", "fails", "cuts", "asked", "part"] ["self", "keys", "blocks", "fails", "cuts", "asked"] (defScope s_Stand_init) := ⟨rfl, rfl, rfl, by decide +kernel, rfl, by decide +kernel, by decide +kernel⟩
def g_Stand_init : FS := (gSeq (gSet 6 (eArgs m_wrong_part [(eVar 1), (eVar 2), (eVar 3), (eVar 4), (eVar 5)]))
    (gSeq (gIf (eBin dIsNot (eVar 6) (eC .non)) gBad gNext)
    (gPut "Stand" "_shape" (eVar 0) (eTup [(eVar 1), (eArgs bTuple [(eVar 2)]), (eVar 3), (eVar 4), (eVar 5)]))))
def m_Stand_init : FF := runB 7 g_Stand_init
theorem ok_Stand_init (T : Txt K mg) : OkF P w K mg base 6 T.f_Stand_init.f T.f_Stand_init.fd ["self", "keys", "blocks", "fails", "cuts", "asked"] m_Stand_init := by
  refine @okS P w K mg base "__init__" "Stand.__init__" s_Stand_init T.f_Stand_init.f T.f_Stand_init.fd ["self", "keys", "blocks", "fails", "cuts", "asked", "part"] ["self", "keys", "blocks", "fails", "cuts", "asked"]  5 g_Stand_init T.f_Stand_init.fn sc_Stand_init ?_
  intro cdv A outer s H E hr tk PO
  unfold g_Stand_init
  refine sss_cons ?_ ?_
  · refine ss_set sc_Stand_init.nd rfl (by first | exact Or.inl rfl | exact Or.inr rfl) ?_
    refine se_callA T.f_wrong_part (ok_wrong_part T) tk (hr.mono (by decide)) rfl ?_
    refine sa_cons ?_ ?_
    · exact se_var 1
    · refine sa_cons ?_ ?_
      · exact se_var 2
      · refine sa_cons ?_ ?_
        · exact se_var 3
        · refine sa_cons ?_ ?_
          · exact se_var 4
          · refine sa_cons ?_ ?_
            · exact se_var 5
            · exact sa_nil
  · refine sss_cons ?_ ?_
    · refine ss_if ?_ ?_ ?_
      · refine st_cmp op_isNot3 os_isNot ?_ ?_ (nomark _)
        · exact se_var 6
        · exact se_non
      · refine sss_one ?_
        exact ss_bad
      · exact sss_nil
    · refine sss_one ?_
      refine ss_put T.k_Stand.g T.k_Stand.cl T.na_Stand__shape ?_ ?_
      · exact se_var 0
      · refine se_tup ?_
        refine sa_cons ?_ ?_
        · exact se_var 1
        · refine sa_cons ?_ ?_
          · refine se_callTy (call_tuple_ofF) (cs_tuple) rfl T.b_tuple rfl ?_
            refine sa_cons ?_ ?_
            · exact se_var 2
            · exact sa_nil
          · refine sa_cons ?_ ?_
            · exact se_var 3
            · refine sa_cons ?_ ?_
              · exact se_var 4
              · refine sa_cons ?_ ?_
                · exact se_var 5
                · exact sa_nil

theorem sc__law_stand : FnScope ["shape"] ["shape"] (defScope s__law_stand) := ⟨rfl, rfl, rfl, by decide +kernel, rfl, by decide +kernel, by decide +kernel⟩
def g__law_stand : FS := (gRet (eMake "Stand" m_Stand_init [(eBin dIx (eVar 0) (eC (.int 0))), (eArgs bList [(eBin dIx (eVar 0) (eC (.int 1)))]), (eBin dIx (eVar 0) (eC (.int 2))), (eBin dIx (eVar 0) (eC (.int 3)))] [(eBin dIx (eVar 0) (eC (.int 4)))]))
def m__law_stand : FF := runB 1 g__law_stand
theorem ok__law_stand (T : Txt K mg) : OkF P w K mg base 8 T.f__law_stand.f T.f__law_stand.fd ["shape"] m__law_stand := by
  refine @okS P w K mg base "_law_stand" "_law_stand" s__law_stand T.f__law_stand.f T.f__law_stand.fd ["shape"] ["shape"]  7 g__law_stand T.f__law_stand.fn sc__law_stand ?_
  intro cdv A outer s H E hr tk PO
  unfold g__law_stand
  refine sss_one ?_
  refine ss_ret ?_
  refine se_makeA T.f_Stand_init (ok_Stand_init T) tk (hr.mono (by decide)) rfl ?_ ?_
  · refine sa_cons ?_ ?_
    · refine se_ix ?_ ?_
      · exact se_var 0
      · exact se_int
    · refine sa_cons ?_ ?_
      · refine se_callTy (call_list_of) (cs_list) rfl T.b_list rfl ?_
        refine sa_cons ?_ ?_
        · refine se_ix ?_ ?_
          · exact se_var 0
          · exact se_int
        · exact sa_nil
      · refine sa_cons ?_ ?_
        · refine se_ix ?_ ?_
          · exact se_var 0
          · exact se_int
        · refine sa_cons ?_ ?_
          · refine se_ix ?_ ?_
            · exact se_var 0
            · exact se_int
          · exact sa_nil
  · refine sk_cons ?_ ?_
    · refine se_ix ?_ ?_
      · exact se_var 0
      · exact se_int
    · exact sk_nil

theorem sc_Stand_shape : FnScope ["self"] ["self"] (defScope s_Stand_shape) := ⟨rfl, rfl, rfl, by decide +kernel, rfl, by decide +kernel, by decide +kernel⟩
def g_Stand_shape : FS := (gRet (eFld "Stand" "_shape" (eVar 0)))
def m_Stand_shape : FF := runB 1 g_Stand_shape
theorem ok_Stand_shape (T : Txt K mg) : OkF P w K mg base 1 T.f_Stand_shape.f T.f_Stand_shape.fd ["self"] m_Stand_shape := by
  refine @okS P w K mg base "shape" "Stand.shape" s_Stand_shape T.f_Stand_shape.f T.f_Stand_shape.fd ["self"] ["self"]  0 g_Stand_shape T.f_Stand_shape.fn sc_Stand_shape ?_
  intro cdv A outer s H E hr tk PO
  unfold g_Stand_shape
  refine sss_one ?_
  refine ss_ret ?_
  refine se_fld ?_ T.k_Stand.g T.k_Stand.cl T.na_Stand__shape
  exact se_var 0

theorem sc__law_same : FnScope ["got", "due", "k"] ["got", "due"] (defScope s__law_same) := ⟨rfl, rfl, rfl, by decide +kernel, rfl, by decide +kernel, by decide +kernel⟩
def g__law_same (rec_ : FF) : FS := (gSeq (gIf (eBin dIs (eVar 1) (eC .non)) (gRet (eBin dIs (eVar 0) (eC .non))) gNext)
    (gSeq (gIf (eBin dIs (eVar 1) (eC (.bl true))) (gRet (eBin dIs (eVar 0) (eC (.bl true)))) gNext)
    (gSeq (gIf (eBin dIs (eVar 1) (eC (.bl false))) (gRet (eBin dIs (eVar 0) (eC (.bl false)))) gNext)
    (gSeq (gIf (eIsi "int" (eVar 1)) (gRet (eAnd (eIsi "int" (eVar 0)) (eAnd (eNot (eIsi "bool" (eVar 0))) (eBin dEq (eVar 0) (eVar 1))))) gNext)
    (gSeq (gIf (eIsi "str" (eVar 1)) (gRet (eAnd (eIsi "str" (eVar 0)) (eBin dEq (eVar 0) (eVar 1)))) gNext)
    (gSeq (gIf (eAnd (eIsi "tuple" (eVar 1)) (eNot (eIsi "tuple" (eVar 0)))) (gRet (eC (.bl false))) gNext)
    (gSeq (gIf (eAnd (eIsi "list" (eVar 1)) (eNot (eIsi "list" (eVar 0)))) (gRet (eC (.bl false))) gNext)
    (gSeq (gIf (eBin dNe (eArgs bLen [(eVar 0)]) (eArgs bLen [(eVar 1)])) (gRet (eC (.bl false))) gNext)
    (gSeq (gFor (fiRg [(eArgs bLen [(eVar 1)])]) (tName 2) (gIf (eNot (eArgs rec_ [(eBin dIx (eVar 0) (eVar 2)), (eBin dIx (eVar 1) (eVar 2))])) (gRet (eC (.bl false))) gNext))
    (gRet (eC (.bl true))))))))))))
def m__law_same : Nat → FF
  | 0 => fun _ _ => .bad
  | n + 1 => runB 3 (g__law_same (m__law_same n))
theorem ok__law_same (T : Txt K mg) : ∀ n : Nat, OkF P w K mg base (0 + n + 1) T.f__law_same.f T.f__law_same.fd ["got", "due"] (m__law_same n)
  | 0 => @okS P w K mg base "_law_same" "_law_same" s__law_same T.f__law_same.f T.f__law_same.fd ["got", "due", "k"] ["got", "due"]  0 gBad T.f__law_same.fn sc__law_same fun cdv A outer s H E hr tk PO => sss_bad
  | n + 1 => by
    have ih := ok__law_same T n
    refine @okS P w K mg base "_law_same" "_law_same" s__law_same T.f__law_same.f T.f__law_same.fd ["got", "due", "k"] ["got", "due"]  (0 + n + 1) (g__law_same (m__law_same n)) T.f__law_same.fn sc__law_same ?_
    intro cdv A outer s H E hr tk PO
    unfold g__law_same
    refine sss_cons ?_ ?_
    · refine ss_if ?_ ?_ ?_
      · refine st_cmp op_is3 os_is ?_ ?_ (nomark _)
        · exact se_var 1
        · exact se_non
      · refine sss_one ?_
        refine ss_ret ?_
        refine se_cmp op_is3 os_is ?_ ?_ (nomark _)
        · exact se_var 0
        · exact se_non
      · exact sss_nil
    · refine sss_cons ?_ ?_
      · refine ss_if ?_ ?_ ?_
        · refine st_cmp op_is3 os_is ?_ ?_ (nomark _)
          · exact se_var 1
          · exact se_bl
        · refine sss_one ?_
          refine ss_ret ?_
          refine se_cmp op_is3 os_is ?_ ?_ (nomark _)
          · exact se_var 0
          · exact se_bl
        · exact sss_nil
      · refine sss_cons ?_ ?_
        · refine ss_if ?_ ?_ ?_
          · refine st_cmp op_is3 os_is ?_ ?_ (nomark _)
            · exact se_var 1
            · exact se_bl
          · refine sss_one ?_
            refine ss_ret ?_
            refine se_cmp op_is3 os_is ?_ ?_ (nomark _)
            · exact se_var 0
            · exact se_bl
          · exact sss_nil
        · refine sss_cons ?_ ?_
          · refine ss_if ?_ ?_ ?_
            · refine st_val ?_
              refine se_isi ?_ rfl T.b_isinstance rfl rfl T.b_int rfl
              exact se_var 1
            · refine sss_one ?_
              refine ss_ret ?_
              refine se_and ?_ ?_
              · refine se_isi ?_ rfl T.b_isinstance rfl rfl T.b_int rfl
                exact se_var 0
              · refine se_and ?_ ?_
                · refine se_not ?_
                  refine se_isi ?_ rfl T.b_isinstance rfl rfl T.b_bool rfl
                  exact se_var 0
                · refine se_one ?_
                  refine se_cmp (op_eq2 hr.units) os_eq ?_ ?_ (nomark _)
                  · exact se_var 0
                  · exact se_var 1
            · exact sss_nil
          · refine sss_cons ?_ ?_
            · refine ss_if ?_ ?_ ?_
              · refine st_val ?_
                refine se_isi ?_ rfl T.b_isinstance rfl rfl T.b_str rfl
                exact se_var 1
              · refine sss_one ?_
                refine ss_ret ?_
                refine se_and ?_ ?_
                · refine se_isi ?_ rfl T.b_isinstance rfl rfl T.b_str rfl
                  exact se_var 0
                · refine se_one ?_
                  refine se_cmp (op_eq2 hr.units) os_eq ?_ ?_ (nomark _)
                  · exact se_var 0
                  · exact se_var 1
              · exact sss_nil
            · refine sss_cons ?_ ?_
              · refine ss_if ?_ ?_ ?_
                · refine SW.st ?_
                  refine sw_and ?_ ?_
                  · refine st_val ?_
                    refine se_isi ?_ rfl T.b_isinstance rfl rfl T.b_tuple rfl
                    exact se_var 1
                  · refine sw_and1 ?_
                    refine st_not ?_
                    refine st_val ?_
                    refine se_isi ?_ rfl T.b_isinstance rfl rfl T.b_tuple rfl
                    exact se_var 0
                · refine sss_one ?_
                  refine ss_ret ?_
                  exact se_bl
                · exact sss_nil
              · refine sss_cons ?_ ?_
                · refine ss_if ?_ ?_ ?_
                  · refine SW.st ?_
                    refine sw_and ?_ ?_
                    · refine st_val ?_
                      refine se_isi ?_ rfl T.b_isinstance rfl rfl T.b_list rfl
                      exact se_var 1
                    · refine sw_and1 ?_
                      refine st_not ?_
                      refine st_val ?_
                      refine se_isi ?_ rfl T.b_isinstance rfl rfl T.b_list rfl
                      exact se_var 0
                  · refine sss_one ?_
                    refine ss_ret ?_
                    exact se_bl
                  · exact sss_nil
                · refine sss_cons ?_ ?_
                  · refine ss_if ?_ ?_ ?_
                    · refine st_cmp (op_ne2 hr.units) os_ne ?_ ?_ (nomark _)
                      · refine se_callB (call_len) (cs_len) rfl T.b_len rfl ?_
                        refine sa_cons ?_ ?_
                        · exact se_var 0
                        · exact sa_nil
                      · refine se_callB (call_len) (cs_len) rfl T.b_len rfl ?_
                        refine sa_cons ?_ ?_
                        · exact se_var 1
                        · exact sa_nil
                    · refine sss_one ?_
                      refine ss_ret ?_
                      exact se_bl
                    · exact sss_nil
                  · refine sss_cons ?_ ?_
                    · refine ss_for (vs := [2]) (wk := false) PO rfl ?_ ?_ ?_
                      · refine si_rg1 rfl T.b_range ?_
                        refine sa_cons ?_ ?_
                        · refine se_callB (call_len) (cs_len) rfl T.b_len rfl ?_
                          refine sa_cons ?_ ?_
                          · exact se_var 1
                          · exact sa_nil
                        · exact sa_nil
                      · exact sg_name sc__law_same.nd rfl (by first | exact Or.inl rfl | exact Or.inr rfl)
                      · refine sss_one ?_
                        refine ss_if ?_ ?_ ?_
                        · refine st_not ?_
                          refine st_val ?_
                          refine se_callA T.f__law_same ih tk (hr.mono (by omega)) rfl ?_
                          refine sa_cons ?_ ?_
                          · refine se_ix ?_ ?_
                            · exact se_var 0
                            · exact se_var 2
                          · refine sa_cons ?_ ?_
                            · refine se_ix ?_ ?_
                              · exact se_var 1
                              · exact se_var 2
                            · exact sa_nil
                        · refine sss_one ?_
                          refine ss_ret ?_
                          exact se_bl
                        · exact sss_nil
                    · refine sss_one ?_
                      refine ss_ret ?_
                      exact se_bl

theorem sc_has_room : FnScope ["block"] ["block"] (defScope s_has_room) := ⟨rfl, rfl, rfl, by decide +kernel, rfl, by decide +kernel, by decide +kernel⟩
def g_has_room : FS := (gRet (eBin dIn (eC (.str "free")) (eBin dIx (eVar 0) (eC (.int 1)))))
def m_has_room : FF := runB 1 g_has_room
theorem ok_has_room (T : Txt K mg) : OkF P w K mg base 1 T.f_has_room.f T.f_has_room.fd ["block"] m_has_room := by
  refine @okS P w K mg base "has_room" "has_room" s_has_room T.f_has_room.f T.f_has_room.fd ["block"] ["block"]  0 g_has_room T.f_has_room.fn sc_has_room ?_
  intro cdv A outer s H E hr tk PO
  unfold g_has_room
  refine sss_one ?_
  refine ss_ret ?_
  refine se_cmp (op_in2 (units65 hr)) os_in ?_ ?_ (by with_unfolding_all rfl)
  · exact se_str
  · refine se_ix ?_ ?_
    · exact se_var 0
    · exact se_int

theorem sc_places : FnScope ["blocks", "found", "b", "_", "pages", "p", "page"] ["blocks"] (defScope s_places) := ⟨rfl, rfl, rfl, by decide +kernel, rfl, by decide +kernel, by decide +kernel⟩
def g_places : FS := (gSeq (gSet 1 eDnew)
    (gSeq (gFor (fiEn (eVar 0)) (tTup [(tName 2), (tTup [(tName 3), (tName 4)])]) (gFor (fiEn (eVar 4)) (tTup [(tName 5), (tName 6)]) (gIf (eNot (eIsi "str" (eVar 6))) (gDput (eVar 1) (eVar 6) (eTup [(eVar 2), (eVar 5)])) gNext)))
    (gRet (eVar 1))))
def m_places : FF := runB 7 g_places
theorem ok_places (T : Txt K mg) : OkF P w K mg base 1 T.f_places.f T.f_places.fd ["blocks"] m_places := by
  refine @okS P w K mg base "places" "places" s_places T.f_places.f T.f_places.fd ["blocks", "found", "b", "_", "pages", "p", "page"] ["blocks"]  0 g_places T.f_places.fn sc_places ?_
  intro cdv A outer s H E hr tk PO
  unfold g_places
  refine sss_cons ?_ ?_
  · refine ss_set sc_places.nd rfl (by first | exact Or.inl rfl | exact Or.inr rfl) ?_
    exact se_dnew
  · refine sss_cons ?_ ?_
    · refine ss_for (vs := [2, 3, 4]) (wk := true) PO rfl ?_ ?_ ?_
      · refine si_enum rfl T.b_enumerate ?_
        exact se_var 0
      · refine sg_tup rfl ?_
        refine sgs_cons (vs := [2]) (ws := [3, 4]) ?_ ?_
        · exact sg_name sc_places.nd rfl (by first | exact Or.inl rfl | exact Or.inr rfl)
        · refine sgs_cons (vs := [3, 4]) (ws := []) ?_ ?_
          · refine sg_tup rfl ?_
            refine sgs_cons (vs := [3]) (ws := [4]) ?_ ?_
            · exact sg_name sc_places.nd rfl (by first | exact Or.inl rfl | exact Or.inr rfl)
            · refine sgs_cons (vs := [4]) (ws := []) ?_ ?_
              · exact sg_name sc_places.nd rfl (by first | exact Or.inl rfl | exact Or.inr rfl)
              · exact sgs_nil
          · exact sgs_nil
      · refine sss_one ?_
        refine ss_for (vs := [5, 6]) (wk := true) PO rfl ?_ ?_ ?_
        · refine si_enum rfl T.b_enumerate ?_
          exact se_var 4
        · refine sg_tup rfl ?_
          refine sgs_cons (vs := [5]) (ws := [6]) ?_ ?_
          · exact sg_name sc_places.nd rfl (by first | exact Or.inl rfl | exact Or.inr rfl)
          · refine sgs_cons (vs := [6]) (ws := []) ?_ ?_
            · exact sg_name sc_places.nd rfl (by first | exact Or.inl rfl | exact Or.inr rfl)
            · exact sgs_nil
        · refine sss_one ?_
          refine ss_if ?_ ?_ ?_
          · refine st_not ?_
            refine st_val ?_
            refine se_isi ?_ rfl T.b_isinstance rfl rfl T.b_str rfl
            exact se_var 6
          · refine sss_one ?_
            refine ss_dput hr ?_ ?_ ?_
            · exact se_var 1
            · exact se_var 6
            · refine se_tup ?_
              refine sa_cons ?_ ?_
              · exact se_var 2
              · refine sa_cons ?_ ?_
                · exact se_var 5
                · exact sa_nil
          · exact sss_nil
    · refine sss_one ?_
      refine ss_ret ?_
      exact se_var 1

theorem sc_held : FnScope ["block", "page"] ["block"] (defScope s_held) := ⟨rfl, rfl, rfl, by decide +kernel, rfl, by decide +kernel, by decide +kernel⟩
def g_held : FS := (gRet (eLc (fiSeq (eBin dIx (eVar 0) (eC (.int 1)))) (tName 1) (eNot (eIsi "str" (eVar 1))) (eVar 1) [1]))
def m_held : FF := runB 2 g_held
theorem ok_held (T : Txt K mg) : OkF P w K mg base 1 T.f_held.f T.f_held.fd ["block"] m_held := by
  refine @okS P w K mg base "held" "held" s_held T.f_held.f T.f_held.fd ["block", "page"] ["block"]  0 g_held T.f_held.fn sc_held ?_
  intro cdv A outer s H E hr tk PO
  unfold g_held
  refine sss_one ?_
  refine ss_ret ?_
  refine se_lc (own := [("page", 1)]) (vs := [1]) (wk := false) rfl sc_held.nd ?_ (show BlkOk ["block", "page"] (defScope s_held) _ _ from ⟨rfl, by decide +kernel, by decide +kernel, by decide +kernel, by decide +kernel⟩) (fun _ _ _ _ _ => ?_) (fun _ _ _ _ _ => ?_) (fun _ _ _ _ _ => ?_)
  · refine si_seq ?_
    refine se_ix ?_ ?_
    · exact se_var 0
    · exact se_int
  · exact sg_name sc_held.nd rfl (by first | exact Or.inl rfl | exact Or.inr rfl)
  · refine sts_one ?_
    refine st_not ?_
    refine st_val ?_
    refine se_isi ?_ rfl T.b_isinstance rfl rfl T.b_str rfl
    exact se_var 1
  · exact se_var 1

theorem sc_can_be_erased : FnScope ["block", "left", "pages"] ["block"] (defScope s_can_be_erased) := ⟨rfl, rfl, rfl, by decide +kernel, rfl, by decide +kernel, by decide +kernel⟩
def g_can_be_erased : FS := (gSeq (gAsg (eVar 0) (tTup [(tName 1), (tName 2)]))
    (gSeq (gIf (eOr (eBin dIs (eVar 1) (eC .non)) (eOr (eBin dEq (eVar 1) (eC (.int 0))) (eBin dEq (eTm tCount (eVar 2) [(eC (.str "free"))]) (eArgs bLen [(eVar 2)])))) (gRet (eC (.bl false))) gNext)
    (gRet (eNot (eTru (eArgs m_held [(eVar 0)]))))))
def m_can_be_erased : FF := runB 3 g_can_be_erased
theorem ok_can_be_erased (T : Txt K mg) : OkF P w K mg base 2 T.f_can_be_erased.f T.f_can_be_erased.fd ["block"] m_can_be_erased := by
  refine @okS P w K mg base "can_be_erased" "can_be_erased" s_can_be_erased T.f_can_be_erased.f T.f_can_be_erased.fd ["block", "left", "pages"] ["block"]  1 g_can_be_erased T.f_can_be_erased.fn sc_can_be_erased ?_
  intro cdv A outer s H E hr tk PO
  unfold g_can_be_erased
  refine sss_cons ?_ ?_
  · refine ss_asg (vs := [1, 2]) ?_ ?_
    · exact se_var 0
    · refine sg_tup rfl ?_
      refine sgs_cons (vs := [1]) (ws := [2]) ?_ ?_
      · exact sg_name sc_can_be_erased.nd rfl (by first | exact Or.inl rfl | exact Or.inr rfl)
      · refine sgs_cons (vs := [2]) (ws := []) ?_ ?_
        · exact sg_name sc_can_be_erased.nd rfl (by first | exact Or.inl rfl | exact Or.inr rfl)
        · exact sgs_nil
  · refine sss_cons ?_ ?_
    · refine ss_if ?_ ?_ ?_
      · refine SW.st ?_
        refine sw_or ?_ ?_
        · refine st_cmp op_is3 os_is ?_ ?_ (nomark _)
          · exact se_var 1
          · exact se_non
        · refine sw_or ?_ ?_
          · refine st_cmp (op_eq2 hr.units) os_eq ?_ ?_ (nomark _)
            · exact se_var 1
            · exact se_int
          · refine sw_or1 ?_
            refine st_cmp (op_eq2 hr.units) os_eq ?_ ?_ (nomark _)
            · refine se_tm PySem.F.plainAttrs_tuple PySem.F.slot_tuple_count PySem.F.type_tuple_count (mt_tcount hr.units) ts_count ?_ ?_
              · exact se_var 2
              · refine sa_cons ?_ ?_
                · exact se_str
                · exact sa_nil
            · refine se_callB (call_len) (cs_len) rfl T.b_len rfl ?_
              refine sa_cons ?_ ?_
              · exact se_var 2
              · exact sa_nil
      · refine sss_one ?_
        refine ss_ret ?_
        exact se_bl
      · exact sss_nil
    · refine sss_one ?_
      refine ss_ret ?_
      refine se_notT ?_
      refine se_callA T.f_held (ok_held T) tk (hr.mono (by decide)) rfl ?_
      refine sa_cons ?_ ?_
      · exact se_var 0
      · exact sa_nil

theorem sc_acts_on : FnScope ["blocks", "roomy", "acts", "key", "home", "_", "b", "block"] ["blocks"] (defScope s_acts_on) := ⟨rfl, rfl, rfl, by decide +kernel, rfl, by decide +kernel, by decide +kernel⟩
def g_acts_on : FS := (gSeq (gSet 1 (eLc (fiEn (eVar 0)) (tTup [(tName 6), (tName 7)]) (eArgs m_has_room [(eVar 7)]) (eVar 6) [6, 7]))
    (gSeq (gSet 2 (eLc (fiSeq (eVar 1)) (tName 6) (eC (.bl true)) (eTup [(eC (.str "write")), (eVar 6)]) [6]))
    (gSeq (gFor (fiSeq (eSortIt (eArgs m_places [(eVar 0)]))) (tTup [(tName 3), (tTup [(tName 4), (tName 5)])]) (gDrop (eLm lExtend (eVar 2) [(eLc (fiSeq (eVar 1)) (tName 6) (eBin dNe (eVar 6) (eVar 4)) (eTup [(eC (.str "copy")), (eVar 3), (eVar 6)]) [6])])))
    (gSeq (gDrop (eLm lExtend (eVar 2) [(eLc (fiEn (eVar 0)) (tTup [(tName 6), (tName 7)]) (eArgs m_can_be_erased [(eVar 7)]) (eTup [(eC (.str "erase")), (eVar 6)]) [6, 7])]))
    (gRet (eVar 2))))))
def m_acts_on : FF := runB 8 g_acts_on
theorem ok_acts_on (T : Txt K mg) : OkF P w K mg base 3 T.f_acts_on.f T.f_acts_on.fd ["blocks"] m_acts_on := by
  refine @okS P w K mg base "acts_on" "acts_on" s_acts_on T.f_acts_on.f T.f_acts_on.fd ["blocks", "roomy", "acts", "key", "home", "_", "b", "block"] ["blocks"]  2 g_acts_on T.f_acts_on.fn sc_acts_on ?_
  intro cdv A outer s H E hr tk PO
  unfold g_acts_on
  refine sss_cons ?_ ?_
  · refine ss_setLc (own := [("b", 6), ("block", 7)]) (vs := [6, 7]) (wk := true) rfl sc_acts_on.nd rfl rfl rfl ?_ (show BlkOk ["blocks", "roomy", "acts", "key", "home", "_", "b", "block"] (defScope s_acts_on) _ _ from ⟨rfl, by decide +kernel, by decide +kernel, by decide +kernel, by decide +kernel⟩) (fun _ _ _ _ _ => ?_) (fun _ _ _ _ _ => ?_) (fun _ _ _ _ _ => ?_)
    · refine si_enum rfl T.b_enumerate ?_
      exact se_var 0
    · refine sg_tup rfl ?_
      refine sgs_cons (vs := [6]) (ws := [7]) ?_ ?_
      · exact sg_name sc_acts_on.nd rfl (by first | exact Or.inl rfl | exact Or.inr rfl)
      · refine sgs_cons (vs := [7]) (ws := []) ?_ ?_
        · exact sg_name sc_acts_on.nd rfl (by first | exact Or.inl rfl | exact Or.inr rfl)
        · exact sgs_nil
    · refine sts_one ?_
      refine st_val ?_
      refine se_callA T.f_has_room (ok_has_room T) takesW0 (hr.mono (by decide)) rfl ?_
      refine sa_cons ?_ ?_
      · exact se_var 7
      · exact sa_nil
    · exact se_var 6
  · refine sss_cons ?_ ?_
    · refine ss_setLc (own := [("b", 6)]) (vs := [6]) (wk := false) rfl sc_acts_on.nd rfl rfl rfl ?_ (show BlkOk ["blocks", "roomy", "acts", "key", "home", "_", "b", "block"] (defScope s_acts_on) _ _ from ⟨rfl, by decide +kernel, by decide +kernel, by decide +kernel, by decide +kernel⟩) (fun _ _ _ _ _ => ?_) (fun _ _ _ _ _ => ?_) (fun _ _ _ _ _ => ?_)
      · refine si_seq ?_
        exact se_var 1
      · exact sg_name sc_acts_on.nd rfl (by first | exact Or.inl rfl | exact Or.inr rfl)
      · exact sts_nil
      · refine se_tup ?_
        refine sa_cons ?_ ?_
        · exact se_str
        · refine sa_cons ?_ ?_
          · exact se_var 6
          · exact sa_nil
    · refine sss_cons ?_ ?_
      · refine ss_for (vs := [3, 4, 5]) (wk := false) PO rfl ?_ ?_ ?_
        · refine si_seq ?_
          refine se_sortIt rfl hr rfl T.b_sorted ?_
          refine se_callA T.f_places (ok_places T) tk (hr.mono (by decide)) rfl ?_
          refine sa_cons ?_ ?_
          · exact se_var 0
          · exact sa_nil
        · refine sg_tup rfl ?_
          refine sgs_cons (vs := [3]) (ws := [4, 5]) ?_ ?_
          · exact sg_name sc_acts_on.nd rfl (by first | exact Or.inl rfl | exact Or.inr rfl)
          · refine sgs_cons (vs := [4, 5]) (ws := []) ?_ ?_
            · refine sg_tup rfl ?_
              refine sgs_cons (vs := [4]) (ws := [5]) ?_ ?_
              · exact sg_name sc_acts_on.nd rfl (by first | exact Or.inl rfl | exact Or.inr rfl)
              · refine sgs_cons (vs := [5]) (ws := []) ?_ ?_
                · exact sg_name sc_acts_on.nd rfl (by first | exact Or.inl rfl | exact Or.inr rfl)
                · exact sgs_nil
            · exact sgs_nil
        · refine sss_one ?_
          refine ss_expr ?_
          refine se_lm PySem.F.plainAttrs_list PySem.F.slot_list_extend PySem.F.type_list_extend mt_extend ls_extend ?_ ?_
          · exact se_var 2
          · refine sa_cons ?_ ?_
            · refine se_lc (own := [("b", 6)]) (vs := [6]) (wk := false) rfl sc_acts_on.nd ?_ (show BlkOk ["blocks", "roomy", "acts", "key", "home", "_", "b", "block"] (defScope s_acts_on) _ _ from ⟨rfl, by decide +kernel, by decide +kernel, by decide +kernel, by decide +kernel⟩) (fun _ _ _ _ _ => ?_) (fun _ _ _ _ _ => ?_) (fun _ _ _ _ _ => ?_)
              · refine si_seq ?_
                exact se_var 1
              · exact sg_name sc_acts_on.nd rfl (by first | exact Or.inl rfl | exact Or.inr rfl)
              · refine sts_one ?_
                refine st_cmp (op_ne2 hr.units) os_ne ?_ ?_ (nomark _)
                · exact se_var 6
                · exact se_var 4
              · refine se_tup ?_
                refine sa_cons ?_ ?_
                · exact se_str
                · refine sa_cons ?_ ?_
                  · exact se_var 3
                  · refine sa_cons ?_ ?_
                    · exact se_var 6
                    · exact sa_nil
            · exact sa_nil
      · refine sss_cons ?_ ?_
        · refine ss_expr ?_
          refine se_lm PySem.F.plainAttrs_list PySem.F.slot_list_extend PySem.F.type_list_extend mt_extend ls_extend ?_ ?_
          · exact se_var 2
          · refine sa_cons ?_ ?_
            · refine se_lc (own := [("b", 6), ("block", 7)]) (vs := [6, 7]) (wk := true) rfl sc_acts_on.nd ?_ (show BlkOk ["blocks", "roomy", "acts", "key", "home", "_", "b", "block"] (defScope s_acts_on) _ _ from ⟨rfl, by decide +kernel, by decide +kernel, by decide +kernel, by decide +kernel⟩) (fun _ _ _ _ _ => ?_) (fun _ _ _ _ _ => ?_) (fun _ _ _ _ _ => ?_)
              · refine si_enum rfl T.b_enumerate ?_
                exact se_var 0
              · refine sg_tup rfl ?_
                refine sgs_cons (vs := [6]) (ws := [7]) ?_ ?_
                · exact sg_name sc_acts_on.nd rfl (by first | exact Or.inl rfl | exact Or.inr rfl)
                · refine sgs_cons (vs := [7]) (ws := []) ?_ ?_
                  · exact sg_name sc_acts_on.nd rfl (by first | exact Or.inl rfl | exact Or.inr rfl)
                  · exact sgs_nil
              · refine sts_one ?_
                refine st_val ?_
                refine se_callA T.f_can_be_erased (ok_can_be_erased T) takesW0 (hr.mono (by decide)) rfl ?_
                refine sa_cons ?_ ?_
                · exact se_var 7
                · exact sa_nil
              · refine se_tup ?_
                refine sa_cons ?_ ?_
                · exact se_str
                · refine sa_cons ?_ ?_
                  · exact se_var 6
                  · exact sa_nil
            · exact sa_nil
        · refine sss_one ?_
          refine ss_ret ?_
          exact se_var 2

theorem sc_shape_acts : FnScope ["shape"] ["shape"] (defScope s_shape_acts) := ⟨rfl, rfl, rfl, by decide +kernel, rfl, by decide +kernel, by decide +kernel⟩
def g_shape_acts : FS := (gSeq (gIf (eBin dIs (eBin dIx (eVar 0) (eC (.int 4))) (eC .non)) (gRet (eLst [])) gNext)
    (gRet (eArgs m_acts_on [(eBin dIx (eVar 0) (eC (.int 1)))])))
def m_shape_acts : FF := runB 1 g_shape_acts
theorem ok_shape_acts (T : Txt K mg) : OkF P w K mg base 4 T.f_shape_acts.f T.f_shape_acts.fd ["shape"] m_shape_acts := by
  refine @okS P w K mg base "shape_acts" "shape_acts" s_shape_acts T.f_shape_acts.f T.f_shape_acts.fd ["shape"] ["shape"]  3 g_shape_acts T.f_shape_acts.fn sc_shape_acts ?_
  intro cdv A outer s H E hr tk PO
  unfold g_shape_acts
  refine sss_cons ?_ ?_
  · refine ss_if ?_ ?_ ?_
    · refine st_cmp op_is3 os_is ?_ ?_ (nomark _)
      · refine se_ix ?_ ?_
        · exact se_var 0
        · exact se_int
      · exact se_non
    · refine sss_one ?_
      refine ss_ret ?_
      refine se_lst ?_
      exact sa_nil
    · exact sss_nil
  · refine sss_one ?_
    refine ss_ret ?_
    refine se_callA T.f_acts_on (ok_acts_on T) tk (hr.mono (by decide)) rfl ?_
    refine sa_cons ?_ ?_
    · refine se_ix ?_ ?_
      · exact se_var 0
      · exact se_int
    · exact sa_nil

theorem sc_Stand_acts : FnScope ["self"] ["self"] (defScope s_Stand_acts) := ⟨rfl, rfl, rfl, by decide +kernel, rfl, by decide +kernel, by decide +kernel⟩
def g_Stand_acts : FS := (gRet (eArgs m_shape_acts [(eFld "Stand" "_shape" (eVar 0))]))
def m_Stand_acts : FF := runB 1 g_Stand_acts
theorem ok_Stand_acts (T : Txt K mg) : OkF P w K mg base 5 T.f_Stand_acts.f T.f_Stand_acts.fd ["self"] m_Stand_acts := by
  refine @okS P w K mg base "acts" "Stand.acts" s_Stand_acts T.f_Stand_acts.f T.f_Stand_acts.fd ["self"] ["self"]  4 g_Stand_acts T.f_Stand_acts.fn sc_Stand_acts ?_
  intro cdv A outer s H E hr tk PO
  unfold g_Stand_acts
  refine sss_one ?_
  refine ss_ret ?_
  refine se_callA T.f_shape_acts (ok_shape_acts T) tk (hr.mono (by decide)) rfl ?_
  refine sa_cons ?_ ?_
  · refine se_fld ?_ T.k_Stand.g T.k_Stand.cl T.na_Stand__shape
    exact se_var 0
  · exact sa_nil

theorem sc__law_rooms : FnScope ["shape", "rooms", "b", "left", "pages"] ["shape"] (defScope s__law_rooms) := ⟨rfl, rfl, rfl, by decide +kernel, rfl, by decide +kernel, by decide +kernel⟩
def g__law_rooms : FS := (gSeq (gSet 1 (eLst []))
    (gSeq (gFor (fiRg [(eArgs bLen [(eBin dIx (eVar 0) (eC (.int 1)))])]) (tName 2) (gSeq (gAsg (eBin dIx (eBin dIx (eVar 0) (eC (.int 1))) (eVar 2)) (tTup [(tName 3), (tName 4)]))
    (gIf (eAnd (eBin dIsNot (eVar 3) (eC .non)) (eBin dEq (eBin dIx (eVar 4) (eBin dSub (eArgs bLen [(eVar 4)]) (eC (.int 1)))) (eC (.str "free")))) (gDrop (eLm lAppend (eVar 1) [(eVar 2)])) gNext)))
    (gRet (eVar 1))))
def m__law_rooms : FF := runB 5 g__law_rooms
theorem ok__law_rooms (T : Txt K mg) : OkF P w K mg base 1 T.f__law_rooms.f T.f__law_rooms.fd ["shape"] m__law_rooms := by
  refine @okS P w K mg base "_law_rooms" "_law_rooms" s__law_rooms T.f__law_rooms.f T.f__law_rooms.fd ["shape", "rooms", "b", "left", "pages"] ["shape"]  0 g__law_rooms T.f__law_rooms.fn sc__law_rooms ?_
  intro cdv A outer s H E hr tk PO
  unfold g__law_rooms
  refine sss_cons ?_ ?_
  · refine ss_set sc__law_rooms.nd rfl (by first | exact Or.inl rfl | exact Or.inr rfl) ?_
    refine se_lst ?_
    exact sa_nil
  · refine sss_cons ?_ ?_
    · refine ss_for (vs := [2]) (wk := false) PO rfl ?_ ?_ ?_
      · refine si_rg1 rfl T.b_range ?_
        refine sa_cons ?_ ?_
        · refine se_callB (call_len) (cs_len) rfl T.b_len rfl ?_
          refine sa_cons ?_ ?_
          · refine se_ix ?_ ?_
            · exact se_var 0
            · exact se_int
          · exact sa_nil
        · exact sa_nil
      · exact sg_name sc__law_rooms.nd rfl (by first | exact Or.inl rfl | exact Or.inr rfl)
      · refine sss_cons ?_ ?_
        · refine ss_asg (vs := [3, 4]) ?_ ?_
          · refine se_ix ?_ ?_
            · refine se_ix ?_ ?_
              · exact se_var 0
              · exact se_int
            · exact se_var 2
          · refine sg_tup rfl ?_
            refine sgs_cons (vs := [3]) (ws := [4]) ?_ ?_
            · exact sg_name sc__law_rooms.nd rfl (by first | exact Or.inl rfl | exact Or.inr rfl)
            · refine sgs_cons (vs := [4]) (ws := []) ?_ ?_
              · exact sg_name sc__law_rooms.nd rfl (by first | exact Or.inl rfl | exact Or.inr rfl)
              · exact sgs_nil
        · refine sss_one ?_
          refine ss_if ?_ ?_ ?_
          · refine SW.st ?_
            refine sw_and ?_ ?_
            · refine st_cmp op_isNot3 os_isNot ?_ ?_ (nomark _)
              · exact se_var 3
              · exact se_non
            · refine sw_and1 ?_
              refine st_cmp (op_eq2 hr.units) os_eq ?_ ?_ (nomark _)
              · refine se_ix ?_ ?_
                · exact se_var 4
                · refine se_op op_sub os_sub ?_ ?_
                  · refine se_callB (call_len) (cs_len) rfl T.b_len rfl ?_
                    refine sa_cons ?_ ?_
                    · exact se_var 4
                    · exact sa_nil
                  · exact se_int
              · exact se_str
          · refine sss_one ?_
            refine ss_expr ?_
            refine se_lm PySem.F.plainAttrs_list PySem.F.slot_list_append PySem.F.type_list_append mt_append ls_append ?_ ?_
            · exact se_var 1
            · refine sa_cons ?_ ?_
              · exact se_var 2
              · exact sa_nil
          · exact sss_nil
    · refine sss_one ?_
      refine ss_ret ?_
      exact se_var 1

theorem sc__law_place : FnScope ["shape", "key", "b", "pages", "p"] ["shape", "key"] (defScope s__law_place) := ⟨rfl, rfl, rfl, by decide +kernel, rfl, by decide +kernel, by decide +kernel⟩
def g__law_place : FS := (gSeq (gFor (fiRg [(eArgs bLen [(eBin dIx (eVar 0) (eC (.int 1)))])]) (tName 2) (gSeq (gSet 3 (eBin dIx (eBin dIx (eBin dIx (eVar 0) (eC (.int 1))) (eVar 2)) (eC (.int 1))))
    (gFor (fiRg [(eArgs bLen [(eVar 3)])]) (tName 4) (gIf (eBin dEq (eBin dIx (eVar 3) (eVar 4)) (eVar 1)) (gRet (eTup [(eVar 2), (eVar 4)])) gNext))))
    (gRet (eC .non)))
def m__law_place : FF := runB 5 g__law_place
theorem ok__law_place (T : Txt K mg) : OkF P w K mg base 1 T.f__law_place.f T.f__law_place.fd ["shape", "key"] m__law_place := by
  refine @okS P w K mg base "_law_place" "_law_place" s__law_place T.f__law_place.f T.f__law_place.fd ["shape", "key", "b", "pages", "p"] ["shape", "key"]  0 g__law_place T.f__law_place.fn sc__law_place ?_
  intro cdv A outer s H E hr tk PO
  unfold g__law_place
  refine sss_cons ?_ ?_
  · refine ss_for (vs := [2]) (wk := false) PO rfl ?_ ?_ ?_
    · refine si_rg1 rfl T.b_range ?_
      refine sa_cons ?_ ?_
      · refine se_callB (call_len) (cs_len) rfl T.b_len rfl ?_
        refine sa_cons ?_ ?_
        · refine se_ix ?_ ?_
          · exact se_var 0
          · exact se_int
        · exact sa_nil
      · exact sa_nil
    · exact sg_name sc__law_place.nd rfl (by first | exact Or.inl rfl | exact Or.inr rfl)
    · refine sss_cons ?_ ?_
      · refine ss_set sc__law_place.nd rfl (by first | exact Or.inl rfl | exact Or.inr rfl) ?_
        refine se_ix ?_ ?_
        · refine se_ix ?_ ?_
          · refine se_ix ?_ ?_
            · exact se_var 0
            · exact se_int
          · exact se_var 2
        · exact se_int
      · refine sss_one ?_
        refine ss_for (vs := [4]) (wk := false) PO rfl ?_ ?_ ?_
        · refine si_rg1 rfl T.b_range ?_
          refine sa_cons ?_ ?_
          · refine se_callB (call_len) (cs_len) rfl T.b_len rfl ?_
            refine sa_cons ?_ ?_
            · exact se_var 3
            · exact sa_nil
          · exact sa_nil
        · exact sg_name sc__law_place.nd rfl (by first | exact Or.inl rfl | exact Or.inr rfl)
        · refine sss_one ?_
          refine ss_if ?_ ?_ ?_
          · refine st_cmp (op_eq2 hr.units) os_eq ?_ ?_ (nomark _)
            · refine se_ix ?_ ?_
              · exact se_var 3
              · exact se_var 4
            · exact se_var 1
          · refine sss_one ?_
            refine ss_ret ?_
            refine se_tup ?_
            refine sa_cons ?_ ?_
            · exact se_var 2
            · refine sa_cons ?_ ?_
              · exact se_var 4
              · exact sa_nil
          · exact sss_nil
  · refine sss_one ?_
    refine ss_ret ?_
    exact se_non

theorem sc__law_erasable : FnScope ["block", "left", "pages", "used", "page"] ["block"] (defScope s__law_erasable) := ⟨rfl, rfl, rfl, by decide +kernel, rfl, by decide +kernel, by decide +kernel⟩
def g__law_erasable : FS := (gSeq (gAsg (eVar 0) (tTup [(tName 1), (tName 2)]))
    (gSeq (gIf (eOr (eBin dIs (eVar 1) (eC .non)) (eBin dEq (eVar 1) (eC (.int 0)))) (gRet (eC (.bl false))) gNext)
    (gSeq (gSet 3 (eLc (fiSeq (eVar 2)) (tName 4) (eBin dNe (eVar 4) (eC (.str "free"))) (eVar 4) [4]))
    (gRet (eAnd (eBin (dCmp fun i j => decide (j < i)) (eArgs bLen [(eVar 3)]) (eC (.int 0))) (eBin dEq (eVar 3) (eBin dMul (eLst [(eC (.str "old"))]) (eArgs bLen [(eVar 3)]))))))))
def m__law_erasable : FF := runB 5 g__law_erasable
theorem ok__law_erasable (T : Txt K mg) : OkF P w K mg base 1 T.f__law_erasable.f T.f__law_erasable.fd ["block"] m__law_erasable := by
  refine @okS P w K mg base "_law_erasable" "_law_erasable" s__law_erasable T.f__law_erasable.f T.f__law_erasable.fd ["block", "left", "pages", "used", "page"] ["block"]  0 g__law_erasable T.f__law_erasable.fn sc__law_erasable ?_
  intro cdv A outer s H E hr tk PO
  unfold g__law_erasable
  refine sss_cons ?_ ?_
  · refine ss_asg (vs := [1, 2]) ?_ ?_
    · exact se_var 0
    · refine sg_tup rfl ?_
      refine sgs_cons (vs := [1]) (ws := [2]) ?_ ?_
      · exact sg_name sc__law_erasable.nd rfl (by first | exact Or.inl rfl | exact Or.inr rfl)
      · refine sgs_cons (vs := [2]) (ws := []) ?_ ?_
        · exact sg_name sc__law_erasable.nd rfl (by first | exact Or.inl rfl | exact Or.inr rfl)
        · exact sgs_nil
  · refine sss_cons ?_ ?_
    · refine ss_if ?_ ?_ ?_
      · refine SW.st ?_
        refine sw_or ?_ ?_
        · refine st_cmp op_is3 os_is ?_ ?_ (nomark _)
          · exact se_var 1
          · exact se_non
        · refine sw_or1 ?_
          refine st_cmp (op_eq2 hr.units) os_eq ?_ ?_ (nomark _)
          · exact se_var 1
          · exact se_int
      · refine sss_one ?_
        refine ss_ret ?_
        exact se_bl
      · exact sss_nil
    · refine sss_cons ?_ ?_
      · refine ss_setLc (own := [("page", 4)]) (vs := [4]) (wk := false) rfl sc__law_erasable.nd rfl rfl rfl ?_ (show BlkOk ["block", "left", "pages", "used", "page"] (defScope s__law_erasable) _ _ from ⟨rfl, by decide +kernel, by decide +kernel, by decide +kernel, by decide +kernel⟩) (fun _ _ _ _ _ => ?_) (fun _ _ _ _ _ => ?_) (fun _ _ _ _ _ => ?_)
        · refine si_seq ?_
          exact se_var 2
        · exact sg_name sc__law_erasable.nd rfl (by first | exact Or.inl rfl | exact Or.inr rfl)
        · refine sts_one ?_
          refine st_cmp (op_ne2 hr.units) os_ne ?_ ?_ (nomark _)
          · exact se_var 4
          · exact se_str
        · exact se_var 4
      · refine sss_one ?_
        refine ss_ret ?_
        refine se_and ?_ ?_
        · refine se_cmp op_gt os_cmp ?_ ?_ (nomark _)
          · refine se_callB (call_len) (cs_len) rfl T.b_len rfl ?_
            refine sa_cons ?_ ?_
            · exact se_var 3
            · exact sa_nil
          · exact se_int
        · refine se_one ?_
          refine se_cmp (op_eq2 hr.units) os_eq ?_ ?_ (nomark _)
          · exact se_var 3
          · refine se_op op_mul2 os_mul ?_ ?_
            · refine se_lst ?_
              refine sa_cons ?_ ?_
              · exact se_str
              · exact sa_nil
            · refine se_callB (call_len) (cs_len) rfl T.b_len rfl ?_
              refine sa_cons ?_ ?_
              · exact se_var 3
              · exact sa_nil

theorem sc__law_acts : FnScope ["shape", "rooms", "acts", "key", "place", "b"] ["shape"] (defScope s__law_acts) := ⟨rfl, rfl, rfl, by decide +kernel, rfl, by decide +kernel, by decide +kernel⟩
def g__law_acts : FS := (gSeq (gIf (eBin dIs (eBin dIx (eVar 0) (eC (.int 4))) (eC .non)) (gRet (eLst [])) gNext)
    (gSeq (gSet 1 (eArgs m__law_rooms [(eVar 0)]))
    (gSeq (gSet 2 (eLc (fiSeq (eVar 1)) (tName 5) (eC (.bl true)) (eTup [(eC (.str "write")), (eVar 5)]) [5]))
    (gSeq (gFor (fiRg [(eBin dIx (eVar 0) (eC (.int 0)))]) (tName 3) (gSeq (gSet 4 (eArgs m__law_place [(eVar 0), (eVar 3)]))
    (gFor (fiSeq (eVar 1)) (tName 5) (gIf (eAnd (eBin dIsNot (eVar 4) (eC .non)) (eBin dNe (eBin dIx (eVar 4) (eC (.int 0))) (eVar 5))) (gDrop (eLm lAppend (eVar 2) [(eTup [(eC (.str "copy")), (eVar 3), (eVar 5)])])) gNext))))
    (gSeq (gFor (fiRg [(eArgs bLen [(eBin dIx (eVar 0) (eC (.int 1)))])]) (tName 5) (gIf (eArgs m__law_erasable [(eBin dIx (eBin dIx (eVar 0) (eC (.int 1))) (eVar 5))]) (gDrop (eLm lAppend (eVar 2) [(eTup [(eC (.str "erase")), (eVar 5)])])) gNext))
    (gRet (eVar 2)))))))
def m__law_acts : FF := runB 6 g__law_acts
theorem ok__law_acts (T : Txt K mg) : OkF P w K mg base 2 T.f__law_acts.f T.f__law_acts.fd ["shape"] m__law_acts := by
  refine @okS P w K mg base "_law_acts" "_law_acts" s__law_acts T.f__law_acts.f T.f__law_acts.fd ["shape", "rooms", "acts", "key", "place", "b"] ["shape"]  1 g__law_acts T.f__law_acts.fn sc__law_acts ?_
  intro cdv A outer s H E hr tk PO
  unfold g__law_acts
  refine sss_cons ?_ ?_
  · refine ss_if ?_ ?_ ?_
    · refine st_cmp op_is3 os_is ?_ ?_ (nomark _)
      · refine se_ix ?_ ?_
        · exact se_var 0
        · exact se_int
      · exact se_non
    · refine sss_one ?_
      refine ss_ret ?_
      refine se_lst ?_
      exact sa_nil
    · exact sss_nil
  · refine sss_cons ?_ ?_
    · refine ss_set sc__law_acts.nd rfl (by first | exact Or.inl rfl | exact Or.inr rfl) ?_
      refine se_callA T.f__law_rooms (ok__law_rooms T) tk (hr.mono (by decide)) rfl ?_
      refine sa_cons ?_ ?_
      · exact se_var 0
      · exact sa_nil
    · refine sss_cons ?_ ?_
      · refine ss_setLc (own := [("b", 5)]) (vs := [5]) (wk := false) rfl sc__law_acts.nd rfl rfl rfl ?_ (show BlkOk ["shape", "rooms", "acts", "key", "place", "b"] (defScope s__law_acts) _ _ from ⟨rfl, by decide +kernel, by decide +kernel, by decide +kernel, by decide +kernel⟩) (fun _ _ _ _ _ => ?_) (fun _ _ _ _ _ => ?_) (fun _ _ _ _ _ => ?_)
        · refine si_seq ?_
          exact se_var 1
        · exact sg_name sc__law_acts.nd rfl (by first | exact Or.inl rfl | exact Or.inr rfl)
        · exact sts_nil
        · refine se_tup ?_
          refine sa_cons ?_ ?_
          · exact se_str
          · refine sa_cons ?_ ?_
            · exact se_var 5
            · exact sa_nil
      · refine sss_cons ?_ ?_
        · refine ss_for (vs := [3]) (wk := false) PO rfl ?_ ?_ ?_
          · refine si_rg1 rfl T.b_range ?_
            refine sa_cons ?_ ?_
            · refine se_ix ?_ ?_
              · exact se_var 0
              · exact se_int
            · exact sa_nil
          · exact sg_name sc__law_acts.nd rfl (by first | exact Or.inl rfl | exact Or.inr rfl)
          · refine sss_cons ?_ ?_
            · refine ss_set sc__law_acts.nd rfl (by first | exact Or.inl rfl | exact Or.inr rfl) ?_
              refine se_callA T.f__law_place (ok__law_place T) tk (hr.mono (by decide)) rfl ?_
              refine sa_cons ?_ ?_
              · exact se_var 0
              · refine sa_cons ?_ ?_
                · exact se_var 3
                · exact sa_nil
            · refine sss_one ?_
              refine ss_for (vs := [5]) (wk := false) PO rfl ?_ ?_ ?_
              · refine si_seq ?_
                exact se_var 1
              · exact sg_name sc__law_acts.nd rfl (by first | exact Or.inl rfl | exact Or.inr rfl)
              · refine sss_one ?_
                refine ss_if ?_ ?_ ?_
                · refine SW.st ?_
                  refine sw_and ?_ ?_
                  · refine st_cmp op_isNot3 os_isNot ?_ ?_ (nomark _)
                    · exact se_var 4
                    · exact se_non
                  · refine sw_and1 ?_
                    refine st_cmp (op_ne2 hr.units) os_ne ?_ ?_ (nomark _)
                    · refine se_ix ?_ ?_
                      · exact se_var 4
                      · exact se_int
                    · exact se_var 5
                · refine sss_one ?_
                  refine ss_expr ?_
                  refine se_lm PySem.F.plainAttrs_list PySem.F.slot_list_append PySem.F.type_list_append mt_append ls_append ?_ ?_
                  · exact se_var 2
                  · refine sa_cons ?_ ?_
                    · refine se_tup ?_
                      refine sa_cons ?_ ?_
                      · exact se_str
                      · refine sa_cons ?_ ?_
                        · exact se_var 3
                        · refine sa_cons ?_ ?_
                          · exact se_var 5
                          · exact sa_nil
                    · exact sa_nil
                · exact sss_nil
        · refine sss_cons ?_ ?_
          · refine ss_for (vs := [5]) (wk := false) PO rfl ?_ ?_ ?_
            · refine si_rg1 rfl T.b_range ?_
              refine sa_cons ?_ ?_
              · refine se_callB (call_len) (cs_len) rfl T.b_len rfl ?_
                refine sa_cons ?_ ?_
                · refine se_ix ?_ ?_
                  · exact se_var 0
                  · exact se_int
                · exact sa_nil
              · exact sa_nil
            · exact sg_name sc__law_acts.nd rfl (by first | exact Or.inl rfl | exact Or.inr rfl)
            · refine sss_one ?_
              refine ss_if ?_ ?_ ?_
              · refine st_val ?_
                refine se_callA T.f__law_erasable (ok__law_erasable T) tk (hr.mono (by decide)) rfl ?_
                refine sa_cons ?_ ?_
                · refine se_ix ?_ ?_
                  · refine se_ix ?_ ?_
                    · exact se_var 0
                    · exact se_int
                  · exact se_var 5
                · exact sa_nil
              · refine sss_one ?_
                refine ss_expr ?_
                refine se_lm PySem.F.plainAttrs_list PySem.F.slot_list_append PySem.F.type_list_append mt_append ls_append ?_ ?_
                · exact se_var 2
                · refine sa_cons ?_ ?_
                  · refine se_tup ?_
                    refine sa_cons ?_ ?_
                    · exact se_str
                    · refine sa_cons ?_ ?_
                      · exact se_var 5
                      · exact sa_nil
                  · exact sa_nil
              · exact sss_nil
          · refine sss_one ?_
            refine ss_ret ?_
            exact se_var 2

theorem sc_Stand_asked : FnScope ["self"] ["self"] (defScope s_Stand_asked) := ⟨rfl, rfl, rfl, by decide +kernel, rfl, by decide +kernel, by decide +kernel⟩
def g_Stand_asked : FS := (gRet (eBin dIx (eFld "Stand" "_shape" (eVar 0)) (eC (.int 4))))
def m_Stand_asked : FF := runB 1 g_Stand_asked
theorem ok_Stand_asked (T : Txt K mg) : OkF P w K mg base 1 T.f_Stand_asked.f T.f_Stand_asked.fd ["self"] m_Stand_asked := by
  refine @okS P w K mg base "asked" "Stand.asked" s_Stand_asked T.f_Stand_asked.f T.f_Stand_asked.fd ["self"] ["self"]  0 g_Stand_asked T.f_Stand_asked.fn sc_Stand_asked ?_
  intro cdv A outer s H E hr tk PO
  unfold g_Stand_asked
  refine sss_one ?_
  refine ss_ret ?_
  refine se_ix ?_ ?_
  · refine se_fld ?_ T.k_Stand.g T.k_Stand.cl T.na_Stand__shape
    exact se_var 0
  · exact se_int

theorem sc_Stand_many : FnScope ["self"] ["self"] (defScope s_Stand_many) := ⟨rfl, rfl, rfl, by decide +kernel, rfl, by decide +kernel, by decide +kernel⟩
def g_Stand_many : FS := (gRet (eBin dIx (eFld "Stand" "_shape" (eVar 0)) (eC (.int 0))))
def m_Stand_many : FF := runB 1 g_Stand_many
theorem ok_Stand_many (T : Txt K mg) : OkF P w K mg base 1 T.f_Stand_many.f T.f_Stand_many.fd ["self"] m_Stand_many := by
  refine @okS P w K mg base "many" "Stand.many" s_Stand_many T.f_Stand_many.f T.f_Stand_many.fd ["self"] ["self"]  0 g_Stand_many T.f_Stand_many.fn sc_Stand_many ?_
  intro cdv A outer s H E hr tk PO
  unfold g_Stand_many
  refine sss_one ?_
  refine ss_ret ?_
  refine se_ix ?_ ?_
  · refine se_fld ?_ T.k_Stand.g T.k_Stand.cl T.na_Stand__shape
    exact se_var 0
  · exact se_int

theorem sc_Stand_where : FnScope ["self", "key"] ["self", "key"] (defScope s_Stand_where) := ⟨rfl, rfl, rfl, by decide +kernel, rfl, by decide +kernel, by decide +kernel⟩
def g_Stand_where : FS := (gSeq (gIf (eNot (eArgs m_is_key [(eVar 1), (eMeth "Stand" "many" m_Stand_many (eVar 0) [])])) (gRaise "NoKey") gNext)
    (gRet (eDget1 (eArgs m_places [(eBin dIx (eFld "Stand" "_shape" (eVar 0)) (eC (.int 1)))]) (eVar 1))))
def m_Stand_where : FF := runB 2 g_Stand_where
theorem ok_Stand_where (T : Txt K mg) : OkF P w K mg base 3 T.f_Stand_where.f T.f_Stand_where.fd ["self", "key"] m_Stand_where := by
  refine @okS P w K mg base "where" "Stand.where" s_Stand_where T.f_Stand_where.f T.f_Stand_where.fd ["self", "key"] ["self", "key"]  2 g_Stand_where T.f_Stand_where.fn sc_Stand_where ?_
  intro cdv A outer s H E hr tk PO
  unfold g_Stand_where
  refine sss_cons ?_ ?_
  · refine ss_if ?_ ?_ ?_
    · refine st_not ?_
      refine st_val ?_
      refine se_callA T.f_is_key (ok_is_key T) tk (hr.mono (by decide)) rfl ?_
      refine sa_cons ?_ ?_
      · exact se_var 1
      · refine sa_cons ?_ ?_
        · refine se_methA0 (C := T.k_Stand) T.f_Stand_many (ok_Stand_many T) tk (hr.mono (by decide)) ?_
          exact se_var 0
        · exact sa_nil
    · refine sss_one ?_
      exact ss_raise rfl tk T.e_NoKey.t rfl
    · exact sss_nil
  · refine sss_one ?_
    refine ss_ret ?_
    refine se_dget1 hr ?_ ?_ ⟨rfl, rfl, rfl, rfl⟩
    · refine se_callA T.f_places (ok_places T) tk (hr.mono (by decide)) rfl ?_
      refine sa_cons ?_ ?_
      · refine se_ix ?_ ?_
        · refine se_fld ?_ T.k_Stand.g T.k_Stand.cl T.na_Stand__shape
          exact se_var 0
        · exact se_int
      · exact sa_nil
    · exact se_var 1

theorem sc__law_agrees : FnScope ["stand", "shape", "key"] ["stand", "shape"] (defScope s__law_agrees) := ⟨rfl, rfl, rfl, by decide +kernel, rfl, by decide +kernel, by decide +kernel⟩
def g__law_agrees : FS := (gSeq (gIf (eOr (eNot (eArgs (m__law_same 8) [(eMeth "Stand" "shape" m_Stand_shape (eVar 0) []), (eVar 1)])) (eNot (eArgs (m__law_same 8) [(eMeth "Stand" "acts" m_Stand_acts (eVar 0) []), (eArgs m__law_acts [(eVar 1)])]))) (gRet (eC (.bl false))) gNext)
    (gSeq (gIf (eNot (eArgs (m__law_same 8) [(eMeth "Stand" "asked" m_Stand_asked (eVar 0) []), (eBin dIx (eVar 1) (eC (.int 4)))])) (gRet (eC (.bl false))) gNext)
    (gSeq (gFor (fiRg [(eBin dIx (eVar 1) (eC (.int 0)))]) (tName 2) (gIf (eNot (eArgs (m__law_same 8) [(eMeth "Stand" "where" m_Stand_where (eVar 0) [(eVar 2)]), (eArgs m__law_place [(eVar 1), (eVar 2)])])) (gRet (eC (.bl false))) gNext))
    (gRet (eC (.bl true))))))
def m__law_agrees : FF := runB 3 g__law_agrees
theorem ok__law_agrees (T : Txt K mg) : OkF P w K mg base 10 T.f__law_agrees.f T.f__law_agrees.fd ["stand", "shape"] m__law_agrees := by
  refine @okS P w K mg base "_law_agrees" "_law_agrees" s__law_agrees T.f__law_agrees.f T.f__law_agrees.fd ["stand", "shape", "key"] ["stand", "shape"]  9 g__law_agrees T.f__law_agrees.fn sc__law_agrees ?_
  intro cdv A outer s H E hr tk PO
  unfold g__law_agrees
  refine sss_cons ?_ ?_
  · refine ss_if ?_ ?_ ?_
    · refine SW.st ?_
      refine sw_or ?_ ?_
      · refine st_not ?_
        refine st_val ?_
        refine se_callA T.f__law_same (ok__law_same T 8) tk (hr.mono (by decide)) rfl ?_
        refine sa_cons ?_ ?_
        · refine se_methA0 (C := T.k_Stand) T.f_Stand_shape (ok_Stand_shape T) tk (hr.mono (by decide)) ?_
          exact se_var 0
        · refine sa_cons ?_ ?_
          · exact se_var 1
          · exact sa_nil
      · refine sw_or1 ?_
        refine st_not ?_
        refine st_val ?_
        refine se_callA T.f__law_same (ok__law_same T 8) tk (hr.mono (by decide)) rfl ?_
        refine sa_cons ?_ ?_
        · refine se_methA0 (C := T.k_Stand) T.f_Stand_acts (ok_Stand_acts T) tk (hr.mono (by decide)) ?_
          exact se_var 0
        · refine sa_cons ?_ ?_
          · refine se_callA T.f__law_acts (ok__law_acts T) tk (hr.mono (by decide)) rfl ?_
            refine sa_cons ?_ ?_
            · exact se_var 1
            · exact sa_nil
          · exact sa_nil
    · refine sss_one ?_
      refine ss_ret ?_
      exact se_bl
    · exact sss_nil
  · refine sss_cons ?_ ?_
    · refine ss_if ?_ ?_ ?_
      · refine st_not ?_
        refine st_val ?_
        refine se_callA T.f__law_same (ok__law_same T 8) tk (hr.mono (by decide)) rfl ?_
        refine sa_cons ?_ ?_
        · refine se_methA0 (C := T.k_Stand) T.f_Stand_asked (ok_Stand_asked T) tk (hr.mono (by decide)) ?_
          exact se_var 0
        · refine sa_cons ?_ ?_
          · refine se_ix ?_ ?_
            · exact se_var 1
            · exact se_int
          · exact sa_nil
      · refine sss_one ?_
        refine ss_ret ?_
        exact se_bl
      · exact sss_nil
    · refine sss_cons ?_ ?_
      · refine ss_for (vs := [2]) (wk := false) PO rfl ?_ ?_ ?_
        · refine si_rg1 rfl T.b_range ?_
          refine sa_cons ?_ ?_
          · refine se_ix ?_ ?_
            · exact se_var 1
            · exact se_int
          · exact sa_nil
        · exact sg_name sc__law_agrees.nd rfl (by first | exact Or.inl rfl | exact Or.inr rfl)
        · refine sss_one ?_
          refine ss_if ?_ ?_ ?_
          · refine st_not ?_
            refine st_val ?_
            refine se_callA T.f__law_same (ok__law_same T 8) tk (hr.mono (by decide)) rfl ?_
            refine sa_cons ?_ ?_
            · refine se_methA (C := T.k_Stand) T.f_Stand_where (ok_Stand_where T) tk (hr.mono (by decide)) ?_ ?_
              · exact se_var 0
              · refine sa_cons ?_ ?_
                · exact se_var 2
                · exact sa_nil
            · refine sa_cons ?_ ?_
              · refine se_callA T.f__law_place (ok__law_place T) tk (hr.mono (by decide)) rfl ?_
                refine sa_cons ?_ ?_
                · exact se_var 1
                · refine sa_cons ?_ ?_
                  · exact se_var 2
                  · exact sa_nil
              · exact sa_nil
          · refine sss_one ?_
            refine ss_ret ?_
            exact se_bl
          · exact sss_nil
      · refine sss_one ?_
        refine ss_ret ?_
        exact se_bl

theorem sc__law_replies : FnScope ["shape", "replies"] ["shape"] (defScope s__law_replies) := ⟨rfl, rfl, rfl, by decide +kernel, rfl, by decide +kernel, by decide +kernel⟩
def g__law_replies : FS := (gSeq (gSet 1 (eLst [(eC (.str "done"))]))
    (gSeq (gIf (eBin (dCmp fun i j => decide (j < i)) (eBin dIx (eVar 0) (eC (.int 2))) (eC (.int 0))) (gDrop (eLm lAppend (eVar 1) [(eC (.str "bad"))])) gNext)
    (gSeq (gIf (eBin (dCmp fun i j => decide (j < i)) (eBin dIx (eVar 0) (eC (.int 3))) (eC (.int 0))) (gSet 1 (eBin dAdd (eVar 1) (eLst [(eC (.str "cut")), (eC (.str "late"))]))) gNext)
    (gRet (eVar 1)))))
def m__law_replies : FF := runB 2 g__law_replies
theorem ok__law_replies (T : Txt K mg) : OkF P w K mg base 1 T.f__law_replies.f T.f__law_replies.fd ["shape"] m__law_replies := by
  refine @okS P w K mg base "_law_replies" "_law_replies" s__law_replies T.f__law_replies.f T.f__law_replies.fd ["shape", "replies"] ["shape"]  0 g__law_replies T.f__law_replies.fn sc__law_replies ?_
  intro cdv A outer s H E hr tk PO
  unfold g__law_replies
  refine sss_cons ?_ ?_
  · refine ss_set sc__law_replies.nd rfl (by first | exact Or.inl rfl | exact Or.inr rfl) ?_
    refine se_lst ?_
    refine sa_cons ?_ ?_
    · exact se_str
    · exact sa_nil
  · refine sss_cons ?_ ?_
    · refine ss_if ?_ ?_ ?_
      · refine st_cmp op_gt os_cmp ?_ ?_ (nomark _)
        · refine se_ix ?_ ?_
          · exact se_var 0
          · exact se_int
        · exact se_int
      · refine sss_one ?_
        refine ss_expr ?_
        refine se_lm PySem.F.plainAttrs_list PySem.F.slot_list_append PySem.F.type_list_append mt_append ls_append ?_ ?_
        · exact se_var 1
        · refine sa_cons ?_ ?_
          · exact se_str
          · exact sa_nil
      · exact sss_nil
    · refine sss_cons ?_ ?_
      · refine ss_if ?_ ?_ ?_
        · refine st_cmp op_gt os_cmp ?_ ?_ (nomark _)
          · refine se_ix ?_ ?_
            · exact se_var 0
            · exact se_int
          · exact se_int
        · refine sss_one ?_
          refine ss_set sc__law_replies.nd rfl (by first | exact Or.inl rfl | exact Or.inr rfl) ?_
          refine se_op op_add4 os_add ?_ ?_
          · exact se_var 1
          · refine se_lst ?_
            refine sa_cons ?_ ?_
            · exact se_str
            · refine sa_cons ?_ ?_
              · exact se_str
              · exact sa_nil
        · exact sss_nil
      · refine sss_one ?_
        refine ss_ret ?_
        exact se_var 1

theorem sc__law_choice : FnScope ["shape", "cell", "acts", "digits", "writes", "act", "replies"] ["shape", "cell"] (defScope s__law_choice) := ⟨rfl, rfl, rfl, by decide +kernel, rfl, by decide +kernel, by decide +kernel⟩
def g__law_choice : FS := (gSeq (gIf (eBin dIs (eBin dIx (eVar 0) (eC (.int 4))) (eC .non)) (gRet (eBin dIx (eArgs m__law_digits [(eVar 1), (eLst [(eBin dIx (eVar 0) (eC (.int 0)))])]) (eC (.int 0)))) gNext)
    (gSeq (gSet 2 (eArgs m__law_acts [(eVar 0)]))
    (gSeq (gIf (eBin dEq (eArgs bLen [(eVar 2)]) (eC (.int 0))) (gRet (eC .non)) gNext)
    (gSeq (gSet 3 (eArgs m__law_digits [(eVar 1), (eLst [(eC (.int 3)), (eArgs bLen [(eVar 2)]), (eC (.int 7))])]))
    (gSeq (gSet 4 (eLc (fiSeq (eVar 2)) (tName 5) (eBin dEq (eBin dIx (eVar 5) (eC (.int 0))) (eC (.str "write"))) (eVar 5) [5]))
    (gSeq (gSet 5 (eBin dIx (eVar 2) (eBin dIx (eVar 3) (eC (.int 1)))))
    (gSeq (gIf (eAnd (eBin dEq (eBin dIx (eVar 3) (eC (.int 0))) (eC (.int 0))) (eBin (dCmp fun i j => decide (j < i)) (eArgs bLen [(eVar 4)]) (eC (.int 0)))) (gSet 5 (eBin dIx (eVar 4) (eBin dMod (eArgs bInt [(eBin dIx (eVar 3) (eC (.int 1)))]) (eArgs bLen [(eVar 4)])))) gNext)
    (gSeq (gSet 6 (eArgs m__law_replies [(eVar 0)]))
    (gSeq (gIf (eBin (dCmp fun i j => decide (i < j)) (eBin dIx (eVar 3) (eC (.int 2))) (eC (.int 3))) (gRet (eTup [(eVar 5), (eC (.str "done"))])) gNext)
    (gRet (eTup [(eVar 5), (eBin dIx (eVar 6) (eBin dMod (eArgs bInt [(eBin dIx (eVar 3) (eC (.int 2)))]) (eArgs bLen [(eVar 6)])))])))))))))))
def m__law_choice : FF := runB 7 g__law_choice
theorem ok__law_choice (T : Txt K mg) : OkF P w K mg base 3 T.f__law_choice.f T.f__law_choice.fd ["shape", "cell"] m__law_choice := by
  refine @okS P w K mg base "_law_choice" "_law_choice" s__law_choice T.f__law_choice.f T.f__law_choice.fd ["shape", "cell", "acts", "digits", "writes", "act", "replies"] ["shape", "cell"]  2 g__law_choice T.f__law_choice.fn sc__law_choice ?_
  intro cdv A outer s H E hr tk PO
  unfold g__law_choice
  refine sss_cons ?_ ?_
  · refine ss_if ?_ ?_ ?_
    · refine st_cmp op_is3 os_is ?_ ?_ (nomark _)
      · refine se_ix ?_ ?_
        · exact se_var 0
        · exact se_int
      · exact se_non
    · refine sss_one ?_
      refine ss_ret ?_
      refine se_ix ?_ ?_
      · refine se_callA T.f__law_digits (ok__law_digits T) tk (hr.mono (by decide)) rfl ?_
        refine sa_cons ?_ ?_
        · exact se_var 1
        · refine sa_cons ?_ ?_
          · refine se_lst ?_
            refine sa_cons ?_ ?_
            · refine se_ix ?_ ?_
              · exact se_var 0
              · exact se_int
            · exact sa_nil
          · exact sa_nil
      · exact se_int
    · exact sss_nil
  · refine sss_cons ?_ ?_
    · refine ss_set sc__law_choice.nd rfl (by first | exact Or.inl rfl | exact Or.inr rfl) ?_
      refine se_callA T.f__law_acts (ok__law_acts T) tk (hr.mono (by decide)) rfl ?_
      refine sa_cons ?_ ?_
      · exact se_var 0
      · exact sa_nil
    · refine sss_cons ?_ ?_
      · refine ss_if ?_ ?_ ?_
        · refine st_cmp (op_eq2 hr.units) os_eq ?_ ?_ (nomark _)
          · refine se_callB (call_len) (cs_len) rfl T.b_len rfl ?_
            refine sa_cons ?_ ?_
            · exact se_var 2
            · exact sa_nil
          · exact se_int
        · refine sss_one ?_
          refine ss_ret ?_
          exact se_non
        · exact sss_nil
      · refine sss_cons ?_ ?_
        · refine ss_set sc__law_choice.nd rfl (by first | exact Or.inl rfl | exact Or.inr rfl) ?_
          refine se_callA T.f__law_digits (ok__law_digits T) tk (hr.mono (by decide)) rfl ?_
          refine sa_cons ?_ ?_
          · exact se_var 1
          · refine sa_cons ?_ ?_
            · refine se_lst ?_
              refine sa_cons ?_ ?_
              · exact se_int
              · refine sa_cons ?_ ?_
                · refine se_callB (call_len) (cs_len) rfl T.b_len rfl ?_
                  refine sa_cons ?_ ?_
                  · exact se_var 2
                  · exact sa_nil
                · refine sa_cons ?_ ?_
                  · exact se_int
                  · exact sa_nil
            · exact sa_nil
        · refine sss_cons ?_ ?_
          · refine ss_setLc (own := [("act", 5)]) (vs := [5]) (wk := false) rfl sc__law_choice.nd rfl rfl rfl ?_ (show BlkOk ["shape", "cell", "acts", "digits", "writes", "act", "replies"] (defScope s__law_choice) _ _ from ⟨rfl, by decide +kernel, by decide +kernel, by decide +kernel, by decide +kernel⟩) (fun _ _ _ _ _ => ?_) (fun _ _ _ _ _ => ?_) (fun _ _ _ _ _ => ?_)
            · refine si_seq ?_
              exact se_var 2
            · exact sg_name sc__law_choice.nd rfl (by first | exact Or.inl rfl | exact Or.inr rfl)
            · refine sts_one ?_
              refine st_cmp (op_eq2 hr.units) os_eq ?_ ?_ (nomark _)
              · refine se_ix ?_ ?_
                · exact se_var 5
                · exact se_int
              · exact se_str
            · exact se_var 5
          · refine sss_cons ?_ ?_
            · refine ss_set sc__law_choice.nd rfl (by first | exact Or.inl rfl | exact Or.inr rfl) ?_
              refine se_ix ?_ ?_
              · exact se_var 2
              · refine se_ix ?_ ?_
                · exact se_var 3
                · exact se_int
            · refine sss_cons ?_ ?_
              · refine ss_if ?_ ?_ ?_
                · refine SW.st ?_
                  refine sw_and ?_ ?_
                  · refine st_cmp (op_eq2 hr.units) os_eq ?_ ?_ (nomark _)
                    · refine se_ix ?_ ?_
                      · exact se_var 3
                      · exact se_int
                    · exact se_int
                  · refine sw_and1 ?_
                    refine st_cmp op_gt os_cmp ?_ ?_ (nomark _)
                    · refine se_callB (call_len) (cs_len) rfl T.b_len rfl ?_
                      refine sa_cons ?_ ?_
                      · exact se_var 4
                      · exact sa_nil
                    · exact se_int
                · refine sss_one ?_
                  refine ss_set sc__law_choice.nd rfl (by first | exact Or.inl rfl | exact Or.inr rfl) ?_
                  refine se_ix ?_ ?_
                  · exact se_var 4
                  · refine se_op op_mod os_mod ?_ ?_
                    · refine se_callTy (call_int1) (cs_int) rfl T.b_int rfl ?_
                      refine sa_cons ?_ ?_
                      · refine se_ix ?_ ?_
                        · exact se_var 3
                        · exact se_int
                      · exact sa_nil
                    · refine se_callB (call_len) (cs_len) rfl T.b_len rfl ?_
                      refine sa_cons ?_ ?_
                      · exact se_var 4
                      · exact sa_nil
                · exact sss_nil
              · refine sss_cons ?_ ?_
                · refine ss_set sc__law_choice.nd rfl (by first | exact Or.inl rfl | exact Or.inr rfl) ?_
                  refine se_callA T.f__law_replies (ok__law_replies T) tk (hr.mono (by decide)) rfl ?_
                  refine sa_cons ?_ ?_
                  · exact se_var 0
                  · exact sa_nil
                · refine sss_cons ?_ ?_
                  · refine ss_if ?_ ?_ ?_
                    · refine st_cmp op_lt os_cmp ?_ ?_ (nomark _)
                      · refine se_ix ?_ ?_
                        · exact se_var 3
                        · exact se_int
                      · exact se_int
                    · refine sss_one ?_
                      refine ss_ret ?_
                      refine se_tup ?_
                      refine sa_cons ?_ ?_
                      · exact se_var 5
                      · refine sa_cons ?_ ?_
                        · exact se_str
                        · exact sa_nil
                    · exact sss_nil
                  · refine sss_one ?_
                    refine ss_ret ?_
                    refine se_tup ?_
                    refine sa_cons ?_ ?_
                    · exact se_var 5
                    · refine sa_cons ?_ ?_
                      · refine se_ix ?_ ?_
                        · exact se_var 6
                        · refine se_op op_mod os_mod ?_ ?_
                          · refine se_callTy (call_int1) (cs_int) rfl T.b_int rfl ?_
                            refine sa_cons ?_ ?_
                            · refine se_ix ?_ ?_
                              · exact se_var 3
                              · exact se_int
                            · exact sa_nil
                          · refine se_callB (call_len) (cs_len) rfl T.b_len rfl ?_
                            refine sa_cons ?_ ?_
                            · exact se_var 6
                            · exact sa_nil
                      · exact sa_nil

theorem sc_is_act : FnScope ["act", "acts", "part"] ["act", "acts"] (defScope s_is_act) := ⟨rfl, rfl, rfl, by decide +kernel, rfl, by decide +kernel, by decide +kernel⟩
def g_is_act : FS := (gRet (eAnd (eBin dIn (eVar 0) (eVar 1)) (eNot (eArgs bAny [(eLc (fiSeq (eVar 0)) (tName 2) (eC (.bl true)) (eIsi "bool" (eVar 2)) [2])]))))
def m_is_act : FF := runB 3 g_is_act
theorem ok_is_act (T : Txt K mg) : OkF P w K mg base 1 T.f_is_act.f T.f_is_act.fd ["act", "acts"] m_is_act := by
  refine @okS P w K mg base "is_act" "is_act" s_is_act T.f_is_act.f T.f_is_act.fd ["act", "acts", "part"] ["act", "acts"]  0 g_is_act T.f_is_act.fn sc_is_act ?_
  intro cdv A outer s H E hr tk PO
  unfold g_is_act
  refine sss_one ?_
  refine ss_ret ?_
  refine se_and ?_ ?_
  · refine se_cmp (op_in2 (units65 hr)) os_in ?_ ?_ (by with_unfolding_all rfl)
    · exact se_var 0
    · exact se_var 1
  · refine se_one ?_
    refine se_not ?_
    refine se_callB (cr_any rfl) (cs_quant _) rfl T.b_any rfl ?_
    refine sa_cons ?_ ?_
    · refine se_lc (own := [("part", 2)]) (vs := [2]) (wk := false) rfl sc_is_act.nd ?_ (show BlkOk ["act", "acts", "part"] (defScope s_is_act) _ _ from ⟨rfl, by decide +kernel, by decide +kernel, by decide +kernel, by decide +kernel⟩) (fun _ _ _ _ _ => ?_) (fun _ _ _ _ _ => ?_) (fun _ _ _ _ _ => ?_)
      · refine si_seq ?_
        exact se_var 0
      · exact sg_name sc_is_act.nd rfl (by first | exact Or.inl rfl | exact Or.inr rfl)
      · exact sts_nil
      · refine se_isi ?_ rfl T.b_isinstance rfl rfl T.b_bool rfl
        exact se_var 2
    · exact sa_nil

theorem sc_Stand_fails : FnScope ["self"] ["self"] (defScope s_Stand_fails) := ⟨rfl, rfl, rfl, by decide +kernel, rfl, by decide +kernel, by decide +kernel⟩
def g_Stand_fails : FS := (gRet (eBin dIx (eFld "Stand" "_shape" (eVar 0)) (eC (.int 2))))
def m_Stand_fails : FF := runB 1 g_Stand_fails
theorem ok_Stand_fails (T : Txt K mg) : OkF P w K mg base 1 T.f_Stand_fails.f T.f_Stand_fails.fd ["self"] m_Stand_fails := by
  refine @okS P w K mg base "fails" "Stand.fails" s_Stand_fails T.f_Stand_fails.f T.f_Stand_fails.fd ["self"] ["self"]  0 g_Stand_fails T.f_Stand_fails.fn sc_Stand_fails ?_
  intro cdv A outer s H E hr tk PO
  unfold g_Stand_fails
  refine sss_one ?_
  refine ss_ret ?_
  refine se_ix ?_ ?_
  · refine se_fld ?_ T.k_Stand.g T.k_Stand.cl T.na_Stand__shape
    exact se_var 0
  · exact se_int

theorem sc_Stand_cuts : FnScope ["self"] ["self"] (defScope s_Stand_cuts) := ⟨rfl, rfl, rfl, by decide +kernel, rfl, by decide +kernel, by decide +kernel⟩
def g_Stand_cuts : FS := (gRet (eBin dIx (eFld "Stand" "_shape" (eVar 0)) (eC (.int 3))))
def m_Stand_cuts : FF := runB 1 g_Stand_cuts
theorem ok_Stand_cuts (T : Txt K mg) : OkF P w K mg base 1 T.f_Stand_cuts.f T.f_Stand_cuts.fd ["self"] m_Stand_cuts := by
  refine @okS P w K mg base "cuts" "Stand.cuts" s_Stand_cuts T.f_Stand_cuts.f T.f_Stand_cuts.fd ["self"] ["self"]  0 g_Stand_cuts T.f_Stand_cuts.fn sc_Stand_cuts ?_
  intro cdv A outer s H E hr tk PO
  unfold g_Stand_cuts
  refine sss_one ?_
  refine ss_ret ?_
  refine se_ix ?_ ?_
  · refine se_fld ?_ T.k_Stand.g T.k_Stand.cl T.na_Stand__shape
    exact se_var 0
  · exact se_int

theorem sc_let_replies : FnScope ["fails", "cuts", "let"] ["fails", "cuts"] (defScope s_let_replies) := ⟨rfl, rfl, rfl, by decide +kernel, rfl, by decide +kernel, by decide +kernel⟩
def g_let_replies : FS := (gSeq (gSet 2 (eLst [(eC (.str "done"))]))
    (gSeq (gIf (eBin (dCmp fun i j => decide (j < i)) (eVar 0) (eC (.int 0))) (gDrop (eLm lAppend (eVar 2) [(eC (.str "bad"))])) gNext)
    (gSeq (gIf (eBin (dCmp fun i j => decide (j < i)) (eVar 1) (eC (.int 0))) (gDrop (eLm lExtend (eVar 2) [(eLst [(eC (.str "cut")), (eC (.str "late"))])])) gNext)
    (gRet (eVar 2)))))
def m_let_replies : FF := runB 3 g_let_replies
theorem ok_let_replies (T : Txt K mg) : OkF P w K mg base 1 T.f_let_replies.f T.f_let_replies.fd ["fails", "cuts"] m_let_replies := by
  refine @okS P w K mg base "let_replies" "let_replies" s_let_replies T.f_let_replies.f T.f_let_replies.fd ["fails", "cuts", "let"] ["fails", "cuts"]  0 g_let_replies T.f_let_replies.fn sc_let_replies ?_
  intro cdv A outer s H E hr tk PO
  unfold g_let_replies
  refine sss_cons ?_ ?_
  · refine ss_set sc_let_replies.nd rfl (by first | exact Or.inl rfl | exact Or.inr rfl) ?_
    refine se_lst ?_
    refine sa_cons ?_ ?_
    · exact se_str
    · exact sa_nil
  · refine sss_cons ?_ ?_
    · refine ss_if ?_ ?_ ?_
      · refine st_cmp op_gt os_cmp ?_ ?_ (nomark _)
        · exact se_var 0
        · exact se_int
      · refine sss_one ?_
        refine ss_expr ?_
        refine se_lm PySem.F.plainAttrs_list PySem.F.slot_list_append PySem.F.type_list_append mt_append ls_append ?_ ?_
        · exact se_var 2
        · refine sa_cons ?_ ?_
          · exact se_str
          · exact sa_nil
      · exact sss_nil
    · refine sss_cons ?_ ?_
      · refine ss_if ?_ ?_ ?_
        · refine st_cmp op_gt os_cmp ?_ ?_ (nomark _)
          · exact se_var 1
          · exact se_int
        · refine sss_one ?_
          refine ss_expr ?_
          refine se_lm PySem.F.plainAttrs_list PySem.F.slot_list_extend PySem.F.type_list_extend mt_extend ls_extend ?_ ?_
          · exact se_var 2
          · refine sa_cons ?_ ?_
            · refine se_lst ?_
              refine sa_cons ?_ ?_
              · exact se_str
              · refine sa_cons ?_ ?_
                · exact se_str
                · exact sa_nil
            · exact sa_nil
        · exact sss_nil
      · refine sss_one ?_
        refine ss_ret ?_
        exact se_var 2

theorem sc_Stand_replies : FnScope ["self", "act"] ["self", "act"] (defScope s_Stand_replies) := ⟨rfl, rfl, rfl, by decide +kernel, rfl, by decide +kernel, by decide +kernel⟩
def g_Stand_replies : FS := (gSeq (gIf (eNot (eArgs m_is_act [(eVar 1), (eMeth "Stand" "acts" m_Stand_acts (eVar 0) [])])) (gRaise "NoAct") gNext)
    (gRet (eArgs m_let_replies [(eMeth "Stand" "fails" m_Stand_fails (eVar 0) []), (eMeth "Stand" "cuts" m_Stand_cuts (eVar 0) [])])))
def m_Stand_replies : FF := runB 2 g_Stand_replies
theorem ok_Stand_replies (T : Txt K mg) : OkF P w K mg base 6 T.f_Stand_replies.f T.f_Stand_replies.fd ["self", "act"] m_Stand_replies := by
  refine @okS P w K mg base "replies" "Stand.replies" s_Stand_replies T.f_Stand_replies.f T.f_Stand_replies.fd ["self", "act"] ["self", "act"]  5 g_Stand_replies T.f_Stand_replies.fn sc_Stand_replies ?_
  intro cdv A outer s H E hr tk PO
  unfold g_Stand_replies
  refine sss_cons ?_ ?_
  · refine ss_if ?_ ?_ ?_
    · refine st_not ?_
      refine st_val ?_
      refine se_callA T.f_is_act (ok_is_act T) tk (hr.mono (by decide)) rfl ?_
      refine sa_cons ?_ ?_
      · exact se_var 1
      · refine sa_cons ?_ ?_
        · refine se_methA0 (C := T.k_Stand) T.f_Stand_acts (ok_Stand_acts T) tk (hr.mono (by decide)) ?_
          exact se_var 0
        · exact sa_nil
    · refine sss_one ?_
      exact ss_raise rfl tk T.e_NoAct.t rfl
    · exact sss_nil
  · refine sss_one ?_
    refine ss_ret ?_
    refine se_callA T.f_let_replies (ok_let_replies T) tk (hr.mono (by decide)) rfl ?_
    refine sa_cons ?_ ?_
    · refine se_methA0 (C := T.k_Stand) T.f_Stand_fails (ok_Stand_fails T) tk (hr.mono (by decide)) ?_
      exact se_var 0
    · refine sa_cons ?_ ?_
      · refine se_methA0 (C := T.k_Stand) T.f_Stand_cuts (ok_Stand_cuts T) tk (hr.mono (by decide)) ?_
        exact se_var 0
      · exact sa_nil

theorem sc_is_served : FnScope ["act", "reply"] ["act", "reply"] (defScope s_is_served) := ⟨rfl, rfl, rfl, by decide +kernel, rfl, by decide +kernel, by decide +kernel⟩
def g_is_served : FS := (gRet (eAnd (eBin dEq (eBin dIx (eVar 0) (eC (.int 0))) (eC (.str "write"))) (eBin dEq (eVar 1) (eC (.str "done")))))
def m_is_served : FF := runB 2 g_is_served
theorem ok_is_served (T : Txt K mg) : OkF P w K mg base 1 T.f_is_served.f T.f_is_served.fd ["act", "reply"] m_is_served := by
  refine @okS P w K mg base "is_served" "is_served" s_is_served T.f_is_served.f T.f_is_served.fd ["act", "reply"] ["act", "reply"]  0 g_is_served T.f_is_served.fn sc_is_served ?_
  intro cdv A outer s H E hr tk PO
  unfold g_is_served
  refine sss_one ?_
  refine ss_ret ?_
  refine se_and ?_ ?_
  · refine se_cmp (op_eq2 hr.units) os_eq ?_ ?_ (nomark _)
    · refine se_ix ?_ ?_
      · exact se_var 0
      · exact se_int
    · exact se_str
  · refine se_one ?_
    refine se_cmp (op_eq2 hr.units) os_eq ?_ ?_ (nomark _)
    · exact se_var 1
    · exact se_str

theorem sc_Stand_served : FnScope ["self", "act", "reply"] ["self", "act", "reply"] (defScope s_Stand_served) := ⟨rfl, rfl, rfl, by decide +kernel, rfl, by decide +kernel, by decide +kernel⟩
def g_Stand_served : FS := (gSeq (gIf (eBin dNotIn (eVar 2) (eMeth "Stand" "replies" m_Stand_replies (eVar 0) [(eVar 1)])) (gRaise "NoReply") gNext)
    (gRet (eArgs m_is_served [(eVar 1), (eVar 2)])))
def m_Stand_served : FF := runB 3 g_Stand_served
theorem ok_Stand_served (T : Txt K mg) : OkF P w K mg base 7 T.f_Stand_served.f T.f_Stand_served.fd ["self", "act", "reply"] m_Stand_served := by
  refine @okS P w K mg base "served" "Stand.served" s_Stand_served T.f_Stand_served.f T.f_Stand_served.fd ["self", "act", "reply"] ["self", "act", "reply"]  6 g_Stand_served T.f_Stand_served.fn sc_Stand_served ?_
  intro cdv A outer s H E hr tk PO
  unfold g_Stand_served
  refine sss_cons ?_ ?_
  · refine ss_if ?_ ?_ ?_
    · refine st_cmp (op_notIn2 (units65 hr)) os_notIn ?_ ?_ (by with_unfolding_all rfl)
      · exact se_var 2
      · refine se_methA (C := T.k_Stand) T.f_Stand_replies (ok_Stand_replies T) tk (hr.mono (by decide)) ?_ ?_
        · exact se_var 0
        · refine sa_cons ?_ ?_
          · exact se_var 1
          · exact sa_nil
    · refine sss_one ?_
      exact ss_raise rfl tk T.e_NoReply.t rfl
    · exact sss_nil
  · refine sss_one ?_
    refine ss_ret ?_
    refine se_callA T.f_is_served (ok_is_served T) tk (hr.mono (by decide)) rfl ?_
    refine sa_cons ?_ ?_
    · exact se_var 1
    · refine sa_cons ?_ ?_
      · exact se_var 2
      · exact sa_nil

theorem sc__law_bad : FnScope ["block", "page"] ["block"] (defScope s__law_bad) := ⟨rfl, rfl, rfl, by decide +kernel, rfl, by decide +kernel, by decide +kernel⟩
def g__law_bad : FS := (gRet (eTup [(eC .non), (eArgs bTuple [(eLc (fiSeq (eBin dIx (eVar 0) (eC (.int 1)))) (tName 1) (eC (.bl true)) (eIf (eBin dEq (eVar 1) (eC (.str "free"))) (eC (.str "old")) (eVar 1)) [1])])]))
def m__law_bad : FF := runB 2 g__law_bad
theorem ok__law_bad (T : Txt K mg) : OkF P w K mg base 1 T.f__law_bad.f T.f__law_bad.fd ["block"] m__law_bad := by
  refine @okS P w K mg base "_law_bad" "_law_bad" s__law_bad T.f__law_bad.f T.f__law_bad.fd ["block", "page"] ["block"]  0 g__law_bad T.f__law_bad.fn sc__law_bad ?_
  intro cdv A outer s H E hr tk PO
  unfold g__law_bad
  refine sss_one ?_
  refine ss_ret ?_
  refine se_tup ?_
  refine sa_cons ?_ ?_
  · exact se_non
  · refine sa_cons ?_ ?_
    · refine se_callTy (call_tuple_ofF) (cs_tuple) rfl T.b_tuple rfl ?_
      refine sa_cons ?_ ?_
      · refine se_lc (own := [("page", 1)]) (vs := [1]) (wk := false) rfl sc__law_bad.nd ?_ (show BlkOk ["block", "page"] (defScope s__law_bad) _ _ from ⟨rfl, by decide +kernel, by decide +kernel, by decide +kernel, by decide +kernel⟩) (fun _ _ _ _ _ => ?_) (fun _ _ _ _ _ => ?_) (fun _ _ _ _ _ => ?_)
        · refine si_seq ?_
          refine se_ix ?_ ?_
          · exact se_var 0
          · exact se_int
        · exact sg_name sc__law_bad.nd rfl (by first | exact Or.inl rfl | exact Or.inr rfl)
        · exact sts_nil
        · refine se_if ?_ ?_ ?_
          · refine st_cmp (op_eq2 hr.units) os_eq ?_ ?_ (nomark _)
            · exact se_var 1
            · exact se_str
          · exact se_str
          · exact se_var 1
      · exact sa_nil
    · exact sa_nil

theorem sc__law_erased : FnScope ["block", "page", "left", "pages"] ["block", "page"] (defScope s__law_erased) := ⟨rfl, rfl, rfl, by decide +kernel, rfl, by decide +kernel, by decide +kernel⟩
def g__law_erased : FS := (gSeq (gAsg (eVar 0) (tTup [(tName 2), (tName 3)]))
    (gSeq (gIf (eBin dNe (eVar 2) (eC (.str "ever"))) (gSet 2 (eBin dSub (eVar 2) (eC (.int 1)))) gNext)
    (gRet (eTup [(eVar 2), (eBin dMulT (eTup [(eVar 1)]) (eArgs bLen [(eVar 3)]))]))))
def m__law_erased : FF := runB 4 g__law_erased
theorem ok__law_erased (T : Txt K mg) : OkF P w K mg base 1 T.f__law_erased.f T.f__law_erased.fd ["block", "page"] m__law_erased := by
  refine @okS P w K mg base "_law_erased" "_law_erased" s__law_erased T.f__law_erased.f T.f__law_erased.fd ["block", "page", "left", "pages"] ["block", "page"]  0 g__law_erased T.f__law_erased.fn sc__law_erased ?_
  intro cdv A outer s H E hr tk PO
  unfold g__law_erased
  refine sss_cons ?_ ?_
  · refine ss_asg (vs := [2, 3]) ?_ ?_
    · exact se_var 0
    · refine sg_tup rfl ?_
      refine sgs_cons (vs := [2]) (ws := [3]) ?_ ?_
      · exact sg_name sc__law_erased.nd rfl (by first | exact Or.inl rfl | exact Or.inr rfl)
      · refine sgs_cons (vs := [3]) (ws := []) ?_ ?_
        · exact sg_name sc__law_erased.nd rfl (by first | exact Or.inl rfl | exact Or.inr rfl)
        · exact sgs_nil
  · refine sss_cons ?_ ?_
    · refine ss_if ?_ ?_ ?_
      · refine st_cmp (op_ne2 hr.units) os_ne ?_ ?_ (nomark _)
        · exact se_var 2
        · exact se_str
      · refine sss_one ?_
        refine ss_set sc__law_erased.nd rfl (by first | exact Or.inl rfl | exact Or.inr rfl) ?_
        refine se_op op_sub os_sub ?_ ?_
        · exact se_var 2
        · exact se_int
      · exact sss_nil
    · refine sss_one ?_
      refine ss_ret ?_
      refine se_tup ?_
      refine sa_cons ?_ ?_
      · exact se_var 2
      · refine sa_cons ?_ ?_
        · refine se_op op_repTF os_mulT ?_ ?_
          · refine se_tup ?_
            refine sa_cons ?_ ?_
            · exact se_var 1
            · exact sa_nil
          · refine se_callB (call_len) (cs_len) rfl T.b_len rfl ?_
            refine sa_cons ?_ ?_
            · exact se_var 3
            · exact sa_nil
        · exact sa_nil

theorem sc__law_filled : FnScope ["pages", "page", "row"] ["pages", "page"] (defScope s__law_filled) := ⟨rfl, rfl, rfl, by decide +kernel, rfl, by decide +kernel, by decide +kernel⟩
def g__law_filled : FS := (gSeq (gSet 2 (eArgs bList [(eVar 0)]))
    (gSeq (gLput (eVar 2) (eLm lIndex (eVar 2) [(eC (.str "free"))]) (eVar 1))
    (gRet (eArgs bTuple [(eVar 2)]))))
def m__law_filled : FF := runB 3 g__law_filled
theorem ok__law_filled (T : Txt K mg) : OkF P w K mg base 1 T.f__law_filled.f T.f__law_filled.fd ["pages", "page"] m__law_filled := by
  refine @okS P w K mg base "_law_filled" "_law_filled" s__law_filled T.f__law_filled.f T.f__law_filled.fd ["pages", "page", "row"] ["pages", "page"]  0 g__law_filled T.f__law_filled.fn sc__law_filled ?_
  intro cdv A outer s H E hr tk PO
  unfold g__law_filled
  refine sss_cons ?_ ?_
  · refine ss_set sc__law_filled.nd rfl (by first | exact Or.inl rfl | exact Or.inr rfl) ?_
    refine se_callTy (call_list_of) (cs_list) rfl T.b_list rfl ?_
    refine sa_cons ?_ ?_
    · exact se_var 0
    · exact sa_nil
  · refine sss_cons ?_ ?_
    · refine ss_lput ?_ ?_ ?_
      · exact se_var 2
      · refine se_lm PySem.F.plainAttrs_list PySem.F.slot_list_index PySem.F.type_list_index mt_index ls_index ?_ ?_
        · exact se_var 2
        · refine sa_cons ?_ ?_
          · exact se_str
          · exact sa_nil
      · exact se_var 1
    · refine sss_one ?_
      refine ss_ret ?_
      refine se_callTy (call_tuple_ofF) (cs_tuple) rfl T.b_tuple rfl ?_
      refine sa_cons ?_ ?_
      · exact se_var 2
      · exact sa_nil

theorem sc__law_aged : FnScope ["block", "key", "left", "pages", "page"] ["block", "key"] (defScope s__law_aged) := ⟨rfl, rfl, rfl, by decide +kernel, rfl, by decide +kernel, by decide +kernel⟩
def g__law_aged : FS := (gSeq (gAsg (eVar 0) (tTup [(tName 2), (tName 3)]))
    (gRet (eTup [(eVar 2), (eArgs bTuple [(eLc (fiSeq (eVar 3)) (tName 4) (eC (.bl true)) (eIf (eBin dEq (eVar 4) (eVar 1)) (eC (.str "old")) (eVar 4)) [4])])])))
def m__law_aged : FF := runB 5 g__law_aged
theorem ok__law_aged (T : Txt K mg) : OkF P w K mg base 1 T.f__law_aged.f T.f__law_aged.fd ["block", "key"] m__law_aged := by
  refine @okS P w K mg base "_law_aged" "_law_aged" s__law_aged T.f__law_aged.f T.f__law_aged.fd ["block", "key", "left", "pages", "page"] ["block", "key"]  0 g__law_aged T.f__law_aged.fn sc__law_aged ?_
  intro cdv A outer s H E hr tk PO
  unfold g__law_aged
  refine sss_cons ?_ ?_
  · refine ss_asg (vs := [2, 3]) ?_ ?_
    · exact se_var 0
    · refine sg_tup rfl ?_
      refine sgs_cons (vs := [2]) (ws := [3]) ?_ ?_
      · exact sg_name sc__law_aged.nd rfl (by first | exact Or.inl rfl | exact Or.inr rfl)
      · refine sgs_cons (vs := [3]) (ws := []) ?_ ?_
        · exact sg_name sc__law_aged.nd rfl (by first | exact Or.inl rfl | exact Or.inr rfl)
        · exact sgs_nil
  · refine sss_one ?_
    refine ss_ret ?_
    refine se_tup ?_
    refine sa_cons ?_ ?_
    · exact se_var 2
    · refine sa_cons ?_ ?_
      · refine se_callTy (call_tuple_ofF) (cs_tuple) rfl T.b_tuple rfl ?_
        refine sa_cons ?_ ?_
        · refine se_lc (own := [("page", 4)]) (vs := [4]) (wk := false) rfl sc__law_aged.nd ?_ (show BlkOk ["block", "key", "left", "pages", "page"] (defScope s__law_aged) _ _ from ⟨rfl, by decide +kernel, by decide +kernel, by decide +kernel, by decide +kernel⟩) (fun _ _ _ _ _ => ?_) (fun _ _ _ _ _ => ?_) (fun _ _ _ _ _ => ?_)
          · refine si_seq ?_
            exact se_var 3
          · exact sg_name sc__law_aged.nd rfl (by first | exact Or.inl rfl | exact Or.inr rfl)
          · exact sts_nil
          · refine se_if ?_ ?_ ?_
            · refine st_cmp (op_eq2 hr.units) os_eq ?_ ?_ (nomark _)
              · exact se_var 4
              · exact se_var 1
            · exact se_str
            · exact se_var 4
        · exact sa_nil
      · exact sa_nil

theorem sc__law_rows_after : FnScope ["shape", "act", "reply", "rows", "b", "key", "row"] ["shape", "act", "reply"] (defScope s__law_rows_after) := ⟨rfl, rfl, rfl, by decide +kernel, rfl, by decide +kernel, by decide +kernel⟩
def g__law_rows_after : FS := (gSeq (gSet 3 (eArgs bList [(eBin dIx (eVar 0) (eC (.int 1)))]))
    (gSeq (gSet 4 (eBin dIx (eVar 1) (eBin dSub (eArgs bLen [(eVar 1)]) (eC (.int 1)))))
    (gSeq (gIf (eBin dEq (eVar 2) (eC (.str "bad"))) (gLput (eVar 3) (eVar 4) (eArgs m__law_bad [(eBin dIx (eVar 3) (eVar 4))])) (gIf (eBin dEq (eBin dIx (eVar 1) (eC (.int 0))) (eC (.str "erase"))) (gLput (eVar 3) (eVar 4) (eArgs m__law_erased [(eBin dIx (eVar 3) (eVar 4)), (eIf (eBin dEq (eVar 2) (eC (.str "cut"))) (eC (.str "old")) (eC (.str "free")))])) (gIf (eBin dEq (eVar 2) (eC (.str "cut"))) (gLput (eVar 3) (eVar 4) (eTup [(eBin dIx (eBin dIx (eVar 3) (eVar 4)) (eC (.int 0))), (eArgs m__law_filled [(eBin dIx (eBin dIx (eVar 3) (eVar 4)) (eC (.int 1))), (eC (.str "old"))])])) (gSeq (gSet 5 (eBin dIx (eVar 0) (eC (.int 4))))
    (gSeq (gIf (eBin dEq (eBin dIx (eVar 1) (eC (.int 0))) (eC (.str "copy"))) (gSet 5 (eBin dIx (eVar 1) (eC (.int 1)))) gNext)
    (gSeq (gSet 3 (eLc (fiSeq (eVar 3)) (tName 6) (eC (.bl true)) (eArgs m__law_aged [(eVar 6), (eVar 5)]) [6]))
    (gLput (eVar 3) (eVar 4) (eTup [(eBin dIx (eBin dIx (eVar 3) (eVar 4)) (eC (.int 0))), (eArgs m__law_filled [(eBin dIx (eBin dIx (eVar 3) (eVar 4)) (eC (.int 1))), (eVar 5)])]))))))))
    (gRet (eArgs bTuple [(eVar 3)])))))
def m__law_rows_after : FF := runB 7 g__law_rows_after
theorem ok__law_rows_after (T : Txt K mg) : OkF P w K mg base 2 T.f__law_rows_after.f T.f__law_rows_after.fd ["shape", "act", "reply"] m__law_rows_after := by
  refine @okS P w K mg base "_law_rows_after" "_law_rows_after" s__law_rows_after T.f__law_rows_after.f T.f__law_rows_after.fd ["shape", "act", "reply", "rows", "b", "key", "row"] ["shape", "act", "reply"]  1 g__law_rows_after T.f__law_rows_after.fn sc__law_rows_after ?_
  intro cdv A outer s H E hr tk PO
  unfold g__law_rows_after
  refine sss_cons ?_ ?_
  · refine ss_set sc__law_rows_after.nd rfl (by first | exact Or.inl rfl | exact Or.inr rfl) ?_
    refine se_callTy (call_list_of) (cs_list) rfl T.b_list rfl ?_
    refine sa_cons ?_ ?_
    · refine se_ix ?_ ?_
      · exact se_var 0
      · exact se_int
    · exact sa_nil
  · refine sss_cons ?_ ?_
    · refine ss_set sc__law_rows_after.nd rfl (by first | exact Or.inl rfl | exact Or.inr rfl) ?_
      refine se_ix ?_ ?_
      · exact se_var 1
      · refine se_op op_sub os_sub ?_ ?_
        · refine se_callB (call_len) (cs_len) rfl T.b_len rfl ?_
          refine sa_cons ?_ ?_
          · exact se_var 1
          · exact sa_nil
        · exact se_int
    · refine sss_cons ?_ ?_
      · refine ss_if ?_ ?_ ?_
        · refine st_cmp (op_eq2 hr.units) os_eq ?_ ?_ (nomark _)
          · exact se_var 2
          · exact se_str
        · refine sss_one ?_
          refine ss_lput ?_ ?_ ?_
          · exact se_var 3
          · exact se_var 4
          · refine se_callA T.f__law_bad (ok__law_bad T) tk (hr.mono (by decide)) rfl ?_
            refine sa_cons ?_ ?_
            · refine se_ix ?_ ?_
              · exact se_var 3
              · exact se_var 4
            · exact sa_nil
        · refine sss_one ?_
          refine ss_if ?_ ?_ ?_
          · refine st_cmp (op_eq2 hr.units) os_eq ?_ ?_ (nomark _)
            · refine se_ix ?_ ?_
              · exact se_var 1
              · exact se_int
            · exact se_str
          · refine sss_one ?_
            refine ss_lput ?_ ?_ ?_
            · exact se_var 3
            · exact se_var 4
            · refine se_callA T.f__law_erased (ok__law_erased T) tk (hr.mono (by decide)) rfl ?_
              refine sa_cons ?_ ?_
              · refine se_ix ?_ ?_
                · exact se_var 3
                · exact se_var 4
              · refine sa_cons ?_ ?_
                · refine se_if ?_ ?_ ?_
                  · refine st_cmp (op_eq2 hr.units) os_eq ?_ ?_ (nomark _)
                    · exact se_var 2
                    · exact se_str
                  · exact se_str
                  · exact se_str
                · exact sa_nil
          · refine sss_one ?_
            refine ss_if ?_ ?_ ?_
            · refine st_cmp (op_eq2 hr.units) os_eq ?_ ?_ (nomark _)
              · exact se_var 2
              · exact se_str
            · refine sss_one ?_
              refine ss_lput ?_ ?_ ?_
              · exact se_var 3
              · exact se_var 4
              · refine se_tup ?_
                refine sa_cons ?_ ?_
                · refine se_ix ?_ ?_
                  · refine se_ix ?_ ?_
                    · exact se_var 3
                    · exact se_var 4
                  · exact se_int
                · refine sa_cons ?_ ?_
                  · refine se_callA T.f__law_filled (ok__law_filled T) tk (hr.mono (by decide)) rfl ?_
                    refine sa_cons ?_ ?_
                    · refine se_ix ?_ ?_
                      · refine se_ix ?_ ?_
                        · exact se_var 3
                        · exact se_var 4
                      · exact se_int
                    · refine sa_cons ?_ ?_
                      · exact se_str
                      · exact sa_nil
                  · exact sa_nil
            · refine sss_cons ?_ ?_
              · refine ss_set sc__law_rows_after.nd rfl (by first | exact Or.inl rfl | exact Or.inr rfl) ?_
                refine se_ix ?_ ?_
                · exact se_var 0
                · exact se_int
              · refine sss_cons ?_ ?_
                · refine ss_if ?_ ?_ ?_
                  · refine st_cmp (op_eq2 hr.units) os_eq ?_ ?_ (nomark _)
                    · refine se_ix ?_ ?_
                      · exact se_var 1
                      · exact se_int
                    · exact se_str
                  · refine sss_one ?_
                    refine ss_set sc__law_rows_after.nd rfl (by first | exact Or.inl rfl | exact Or.inr rfl) ?_
                    refine se_ix ?_ ?_
                    · exact se_var 1
                    · exact se_int
                  · exact sss_nil
                · refine sss_cons ?_ ?_
                  · refine ss_setLc (own := [("row", 6)]) (vs := [6]) (wk := false) rfl sc__law_rows_after.nd rfl rfl rfl ?_ (show BlkOk ["shape", "act", "reply", "rows", "b", "key", "row"] (defScope s__law_rows_after) _ _ from ⟨rfl, by decide +kernel, by decide +kernel, by decide +kernel, by decide +kernel⟩) (fun _ _ _ _ _ => ?_) (fun _ _ _ _ _ => ?_) (fun _ _ _ _ _ => ?_)
                    · refine si_seq ?_
                      exact se_var 3
                    · exact sg_name sc__law_rows_after.nd rfl (by first | exact Or.inl rfl | exact Or.inr rfl)
                    · exact sts_nil
                    · refine se_callA T.f__law_aged (ok__law_aged T) takesW0 (hr.mono (by decide)) rfl ?_
                      refine sa_cons ?_ ?_
                      · exact se_var 6
                      · refine sa_cons ?_ ?_
                        · exact se_var 5
                        · exact sa_nil
                  · refine sss_one ?_
                    refine ss_lput ?_ ?_ ?_
                    · exact se_var 3
                    · exact se_var 4
                    · refine se_tup ?_
                      refine sa_cons ?_ ?_
                      · refine se_ix ?_ ?_
                        · refine se_ix ?_ ?_
                          · exact se_var 3
                          · exact se_var 4
                        · exact se_int
                      · refine sa_cons ?_ ?_
                        · refine se_callA T.f__law_filled (ok__law_filled T) tk (hr.mono (by decide)) rfl ?_
                          refine sa_cons ?_ ?_
                          · refine se_ix ?_ ?_
                            · refine se_ix ?_ ?_
                              · exact se_var 3
                              · exact se_var 4
                            · exact se_int
                          · refine sa_cons ?_ ?_
                            · exact se_var 5
                            · exact sa_nil
                        · exact sa_nil
      · refine sss_one ?_
        refine ss_ret ?_
        refine se_callTy (call_tuple_ofF) (cs_tuple) rfl T.b_tuple rfl ?_
        refine sa_cons ?_ ?_
        · exact se_var 3
        · exact sa_nil

theorem sc__law_after : FnScope ["shape", "act", "reply", "rows", "due"] ["shape", "act", "reply"] (defScope s__law_after) := ⟨rfl, rfl, rfl, by decide +kernel, rfl, by decide +kernel, by decide +kernel⟩
def g__law_after : FS := (gSeq (gSet 3 (eArgs m__law_rows_after [(eVar 0), (eVar 1), (eVar 2)]))
    (gSeq (gIf (eBin dEq (eVar 2) (eC (.str "bad"))) (gRet (eTup [(eBin dIx (eVar 0) (eC (.int 0))), (eVar 3), (eBin dSub (eBin dIx (eVar 0) (eC (.int 2))) (eC (.int 1))), (eBin dIx (eVar 0) (eC (.int 3))), (eBin dIx (eVar 0) (eC (.int 4)))])) gNext)
    (gSeq (gIf (eOr (eBin dEq (eVar 2) (eC (.str "cut"))) (eBin dEq (eVar 2) (eC (.str "late")))) (gRet (eTup [(eBin dIx (eVar 0) (eC (.int 0))), (eVar 3), (eBin dIx (eVar 0) (eC (.int 2))), (eBin dSub (eBin dIx (eVar 0) (eC (.int 3))) (eC (.int 1))), (eC .non)])) gNext)
    (gSeq (gSet 4 (eBin dIx (eVar 0) (eC (.int 4))))
    (gSeq (gIf (eBin dEq (eBin dIx (eVar 1) (eC (.int 0))) (eC (.str "write"))) (gSet 4 (eC .non)) gNext)
    (gRet (eTup [(eBin dIx (eVar 0) (eC (.int 0))), (eVar 3), (eBin dIx (eVar 0) (eC (.int 2))), (eBin dIx (eVar 0) (eC (.int 3))), (eVar 4)])))))))
def m__law_after : FF := runB 5 g__law_after
theorem ok__law_after (T : Txt K mg) : OkF P w K mg base 3 T.f__law_after.f T.f__law_after.fd ["shape", "act", "reply"] m__law_after := by
  refine @okS P w K mg base "_law_after" "_law_after" s__law_after T.f__law_after.f T.f__law_after.fd ["shape", "act", "reply", "rows", "due"] ["shape", "act", "reply"]  2 g__law_after T.f__law_after.fn sc__law_after ?_
  intro cdv A outer s H E hr tk PO
  unfold g__law_after
  refine sss_cons ?_ ?_
  · refine ss_set sc__law_after.nd rfl (by first | exact Or.inl rfl | exact Or.inr rfl) ?_
    refine se_callA T.f__law_rows_after (ok__law_rows_after T) tk (hr.mono (by decide)) rfl ?_
    refine sa_cons ?_ ?_
    · exact se_var 0
    · refine sa_cons ?_ ?_
      · exact se_var 1
      · refine sa_cons ?_ ?_
        · exact se_var 2
        · exact sa_nil
  · refine sss_cons ?_ ?_
    · refine ss_if ?_ ?_ ?_
      · refine st_cmp (op_eq2 hr.units) os_eq ?_ ?_ (nomark _)
        · exact se_var 2
        · exact se_str
      · refine sss_one ?_
        refine ss_ret ?_
        refine se_tup ?_
        refine sa_cons ?_ ?_
        · refine se_ix ?_ ?_
          · exact se_var 0
          · exact se_int
        · refine sa_cons ?_ ?_
          · exact se_var 3
          · refine sa_cons ?_ ?_
            · refine se_op op_sub os_sub ?_ ?_
              · refine se_ix ?_ ?_
                · exact se_var 0
                · exact se_int
              · exact se_int
            · refine sa_cons ?_ ?_
              · refine se_ix ?_ ?_
                · exact se_var 0
                · exact se_int
              · refine sa_cons ?_ ?_
                · refine se_ix ?_ ?_
                  · exact se_var 0
                  · exact se_int
                · exact sa_nil
      · exact sss_nil
    · refine sss_cons ?_ ?_
      · refine ss_if ?_ ?_ ?_
        · refine SW.st ?_
          refine sw_or ?_ ?_
          · refine st_cmp (op_eq2 hr.units) os_eq ?_ ?_ (nomark _)
            · exact se_var 2
            · exact se_str
          · refine sw_or1 ?_
            refine st_cmp (op_eq2 hr.units) os_eq ?_ ?_ (nomark _)
            · exact se_var 2
            · exact se_str
        · refine sss_one ?_
          refine ss_ret ?_
          refine se_tup ?_
          refine sa_cons ?_ ?_
          · refine se_ix ?_ ?_
            · exact se_var 0
            · exact se_int
          · refine sa_cons ?_ ?_
            · exact se_var 3
            · refine sa_cons ?_ ?_
              · refine se_ix ?_ ?_
                · exact se_var 0
                · exact se_int
              · refine sa_cons ?_ ?_
                · refine se_op op_sub os_sub ?_ ?_
                  · refine se_ix ?_ ?_
                    · exact se_var 0
                    · exact se_int
                  · exact se_int
                · refine sa_cons ?_ ?_
                  · exact se_non
                  · exact sa_nil
        · exact sss_nil
      · refine sss_cons ?_ ?_
        · refine ss_set sc__law_after.nd rfl (by first | exact Or.inl rfl | exact Or.inr rfl) ?_
          refine se_ix ?_ ?_
          · exact se_var 0
          · exact se_int
        · refine sss_cons ?_ ?_
          · refine ss_if ?_ ?_ ?_
            · refine st_cmp (op_eq2 hr.units) os_eq ?_ ?_ (nomark _)
              · refine se_ix ?_ ?_
                · exact se_var 1
                · exact se_int
              · exact se_str
            · refine sss_one ?_
              refine ss_set sc__law_after.nd rfl (by first | exact Or.inl rfl | exact Or.inr rfl) ?_
              exact se_non
            · exact sss_nil
          · refine sss_one ?_
            refine ss_ret ?_
            refine se_tup ?_
            refine sa_cons ?_ ?_
            · refine se_ix ?_ ?_
              · exact se_var 0
              · exact se_int
            · refine sa_cons ?_ ?_
              · exact se_var 3
              · refine sa_cons ?_ ?_
                · refine se_ix ?_ ?_
                  · exact se_var 0
                  · exact se_int
                · refine sa_cons ?_ ?_
                  · refine se_ix ?_ ?_
                    · exact se_var 0
                    · exact se_int
                  · refine sa_cons ?_ ?_
                    · exact se_var 4
                    · exact sa_nil

theorem sc__law_put : FnScope ["shape", "key"] ["shape", "key"] (defScope s__law_put) := ⟨rfl, rfl, rfl, by decide +kernel, rfl, by decide +kernel, by decide +kernel⟩
def g__law_put : FS := (gRet (eTup [(eBin dIx (eVar 0) (eC (.int 0))), (eBin dIx (eVar 0) (eC (.int 1))), (eBin dIx (eVar 0) (eC (.int 2))), (eBin dIx (eVar 0) (eC (.int 3))), (eVar 1)]))
def m__law_put : FF := runB 2 g__law_put
theorem ok__law_put (T : Txt K mg) : OkF P w K mg base 1 T.f__law_put.f T.f__law_put.fd ["shape", "key"] m__law_put := by
  refine @okS P w K mg base "_law_put" "_law_put" s__law_put T.f__law_put.f T.f__law_put.fd ["shape", "key"] ["shape", "key"]  0 g__law_put T.f__law_put.fn sc__law_put ?_
  intro cdv A outer s H E hr tk PO
  unfold g__law_put
  refine sss_one ?_
  refine ss_ret ?_
  refine se_tup ?_
  refine sa_cons ?_ ?_
  · refine se_ix ?_ ?_
    · exact se_var 0
    · exact se_int
  · refine sa_cons ?_ ?_
    · refine se_ix ?_ ?_
      · exact se_var 0
      · exact se_int
    · refine sa_cons ?_ ?_
      · refine se_ix ?_ ?_
        · exact se_var 0
        · exact se_int
      · refine sa_cons ?_ ?_
        · refine se_ix ?_ ?_
          · exact se_var 0
          · exact se_int
        · refine sa_cons ?_ ?_
          · exact se_var 1
          · exact sa_nil

theorem sc__law_model_step : FnScope ["shape", "item"] ["shape", "item"] (defScope s__law_model_step) := ⟨rfl, rfl, rfl, by decide +kernel, rfl, by decide +kernel, by decide +kernel⟩
def g__law_model_step : FS := (gSeq (gIf (eIsi "tuple" (eVar 1)) (gRet (eArgs m__law_after [(eVar 0), (eBin dIx (eVar 1) (eC (.int 0))), (eBin dIx (eVar 1) (eC (.int 1)))])) gNext)
    (gRet (eArgs m__law_put [(eVar 0), (eVar 1)])))
def m__law_model_step : FF := runB 2 g__law_model_step
theorem ok__law_model_step (T : Txt K mg) : OkF P w K mg base 4 T.f__law_model_step.f T.f__law_model_step.fd ["shape", "item"] m__law_model_step := by
  refine @okS P w K mg base "_law_model_step" "_law_model_step" s__law_model_step T.f__law_model_step.f T.f__law_model_step.fd ["shape", "item"] ["shape", "item"]  3 g__law_model_step T.f__law_model_step.fn sc__law_model_step ?_
  intro cdv A outer s H E hr tk PO
  unfold g__law_model_step
  refine sss_cons ?_ ?_
  · refine ss_if ?_ ?_ ?_
    · refine st_val ?_
      refine se_isi ?_ rfl T.b_isinstance rfl rfl T.b_tuple rfl
      exact se_var 1
    · refine sss_one ?_
      refine ss_ret ?_
      refine se_callA T.f__law_after (ok__law_after T) tk (hr.mono (by decide)) rfl ?_
      refine sa_cons ?_ ?_
      · exact se_var 0
      · refine sa_cons ?_ ?_
        · refine se_ix ?_ ?_
          · exact se_var 1
          · exact se_int
        · refine sa_cons ?_ ?_
          · refine se_ix ?_ ?_
            · exact se_var 1
            · exact se_int
          · exact sa_nil
    · exact sss_nil
  · refine sss_one ?_
    refine ss_ret ?_
    refine se_callA T.f__law_put (ok__law_put T) tk (hr.mono (by decide)) rfl ?_
    refine sa_cons ?_ ?_
    · exact se_var 0
    · refine sa_cons ?_ ?_
      · exact se_var 1
      · exact sa_nil

theorem sc_gone_bad : FnScope ["block", "page"] ["block"] (defScope s_gone_bad) := ⟨rfl, rfl, rfl, by decide +kernel, rfl, by decide +kernel, by decide +kernel⟩
def g_gone_bad : FS := (gRet (eTup [(eC .non), (eArgs bTuple [(eLc (fiSeq (eBin dIx (eVar 0) (eC (.int 1)))) (tName 1) (eC (.bl true)) (eIf (eBin dEq (eVar 1) (eC (.str "free"))) (eC (.str "old")) (eVar 1)) [1])])]))
def m_gone_bad : FF := runB 2 g_gone_bad
theorem ok_gone_bad (T : Txt K mg) : OkF P w K mg base 1 T.f_gone_bad.f T.f_gone_bad.fd ["block"] m_gone_bad := by
  refine @okS P w K mg base "gone_bad" "gone_bad" s_gone_bad T.f_gone_bad.f T.f_gone_bad.fd ["block", "page"] ["block"]  0 g_gone_bad T.f_gone_bad.fn sc_gone_bad ?_
  intro cdv A outer s H E hr tk PO
  unfold g_gone_bad
  refine sss_one ?_
  refine ss_ret ?_
  refine se_tup ?_
  refine sa_cons ?_ ?_
  · exact se_non
  · refine sa_cons ?_ ?_
    · refine se_callTy (call_tuple_ofF) (cs_tuple) rfl T.b_tuple rfl ?_
      refine sa_cons ?_ ?_
      · refine se_lc (own := [("page", 1)]) (vs := [1]) (wk := false) rfl sc_gone_bad.nd ?_ (show BlkOk ["block", "page"] (defScope s_gone_bad) _ _ from ⟨rfl, by decide +kernel, by decide +kernel, by decide +kernel, by decide +kernel⟩) (fun _ _ _ _ _ => ?_) (fun _ _ _ _ _ => ?_) (fun _ _ _ _ _ => ?_)
        · refine si_seq ?_
          refine se_ix ?_ ?_
          · exact se_var 0
          · exact se_int
        · exact sg_name sc_gone_bad.nd rfl (by first | exact Or.inl rfl | exact Or.inr rfl)
        · exact sts_nil
        · refine se_if ?_ ?_ ?_
          · refine st_cmp (op_eq2 hr.units) os_eq ?_ ?_ (nomark _)
            · exact se_var 1
            · exact se_str
          · exact se_str
          · exact se_var 1
      · exact sa_nil
    · exact sa_nil

theorem sc_with_block : FnScope ["blocks", "b", "block"] ["blocks", "b", "block"] (defScope s_with_block) := ⟨rfl, rfl, rfl, by decide +kernel, rfl, by decide +kernel, by decide +kernel⟩
def g_with_block : FS := (gRet (eBin dAdd (eBin dAdd (eSl (eVar 0) none (some (eVar 1))) (eTup [(eVar 2)])) (eSl (eVar 0) (some (eBin dAdd (eVar 1) (eC (.int 1)))) none)))
def m_with_block : FF := runB 3 g_with_block
theorem ok_with_block (T : Txt K mg) : OkF P w K mg base 1 T.f_with_block.f T.f_with_block.fd ["blocks", "b", "block"] m_with_block := by
  refine @okS P w K mg base "with_block" "with_block" s_with_block T.f_with_block.f T.f_with_block.fd ["blocks", "b", "block"] ["blocks", "b", "block"]  0 g_with_block T.f_with_block.fn sc_with_block ?_
  intro cdv A outer s H E hr tk PO
  unfold g_with_block
  refine sss_one ?_
  refine ss_ret ?_
  refine se_op op_add4 os_add ?_ ?_
  · refine se_op op_add4 os_add ?_ ?_
    · refine se_sl ?_ ?_ ?_
      · exact se_var 0
      · exact SO.no
      · refine SO.yes ?_
        exact se_var 1
    · refine se_tup ?_
      refine sa_cons ?_ ?_
      · exact se_var 2
      · exact sa_nil
  · refine se_sl ?_ ?_ ?_
    · exact se_var 0
    · refine SO.yes ?_
      refine se_op op_add4 os_add ?_ ?_
      · exact se_var 1
      · exact se_int
    · exact SO.no

theorem sc_erased : FnScope ["block", "page", "left", "pages"] ["block", "page"] (defScope s_erased) := ⟨rfl, rfl, rfl, by decide +kernel, rfl, by decide +kernel, by decide +kernel⟩
def g_erased : FS := (gSeq (gAsg (eVar 0) (tTup [(tName 2), (tName 3)]))
    (gRet (eTup [(eIf (eBin dEq (eVar 2) (eC (.str "ever"))) (eVar 2) (eBin dSub (eVar 2) (eC (.int 1)))), (eBin dMulT (eTup [(eVar 1)]) (eArgs bLen [(eVar 3)]))])))
def m_erased : FF := runB 4 g_erased
theorem ok_erased (T : Txt K mg) : OkF P w K mg base 1 T.f_erased.f T.f_erased.fd ["block", "page"] m_erased := by
  refine @okS P w K mg base "erased" "erased" s_erased T.f_erased.f T.f_erased.fd ["block", "page", "left", "pages"] ["block", "page"]  0 g_erased T.f_erased.fn sc_erased ?_
  intro cdv A outer s H E hr tk PO
  unfold g_erased
  refine sss_cons ?_ ?_
  · refine ss_asg (vs := [2, 3]) ?_ ?_
    · exact se_var 0
    · refine sg_tup rfl ?_
      refine sgs_cons (vs := [2]) (ws := [3]) ?_ ?_
      · exact sg_name sc_erased.nd rfl (by first | exact Or.inl rfl | exact Or.inr rfl)
      · refine sgs_cons (vs := [3]) (ws := []) ?_ ?_
        · exact sg_name sc_erased.nd rfl (by first | exact Or.inl rfl | exact Or.inr rfl)
        · exact sgs_nil
  · refine sss_one ?_
    refine ss_ret ?_
    refine se_tup ?_
    refine sa_cons ?_ ?_
    · refine se_if ?_ ?_ ?_
      · refine st_cmp (op_eq2 hr.units) os_eq ?_ ?_ (nomark _)
        · exact se_var 2
        · exact se_str
      · exact se_var 2
      · refine se_op op_sub os_sub ?_ ?_
        · exact se_var 2
        · exact se_int
    · refine sa_cons ?_ ?_
      · refine se_op op_repTF os_mulT ?_ ?_
        · refine se_tup ?_
          refine sa_cons ?_ ?_
          · exact se_var 1
          · exact sa_nil
        · refine se_callB (call_len) (cs_len) rfl T.b_len rfl ?_
          refine sa_cons ?_ ?_
          · exact se_var 3
          · exact sa_nil
      · exact sa_nil

theorem sc_filled : FnScope ["block", "page", "left", "pages", "at"] ["block", "page"] (defScope s_filled) := ⟨rfl, rfl, rfl, by decide +kernel, rfl, by decide +kernel, by decide +kernel⟩
def g_filled : FS := (gSeq (gAsg (eVar 0) (tTup [(tName 2), (tName 3)]))
    (gSeq (gSet 4 (eTm tIndex (eVar 3) [(eC (.str "free"))]))
    (gRet (eTup [(eVar 2), (eBin dAdd (eBin dAdd (eSl (eVar 3) none (some (eVar 4))) (eTup [(eVar 1)])) (eSl (eVar 3) (some (eBin dAdd (eVar 4) (eC (.int 1)))) none))]))))
def m_filled : FF := runB 5 g_filled
theorem ok_filled (T : Txt K mg) : OkF P w K mg base 1 T.f_filled.f T.f_filled.fd ["block", "page"] m_filled := by
  refine @okS P w K mg base "filled" "filled" s_filled T.f_filled.f T.f_filled.fd ["block", "page", "left", "pages", "at"] ["block", "page"]  0 g_filled T.f_filled.fn sc_filled ?_
  intro cdv A outer s H E hr tk PO
  unfold g_filled
  refine sss_cons ?_ ?_
  · refine ss_asg (vs := [2, 3]) ?_ ?_
    · exact se_var 0
    · refine sg_tup rfl ?_
      refine sgs_cons (vs := [2]) (ws := [3]) ?_ ?_
      · exact sg_name sc_filled.nd rfl (by first | exact Or.inl rfl | exact Or.inr rfl)
      · refine sgs_cons (vs := [3]) (ws := []) ?_ ?_
        · exact sg_name sc_filled.nd rfl (by first | exact Or.inl rfl | exact Or.inr rfl)
        · exact sgs_nil
  · refine sss_cons ?_ ?_
    · refine ss_set sc_filled.nd rfl (by first | exact Or.inl rfl | exact Or.inr rfl) ?_
      refine se_tm PySem.F.plainAttrs_tuple PySem.F.slot_tuple_index PySem.F.type_tuple_index mt_tindex ts_index ?_ ?_
      · exact se_var 3
      · refine sa_cons ?_ ?_
        · exact se_str
        · exact sa_nil
    · refine sss_one ?_
      refine ss_ret ?_
      refine se_tup ?_
      refine sa_cons ?_ ?_
      · exact se_var 2
      · refine sa_cons ?_ ?_
        · refine se_op op_add4 os_add ?_ ?_
          · refine se_op op_add4 os_add ?_ ?_
            · refine se_sl ?_ ?_ ?_
              · exact se_var 3
              · exact SO.no
              · refine SO.yes ?_
                exact se_var 4
            · refine se_tup ?_
              refine sa_cons ?_ ?_
              · exact se_var 1
              · exact sa_nil
          · refine se_sl ?_ ?_ ?_
            · exact se_var 3
            · refine SO.yes ?_
              refine se_op op_add4 os_add ?_ ?_
              · exact se_var 4
              · exact se_int
            · exact SO.no
        · exact sa_nil

theorem sc_with_copy : FnScope ["blocks", "key", "b", "rows", "left", "pages", "page"] ["blocks", "key", "b"] (defScope s_with_copy) := ⟨rfl, rfl, rfl, by decide +kernel, rfl, by decide +kernel, by decide +kernel⟩
def g_with_copy : FS := (gSeq (gSet 3 (eLc (fiSeq (eVar 0)) (tTup [(tName 4), (tName 5)]) (eC (.bl true)) (eTup [(eVar 4), (eArgs bTuple [(eLc (fiSeq (eVar 5)) (tName 6) (eC (.bl true)) (eIf (eBin dEq (eVar 6) (eVar 1)) (eC (.str "old")) (eVar 6)) [6])])]) [4, 5]))
    (gSeq (gLput (eVar 3) (eVar 2) (eArgs m_filled [(eBin dIx (eVar 3) (eVar 2)), (eVar 1)]))
    (gRet (eArgs bTuple [(eVar 3)]))))
def m_with_copy : FF := runB 7 g_with_copy
theorem ok_with_copy (T : Txt K mg) : OkF P w K mg base 2 T.f_with_copy.f T.f_with_copy.fd ["blocks", "key", "b"] m_with_copy := by
  refine @okS P w K mg base "with_copy" "with_copy" s_with_copy T.f_with_copy.f T.f_with_copy.fd ["blocks", "key", "b", "rows", "left", "pages", "page"] ["blocks", "key", "b"]  1 g_with_copy T.f_with_copy.fn sc_with_copy ?_
  intro cdv A outer s H E hr tk PO
  unfold g_with_copy
  refine sss_cons ?_ ?_
  · refine ss_setLc (own := [("left", 4), ("pages", 5)]) (vs := [4, 5]) (wk := false) rfl sc_with_copy.nd rfl rfl rfl ?_ (show BlkOk ["blocks", "key", "b", "rows", "left", "pages", "page"] (defScope s_with_copy) _ _ from ⟨rfl, by decide +kernel, by decide +kernel, by decide +kernel, by decide +kernel⟩) (fun _ _ _ _ _ => ?_) (fun _ _ _ _ _ => ?_) (fun _ _ _ _ _ => ?_)
    · refine si_seq ?_
      exact se_var 0
    · refine sg_tup rfl ?_
      refine sgs_cons (vs := [4]) (ws := [5]) ?_ ?_
      · exact sg_name sc_with_copy.nd rfl (by first | exact Or.inl rfl | exact Or.inr rfl)
      · refine sgs_cons (vs := [5]) (ws := []) ?_ ?_
        · exact sg_name sc_with_copy.nd rfl (by first | exact Or.inl rfl | exact Or.inr rfl)
        · exact sgs_nil
    · exact sts_nil
    · refine se_tup ?_
      refine sa_cons ?_ ?_
      · exact se_var 4
      · refine sa_cons ?_ ?_
        · refine se_callTy (call_tuple_ofF) (cs_tuple) rfl T.b_tuple rfl ?_
          refine sa_cons ?_ ?_
          · refine se_lc (own := [("page", 6)]) (vs := [6]) (wk := false) rfl sc_with_copy.nd ?_ (blk_nest (N := ["blocks", "key", "b", "rows", "left", "pages", "page"]) (defScope s_with_copy) rfl ⟨rfl, by decide +kernel, by decide +kernel, by decide +kernel, by decide +kernel⟩) (fun _ _ _ _ _ => ?_) (fun _ _ _ _ _ => ?_) (fun _ _ _ _ _ => ?_)
            · refine si_seq ?_
              exact se_var 5
            · exact sg_name sc_with_copy.nd rfl (by first | exact Or.inl rfl | exact Or.inr rfl)
            · exact sts_nil
            · refine se_if ?_ ?_ ?_
              · refine st_cmp (op_eq2 hr.units) os_eq ?_ ?_ (nomark _)
                · exact se_var 6
                · exact se_var 1
              · exact se_str
              · exact se_var 6
          · exact sa_nil
        · exact sa_nil
  · refine sss_cons ?_ ?_
    · refine ss_lput ?_ ?_ ?_
      · exact se_var 3
      · exact se_var 2
      · refine se_callA T.f_filled (ok_filled T) tk (hr.mono (by decide)) rfl ?_
        refine sa_cons ?_ ?_
        · refine se_ix ?_ ?_
          · exact se_var 3
          · exact se_var 2
        · refine sa_cons ?_ ?_
          · exact se_var 1
          · exact sa_nil
    · refine sss_one ?_
      refine ss_ret ?_
      refine se_callTy (call_tuple_ofF) (cs_tuple) rfl T.b_tuple rfl ?_
      refine sa_cons ?_ ?_
      · exact se_var 3
      · exact sa_nil

theorem sc_blocks_behind : FnScope ["blocks", "asked", "act", "reply", "b"] ["blocks", "asked", "act", "reply"] (defScope s_blocks_behind) := ⟨rfl, rfl, rfl, by decide +kernel, rfl, by decide +kernel, by decide +kernel⟩
def g_blocks_behind : FS := (gSeq (gSet 4 (eBin dIx (eVar 2) (eNeg (eC (.int 1)))))
    (gSeq (gIf (eBin dEq (eVar 3) (eC (.str "bad"))) (gRet (eArgs m_with_block [(eVar 0), (eVar 4), (eArgs m_gone_bad [(eBin dIx (eVar 0) (eVar 4))])])) gNext)
    (gSeq (gIf (eBin dEq (eBin dIx (eVar 2) (eC (.int 0))) (eC (.str "erase"))) (gRet (eArgs m_with_block [(eVar 0), (eVar 4), (eArgs m_erased [(eBin dIx (eVar 0) (eVar 4)), (eIf (eBin dEq (eVar 3) (eC (.str "cut"))) (eC (.str "old")) (eC (.str "free")))])])) gNext)
    (gSeq (gIf (eBin dEq (eVar 3) (eC (.str "cut"))) (gRet (eArgs m_with_block [(eVar 0), (eVar 4), (eArgs m_filled [(eBin dIx (eVar 0) (eVar 4)), (eC (.str "old"))])])) gNext)
    (gRet (eArgs m_with_copy [(eVar 0), (eIf (eBin dEq (eBin dIx (eVar 2) (eC (.int 0))) (eC (.str "write"))) (eVar 1) (eBin dIx (eVar 2) (eC (.int 1)))), (eVar 4)]))))))
def m_blocks_behind : FF := runB 5 g_blocks_behind
theorem ok_blocks_behind (T : Txt K mg) : OkF P w K mg base 3 T.f_blocks_behind.f T.f_blocks_behind.fd ["blocks", "asked", "act", "reply"] m_blocks_behind := by
  refine @okS P w K mg base "blocks_behind" "blocks_behind" s_blocks_behind T.f_blocks_behind.f T.f_blocks_behind.fd ["blocks", "asked", "act", "reply", "b"] ["blocks", "asked", "act", "reply"]  2 g_blocks_behind T.f_blocks_behind.fn sc_blocks_behind ?_
  intro cdv A outer s H E hr tk PO
  unfold g_blocks_behind
  refine sss_cons ?_ ?_
  · refine ss_set sc_blocks_behind.nd rfl (by first | exact Or.inl rfl | exact Or.inr rfl) ?_
    refine se_ix ?_ ?_
    · exact se_var 2
    · refine se_neg ?_
      exact se_int
  · refine sss_cons ?_ ?_
    · refine ss_if ?_ ?_ ?_
      · refine st_cmp (op_eq2 hr.units) os_eq ?_ ?_ (nomark _)
        · exact se_var 3
        · exact se_str
      · refine sss_one ?_
        refine ss_ret ?_
        refine se_callA T.f_with_block (ok_with_block T) tk (hr.mono (by decide)) rfl ?_
        refine sa_cons ?_ ?_
        · exact se_var 0
        · refine sa_cons ?_ ?_
          · exact se_var 4
          · refine sa_cons ?_ ?_
            · refine se_callA T.f_gone_bad (ok_gone_bad T) tk (hr.mono (by decide)) rfl ?_
              refine sa_cons ?_ ?_
              · refine se_ix ?_ ?_
                · exact se_var 0
                · exact se_var 4
              · exact sa_nil
            · exact sa_nil
      · exact sss_nil
    · refine sss_cons ?_ ?_
      · refine ss_if ?_ ?_ ?_
        · refine st_cmp (op_eq2 hr.units) os_eq ?_ ?_ (nomark _)
          · refine se_ix ?_ ?_
            · exact se_var 2
            · exact se_int
          · exact se_str
        · refine sss_one ?_
          refine ss_ret ?_
          refine se_callA T.f_with_block (ok_with_block T) tk (hr.mono (by decide)) rfl ?_
          refine sa_cons ?_ ?_
          · exact se_var 0
          · refine sa_cons ?_ ?_
            · exact se_var 4
            · refine sa_cons ?_ ?_
              · refine se_callA T.f_erased (ok_erased T) tk (hr.mono (by decide)) rfl ?_
                refine sa_cons ?_ ?_
                · refine se_ix ?_ ?_
                  · exact se_var 0
                  · exact se_var 4
                · refine sa_cons ?_ ?_
                  · refine se_if ?_ ?_ ?_
                    · refine st_cmp (op_eq2 hr.units) os_eq ?_ ?_ (nomark _)
                      · exact se_var 3
                      · exact se_str
                    · exact se_str
                    · exact se_str
                  · exact sa_nil
              · exact sa_nil
        · exact sss_nil
      · refine sss_cons ?_ ?_
        · refine ss_if ?_ ?_ ?_
          · refine st_cmp (op_eq2 hr.units) os_eq ?_ ?_ (nomark _)
            · exact se_var 3
            · exact se_str
          · refine sss_one ?_
            refine ss_ret ?_
            refine se_callA T.f_with_block (ok_with_block T) tk (hr.mono (by decide)) rfl ?_
            refine sa_cons ?_ ?_
            · exact se_var 0
            · refine sa_cons ?_ ?_
              · exact se_var 4
              · refine sa_cons ?_ ?_
                · refine se_callA T.f_filled (ok_filled T) tk (hr.mono (by decide)) rfl ?_
                  refine sa_cons ?_ ?_
                  · refine se_ix ?_ ?_
                    · exact se_var 0
                    · exact se_var 4
                  · refine sa_cons ?_ ?_
                    · exact se_str
                    · exact sa_nil
                · exact sa_nil
          · exact sss_nil
        · refine sss_one ?_
          refine ss_ret ?_
          refine se_callA T.f_with_copy (ok_with_copy T) tk (hr.mono (by decide)) rfl ?_
          refine sa_cons ?_ ?_
          · exact se_var 0
          · refine sa_cons ?_ ?_
            · refine se_if ?_ ?_ ?_
              · refine st_cmp (op_eq2 hr.units) os_eq ?_ ?_ (nomark _)
                · refine se_ix ?_ ?_
                  · exact se_var 2
                  · exact se_int
                · exact se_str
              · exact se_var 1
              · refine se_ix ?_ ?_
                · exact se_var 2
                · exact se_int
            · refine sa_cons ?_ ?_
              · exact se_var 4
              · exact sa_nil

theorem sc_shape_behind : FnScope ["shape", "act", "reply", "keys", "blocks", "fails", "cuts", "asked", "behind"] ["shape", "act", "reply"] (defScope s_shape_behind) := ⟨rfl, rfl, rfl, by decide +kernel, rfl, by decide +kernel, by decide +kernel⟩
def g_shape_behind : FS := (gSeq (gAsg (eVar 0) (tTup [(tName 3), (tName 4), (tName 5), (tName 6), (tName 7)]))
    (gSeq (gSet 8 (eArgs m_blocks_behind [(eVar 4), (eVar 7), (eVar 1), (eVar 2)]))
    (gSeq (gIf (eBin dEq (eVar 2) (eC (.str "bad"))) (gRet (eTup [(eVar 3), (eVar 8), (eBin dSub (eVar 5) (eC (.int 1))), (eVar 6), (eVar 7)])) gNext)
    (gSeq (gIf (eBin dNe (eVar 2) (eC (.str "done"))) (gRet (eTup [(eVar 3), (eVar 8), (eVar 5), (eBin dSub (eVar 6) (eC (.int 1))), (eC .non)])) gNext)
    (gRet (eTup [(eVar 3), (eVar 8), (eVar 5), (eVar 6), (eIf (eArgs m_is_served [(eVar 1), (eVar 2)]) (eC .non) (eVar 7))]))))))
def m_shape_behind : FF := runB 9 g_shape_behind
theorem ok_shape_behind (T : Txt K mg) : OkF P w K mg base 4 T.f_shape_behind.f T.f_shape_behind.fd ["shape", "act", "reply"] m_shape_behind := by
  refine @okS P w K mg base "shape_behind" "shape_behind" s_shape_behind T.f_shape_behind.f T.f_shape_behind.fd ["shape", "act", "reply", "keys", "blocks", "fails", "cuts", "asked", "behind"] ["shape", "act", "reply"]  3 g_shape_behind T.f_shape_behind.fn sc_shape_behind ?_
  intro cdv A outer s H E hr tk PO
  unfold g_shape_behind
  refine sss_cons ?_ ?_
  · refine ss_asg (vs := [3, 4, 5, 6, 7]) ?_ ?_
    · exact se_var 0
    · refine sg_tup rfl ?_
      refine sgs_cons (vs := [3]) (ws := [4, 5, 6, 7]) ?_ ?_
      · exact sg_name sc_shape_behind.nd rfl (by first | exact Or.inl rfl | exact Or.inr rfl)
      · refine sgs_cons (vs := [4]) (ws := [5, 6, 7]) ?_ ?_
        · exact sg_name sc_shape_behind.nd rfl (by first | exact Or.inl rfl | exact Or.inr rfl)
        · refine sgs_cons (vs := [5]) (ws := [6, 7]) ?_ ?_
          · exact sg_name sc_shape_behind.nd rfl (by first | exact Or.inl rfl | exact Or.inr rfl)
          · refine sgs_cons (vs := [6]) (ws := [7]) ?_ ?_
            · exact sg_name sc_shape_behind.nd rfl (by first | exact Or.inl rfl | exact Or.inr rfl)
            · refine sgs_cons (vs := [7]) (ws := []) ?_ ?_
              · exact sg_name sc_shape_behind.nd rfl (by first | exact Or.inl rfl | exact Or.inr rfl)
              · exact sgs_nil
  · refine sss_cons ?_ ?_
    · refine ss_set sc_shape_behind.nd rfl (by first | exact Or.inl rfl | exact Or.inr rfl) ?_
      refine se_callA T.f_blocks_behind (ok_blocks_behind T) tk (hr.mono (by decide)) rfl ?_
      refine sa_cons ?_ ?_
      · exact se_var 4
      · refine sa_cons ?_ ?_
        · exact se_var 7
        · refine sa_cons ?_ ?_
          · exact se_var 1
          · refine sa_cons ?_ ?_
            · exact se_var 2
            · exact sa_nil
    · refine sss_cons ?_ ?_
      · refine ss_if ?_ ?_ ?_
        · refine st_cmp (op_eq2 hr.units) os_eq ?_ ?_ (nomark _)
          · exact se_var 2
          · exact se_str
        · refine sss_one ?_
          refine ss_ret ?_
          refine se_tup ?_
          refine sa_cons ?_ ?_
          · exact se_var 3
          · refine sa_cons ?_ ?_
            · exact se_var 8
            · refine sa_cons ?_ ?_
              · refine se_op op_sub os_sub ?_ ?_
                · exact se_var 5
                · exact se_int
              · refine sa_cons ?_ ?_
                · exact se_var 6
                · refine sa_cons ?_ ?_
                  · exact se_var 7
                  · exact sa_nil
        · exact sss_nil
      · refine sss_cons ?_ ?_
        · refine ss_if ?_ ?_ ?_
          · refine st_cmp (op_ne2 hr.units) os_ne ?_ ?_ (nomark _)
            · exact se_var 2
            · exact se_str
          · refine sss_one ?_
            refine ss_ret ?_
            refine se_tup ?_
            refine sa_cons ?_ ?_
            · exact se_var 3
            · refine sa_cons ?_ ?_
              · exact se_var 8
              · refine sa_cons ?_ ?_
                · exact se_var 5
                · refine sa_cons ?_ ?_
                  · refine se_op op_sub os_sub ?_ ?_
                    · exact se_var 6
                    · exact se_int
                  · refine sa_cons ?_ ?_
                    · exact se_non
                    · exact sa_nil
          · exact sss_nil
        · refine sss_one ?_
          refine ss_ret ?_
          refine se_tup ?_
          refine sa_cons ?_ ?_
          · exact se_var 3
          · refine sa_cons ?_ ?_
            · exact se_var 8
            · refine sa_cons ?_ ?_
              · exact se_var 5
              · refine sa_cons ?_ ?_
                · exact se_var 6
                · refine sa_cons ?_ ?_
                  · refine se_if ?_ ?_ ?_
                    · refine st_val ?_
                      refine se_callA T.f_is_served (ok_is_served T) tk (hr.mono (by decide)) rfl ?_
                      refine sa_cons ?_ ?_
                      · exact se_var 1
                      · refine sa_cons ?_ ?_
                        · exact se_var 2
                        · exact sa_nil
                    · exact se_non
                    · exact se_var 7
                  · exact sa_nil

theorem sc_is_shape : FnScope ["shape", "keys", "blocks", "fails", "cuts", "asked"] ["shape"] (defScope s_is_shape) := ⟨rfl, rfl, rfl, by decide +kernel, rfl, by decide +kernel, by decide +kernel⟩
def g_is_shape : FS := (gSeq (gIf (eOr (eNot (eIsi "tuple" (eVar 0))) (eOr (eBin dNe (eArgs bLen [(eVar 0)]) (eC (.int 5))) (eNot (eIsi "tuple" (eBin dIx (eVar 0) (eC (.int 1))))))) (gRet (eC (.bl false))) gNext)
    (gSeq (gAsg (eVar 0) (tTup [(tName 1), (tName 2), (tName 3), (tName 4), (tName 5)]))
    (gRet (eBin dIs (eArgs m_wrong_part [(eVar 1), (eArgs bList [(eVar 2)]), (eVar 3), (eVar 4), (eVar 5)]) (eC .non)))))
def m_is_shape : FF := runB 6 g_is_shape
theorem ok_is_shape (T : Txt K mg) : OkF P w K mg base 6 T.f_is_shape.f T.f_is_shape.fd ["shape"] m_is_shape := by
  refine @okS P w K mg base "is_shape" "is_shape" s_is_shape T.f_is_shape.f T.f_is_shape.fd ["shape", "keys", "blocks", "fails", "cuts", "asked"] ["shape"]  5 g_is_shape T.f_is_shape.fn sc_is_shape ?_
  intro cdv A outer s H E hr tk PO
  unfold g_is_shape
  refine sss_cons ?_ ?_
  · refine ss_if ?_ ?_ ?_
    · refine SW.st ?_
      refine sw_or ?_ ?_
      · refine st_not ?_
        refine st_val ?_
        refine se_isi ?_ rfl T.b_isinstance rfl rfl T.b_tuple rfl
        exact se_var 0
      · refine sw_or ?_ ?_
        · refine st_cmp (op_ne2 hr.units) os_ne ?_ ?_ (nomark _)
          · refine se_callB (call_len) (cs_len) rfl T.b_len rfl ?_
            refine sa_cons ?_ ?_
            · exact se_var 0
            · exact sa_nil
          · exact se_int
        · refine sw_or1 ?_
          refine st_not ?_
          refine st_val ?_
          refine se_isi ?_ rfl T.b_isinstance rfl rfl T.b_tuple rfl
          refine se_ix ?_ ?_
          · exact se_var 0
          · exact se_int
    · refine sss_one ?_
      refine ss_ret ?_
      exact se_bl
    · exact sss_nil
  · refine sss_cons ?_ ?_
    · refine ss_asg (vs := [1, 2, 3, 4, 5]) ?_ ?_
      · exact se_var 0
      · refine sg_tup rfl ?_
        refine sgs_cons (vs := [1]) (ws := [2, 3, 4, 5]) ?_ ?_
        · exact sg_name sc_is_shape.nd rfl (by first | exact Or.inl rfl | exact Or.inr rfl)
        · refine sgs_cons (vs := [2]) (ws := [3, 4, 5]) ?_ ?_
          · exact sg_name sc_is_shape.nd rfl (by first | exact Or.inl rfl | exact Or.inr rfl)
          · refine sgs_cons (vs := [3]) (ws := [4, 5]) ?_ ?_
            · exact sg_name sc_is_shape.nd rfl (by first | exact Or.inl rfl | exact Or.inr rfl)
            · refine sgs_cons (vs := [4]) (ws := [5]) ?_ ?_
              · exact sg_name sc_is_shape.nd rfl (by first | exact Or.inl rfl | exact Or.inr rfl)
              · refine sgs_cons (vs := [5]) (ws := []) ?_ ?_
                · exact sg_name sc_is_shape.nd rfl (by first | exact Or.inl rfl | exact Or.inr rfl)
                · exact sgs_nil
    · refine sss_one ?_
      refine ss_ret ?_
      refine se_cmp op_is3 os_is ?_ ?_ (nomark _)
      · refine se_callA T.f_wrong_part (ok_wrong_part T) tk (hr.mono (by decide)) rfl ?_
        refine sa_cons ?_ ?_
        · exact se_var 1
        · refine sa_cons ?_ ?_
          · refine se_callTy (call_list_of) (cs_list) rfl T.b_list rfl ?_
            refine sa_cons ?_ ?_
            · exact se_var 2
            · exact sa_nil
          · refine sa_cons ?_ ?_
            · exact se_var 3
            · refine sa_cons ?_ ?_
              · exact se_var 4
              · refine sa_cons ?_ ?_
                · exact se_var 5
                · exact sa_nil
      · exact se_non

theorem sc_stand_of : FnScope ["shape", "keys", "blocks", "fails", "cuts", "asked"] ["shape"] (defScope s_stand_of) := ⟨rfl, rfl, rfl, by decide +kernel, rfl, by decide +kernel, by decide +kernel⟩
def g_stand_of : FS := (gSeq (gIf (eNot (eArgs m_is_shape [(eVar 0)])) gBad gNext)
    (gSeq (gAsg (eVar 0) (tTup [(tName 1), (tName 2), (tName 3), (tName 4), (tName 5)]))
    (gRet (eMake "Stand" m_Stand_init [(eVar 1), (eArgs bList [(eVar 2)]), (eVar 3), (eVar 4)] [(eVar 5)]))))
def m_stand_of : FF := runB 6 g_stand_of
theorem ok_stand_of (T : Txt K mg) : OkF P w K mg base 8 T.f_stand_of.f T.f_stand_of.fd ["shape"] m_stand_of := by
  refine @okS P w K mg base "stand_of" "stand_of" s_stand_of T.f_stand_of.f T.f_stand_of.fd ["shape", "keys", "blocks", "fails", "cuts", "asked"] ["shape"]  7 g_stand_of T.f_stand_of.fn sc_stand_of ?_
  intro cdv A outer s H E hr tk PO
  unfold g_stand_of
  refine sss_cons ?_ ?_
  · refine ss_if ?_ ?_ ?_
    · refine st_not ?_
      refine st_val ?_
      refine se_callA T.f_is_shape (ok_is_shape T) tk (hr.mono (by decide)) rfl ?_
      refine sa_cons ?_ ?_
      · exact se_var 0
      · exact sa_nil
    · refine sss_one ?_
      exact ss_bad
    · exact sss_nil
  · refine sss_cons ?_ ?_
    · refine ss_asg (vs := [1, 2, 3, 4, 5]) ?_ ?_
      · exact se_var 0
      · refine sg_tup rfl ?_
        refine sgs_cons (vs := [1]) (ws := [2, 3, 4, 5]) ?_ ?_
        · exact sg_name sc_stand_of.nd rfl (by first | exact Or.inl rfl | exact Or.inr rfl)
        · refine sgs_cons (vs := [2]) (ws := [3, 4, 5]) ?_ ?_
          · exact sg_name sc_stand_of.nd rfl (by first | exact Or.inl rfl | exact Or.inr rfl)
          · refine sgs_cons (vs := [3]) (ws := [4, 5]) ?_ ?_
            · exact sg_name sc_stand_of.nd rfl (by first | exact Or.inl rfl | exact Or.inr rfl)
            · refine sgs_cons (vs := [4]) (ws := [5]) ?_ ?_
              · exact sg_name sc_stand_of.nd rfl (by first | exact Or.inl rfl | exact Or.inr rfl)
              · refine sgs_cons (vs := [5]) (ws := []) ?_ ?_
                · exact sg_name sc_stand_of.nd rfl (by first | exact Or.inl rfl | exact Or.inr rfl)
                · exact sgs_nil
    · refine sss_one ?_
      refine ss_ret ?_
      refine se_makeA T.f_Stand_init (ok_Stand_init T) tk (hr.mono (by decide)) rfl ?_ ?_
      · refine sa_cons ?_ ?_
        · exact se_var 1
        · refine sa_cons ?_ ?_
          · refine se_callTy (call_list_of) (cs_list) rfl T.b_list rfl ?_
            refine sa_cons ?_ ?_
            · exact se_var 2
            · exact sa_nil
          · refine sa_cons ?_ ?_
            · exact se_var 3
            · refine sa_cons ?_ ?_
              · exact se_var 4
              · exact sa_nil
      · refine sk_cons ?_ ?_
        · exact se_var 5
        · exact sk_nil

theorem sc_Stand_after : FnScope ["self", "act", "reply"] ["self", "act", "reply"] (defScope s_Stand_after) := ⟨rfl, rfl, rfl, by decide +kernel, rfl, by decide +kernel, by decide +kernel⟩
def g_Stand_after : FS := (gSeq (gIf (eBin dNotIn (eVar 2) (eMeth "Stand" "replies" m_Stand_replies (eVar 0) [(eVar 1)])) (gRaise "NoReply") gNext)
    (gRet (eArgs m_stand_of [(eArgs m_shape_behind [(eFld "Stand" "_shape" (eVar 0)), (eVar 1), (eVar 2)])])))
def m_Stand_after : FF := runB 3 g_Stand_after
theorem ok_Stand_after (T : Txt K mg) : OkF P w K mg base 9 T.f_Stand_after.f T.f_Stand_after.fd ["self", "act", "reply"] m_Stand_after := by
  refine @okS P w K mg base "after" "Stand.after" s_Stand_after T.f_Stand_after.f T.f_Stand_after.fd ["self", "act", "reply"] ["self", "act", "reply"]  8 g_Stand_after T.f_Stand_after.fn sc_Stand_after ?_
  intro cdv A outer s H E hr tk PO
  unfold g_Stand_after
  refine sss_cons ?_ ?_
  · refine ss_if ?_ ?_ ?_
    · refine st_cmp (op_notIn2 (units65 hr)) os_notIn ?_ ?_ (by with_unfolding_all rfl)
      · exact se_var 2
      · refine se_methA (C := T.k_Stand) T.f_Stand_replies (ok_Stand_replies T) tk (hr.mono (by decide)) ?_ ?_
        · exact se_var 0
        · refine sa_cons ?_ ?_
          · exact se_var 1
          · exact sa_nil
    · refine sss_one ?_
      exact ss_raise rfl tk T.e_NoReply.t rfl
    · exact sss_nil
  · refine sss_one ?_
    refine ss_ret ?_
    refine se_callA T.f_stand_of (ok_stand_of T) tk (hr.mono (by decide)) rfl ?_
    refine sa_cons ?_ ?_
    · refine se_callA T.f_shape_behind (ok_shape_behind T) tk (hr.mono (by decide)) rfl ?_
      refine sa_cons ?_ ?_
      · refine se_fld ?_ T.k_Stand.g T.k_Stand.cl T.na_Stand__shape
        exact se_var 0
      · refine sa_cons ?_ ?_
        · exact se_var 1
        · refine sa_cons ?_ ?_
          · exact se_var 2
          · exact sa_nil
    · exact sa_nil

theorem sc_shape_asked : FnScope ["shape", "key"] ["shape", "key"] (defScope s_shape_asked) := ⟨rfl, rfl, rfl, by decide +kernel, rfl, by decide +kernel, by decide +kernel⟩
def g_shape_asked : FS := (gRet (eBin dAdd (eSl (eVar 0) none (some (eC (.int 4)))) (eTup [(eVar 1)])))
def m_shape_asked : FF := runB 2 g_shape_asked
theorem ok_shape_asked (T : Txt K mg) : OkF P w K mg base 1 T.f_shape_asked.f T.f_shape_asked.fd ["shape", "key"] m_shape_asked := by
  refine @okS P w K mg base "shape_asked" "shape_asked" s_shape_asked T.f_shape_asked.f T.f_shape_asked.fd ["shape", "key"] ["shape", "key"]  0 g_shape_asked T.f_shape_asked.fn sc_shape_asked ?_
  intro cdv A outer s H E hr tk PO
  unfold g_shape_asked
  refine sss_one ?_
  refine ss_ret ?_
  refine se_op op_add4 os_add ?_ ?_
  · refine se_sl ?_ ?_ ?_
    · exact se_var 0
    · exact SO.no
    · refine SO.yes ?_
      exact se_int
  · refine se_tup ?_
    refine sa_cons ?_ ?_
    · exact se_var 1
    · exact sa_nil

theorem sc_Stand_put : FnScope ["self", "key"] ["self", "key"] (defScope s_Stand_put) := ⟨rfl, rfl, rfl, by decide +kernel, rfl, by decide +kernel, by decide +kernel⟩
def g_Stand_put : FS := (gSeq (gIf (eBin dIsNot (eMeth "Stand" "asked" m_Stand_asked (eVar 0) []) (eC .non)) (gRaise "NotAtRest") gNext)
    (gSeq (gIf (eNot (eArgs m_is_key [(eVar 1), (eMeth "Stand" "many" m_Stand_many (eVar 0) [])])) (gRaise "NoKey") gNext)
    (gRet (eArgs m_stand_of [(eArgs m_shape_asked [(eFld "Stand" "_shape" (eVar 0)), (eVar 1)])]))))
def m_Stand_put : FF := runB 2 g_Stand_put
theorem ok_Stand_put (T : Txt K mg) : OkF P w K mg base 9 T.f_Stand_put.f T.f_Stand_put.fd ["self", "key"] m_Stand_put := by
  refine @okS P w K mg base "put" "Stand.put" s_Stand_put T.f_Stand_put.f T.f_Stand_put.fd ["self", "key"] ["self", "key"]  8 g_Stand_put T.f_Stand_put.fn sc_Stand_put ?_
  intro cdv A outer s H E hr tk PO
  unfold g_Stand_put
  refine sss_cons ?_ ?_
  · refine ss_if ?_ ?_ ?_
    · refine st_cmp op_isNot3 os_isNot ?_ ?_ (nomark _)
      · refine se_methA0 (C := T.k_Stand) T.f_Stand_asked (ok_Stand_asked T) tk (hr.mono (by decide)) ?_
        exact se_var 0
      · exact se_non
    · refine sss_one ?_
      exact ss_raise rfl tk T.e_NotAtRest.t rfl
    · exact sss_nil
  · refine sss_cons ?_ ?_
    · refine ss_if ?_ ?_ ?_
      · refine st_not ?_
        refine st_val ?_
        refine se_callA T.f_is_key (ok_is_key T) tk (hr.mono (by decide)) rfl ?_
        refine sa_cons ?_ ?_
        · exact se_var 1
        · refine sa_cons ?_ ?_
          · refine se_methA0 (C := T.k_Stand) T.f_Stand_many (ok_Stand_many T) tk (hr.mono (by decide)) ?_
            exact se_var 0
          · exact sa_nil
      · refine sss_one ?_
        exact ss_raise rfl tk T.e_NoKey.t rfl
      · exact sss_nil
    · refine sss_one ?_
      refine ss_ret ?_
      refine se_callA T.f_stand_of (ok_stand_of T) tk (hr.mono (by decide)) rfl ?_
      refine sa_cons ?_ ?_
      · refine se_callA T.f_shape_asked (ok_shape_asked T) tk (hr.mono (by decide)) rfl ?_
        refine sa_cons ?_ ?_
        · refine se_fld ?_ T.k_Stand.g T.k_Stand.cl T.na_Stand__shape
          exact se_var 0
        · refine sa_cons ?_ ?_
          · exact se_var 1
          · exact sa_nil
      · exact sa_nil

theorem sc__law_program_step : FnScope ["stand", "item"] ["stand", "item"] (defScope s__law_program_step) := ⟨rfl, rfl, rfl, by decide +kernel, rfl, by decide +kernel, by decide +kernel⟩
def g__law_program_step : FS := (gSeq (gIf (eIsi "tuple" (eVar 1)) (gRet (eMeth "Stand" "after" m_Stand_after (eVar 0) [(eBin dIx (eVar 1) (eC (.int 0))), (eBin dIx (eVar 1) (eC (.int 1)))])) gNext)
    (gRet (eMeth "Stand" "put" m_Stand_put (eVar 0) [(eVar 1)])))
def m__law_program_step : FF := runB 2 g__law_program_step
theorem ok__law_program_step (T : Txt K mg) : OkF P w K mg base 10 T.f__law_program_step.f T.f__law_program_step.fd ["stand", "item"] m__law_program_step := by
  refine @okS P w K mg base "_law_program_step" "_law_program_step" s__law_program_step T.f__law_program_step.f T.f__law_program_step.fd ["stand", "item"] ["stand", "item"]  9 g__law_program_step T.f__law_program_step.fn sc__law_program_step ?_
  intro cdv A outer s H E hr tk PO
  unfold g__law_program_step
  refine sss_cons ?_ ?_
  · refine ss_if ?_ ?_ ?_
    · refine st_val ?_
      refine se_isi ?_ rfl T.b_isinstance rfl rfl T.b_tuple rfl
      exact se_var 1
    · refine sss_one ?_
      refine ss_ret ?_
      refine se_methA (C := T.k_Stand) T.f_Stand_after (ok_Stand_after T) tk (hr.mono (by decide)) ?_ ?_
      · exact se_var 0
      · refine sa_cons ?_ ?_
        · refine se_ix ?_ ?_
          · exact se_var 1
          · exact se_int
        · refine sa_cons ?_ ?_
          · refine se_ix ?_ ?_
            · exact se_var 1
            · exact se_int
          · exact sa_nil
    · exact sss_nil
  · refine sss_one ?_
    refine ss_ret ?_
    refine se_methA (C := T.k_Stand) T.f_Stand_put (ok_Stand_put T) tk (hr.mono (by decide)) ?_ ?_
    · exact se_var 0
    · refine sa_cons ?_ ?_
      · exact se_var 1
      · exact sa_nil

theorem sc_law : FnScope ["script", "shape", "start", "stands", "shapes", "row", "k", "item", "serves", "now"] ["script"] (defScope s_law) := ⟨rfl, rfl, rfl, by decide +kernel, rfl, by decide +kernel, by decide +kernel⟩
def g_law : FS := (gSeq (gSet 1 (eArgs m__law_any_stand [(eVar 0), (eC (.int 1))]))
    (gSeq (gSet 2 (eArgs m__law_stand [(eVar 1)]))
    (gSeq (gIf (eNot (eArgs m__law_agrees [(eVar 2), (eVar 1)])) (gRet (eC (.bl false))) gNext)
    (gSeq (gSet 3 (eLst [(eVar 2)]))
    (gSeq (gSet 4 (eLst [(eVar 1)]))
    (gSeq (gSet 5 (eLst []))
    (gSeq (gFor (fiRg [(eArgs bMax2 [(eC (.int 6)), (eBin dSub (eArgs bMin2 [(eArgs bLen [(eVar 0)]), (eC (.int 63))]) (eC (.int 11)))])]) (tName 6) (gSeq (gSet 7 (eArgs m__law_choice [(eBin dIx (eVar 4) (eVar 6)), (eArgs m__law_cell [(eVar 0), (eBin dAdd (eC (.int 11)) (eVar 6))])]))
    (gSeq (gIf (eBin dIs (eVar 7) (eC .non)) gBreak gNext)
    (gSeq (gIf (eIsi "tuple" (eVar 7)) (gSeq (gSet 8 (eAnd (eBin dEq (eBin dIx (eBin dIx (eVar 7) (eC (.int 0))) (eC (.int 0))) (eC (.str "write"))) (eBin dEq (eBin dIx (eVar 7) (eC (.int 1))) (eC (.str "done")))))
    (gSeq (gIf (eNot (eArgs (m__law_same 8) [(eMeth "Stand" "replies" m_Stand_replies (eBin dIx (eVar 3) (eVar 6)) [(eBin dIx (eVar 7) (eC (.int 0)))]), (eArgs m__law_replies [(eBin dIx (eVar 4) (eVar 6))])])) (gRet (eC (.bl false))) gNext)
    (gIf (eNot (eArgs (m__law_same 8) [(eMeth "Stand" "served" m_Stand_served (eBin dIx (eVar 3) (eVar 6)) [(eBin dIx (eVar 7) (eC (.int 0))), (eBin dIx (eVar 7) (eC (.int 1)))]), (eVar 8)])) (gRet (eC (.bl false))) gNext))) gNext)
    (gSeq (gDrop (eLm lAppend (eVar 5) [(eVar 7)]))
    (gSeq (gDrop (eLm lAppend (eVar 4) [(eArgs m__law_model_step [(eBin dIx (eVar 4) (eVar 6)), (eVar 7)])]))
    (gSeq (gDrop (eLm lAppend (eVar 3) [(eArgs m__law_program_step [(eBin dIx (eVar 3) (eVar 6)), (eVar 7)])]))
    (gIf (eNot (eArgs m__law_agrees [(eBin dIx (eVar 3) (eBin dAdd (eVar 6) (eC (.int 1)))), (eBin dIx (eVar 4) (eBin dAdd (eVar 6) (eC (.int 1))))])) (gRet (eC (.bl false))) gNext))))))))
    (gSeq (gSet 9 (eVar 2))
    (gSeq (gFor (fiSeq (eVar 5)) (tName 7) (gSet 9 (eArgs m__law_program_step [(eVar 9), (eVar 7)])))
    (gSeq (gFor (fiRg [(eArgs bLen [(eVar 3)])]) (tName 6) (gIf (eNot (eArgs (m__law_same 8) [(eMeth "Stand" "shape" m_Stand_shape (eBin dIx (eVar 3) (eVar 6)) []), (eBin dIx (eVar 4) (eVar 6))])) (gRet (eC (.bl false))) gNext))
    (gRet (eArgs (m__law_same 8) [(eMeth "Stand" "shape" m_Stand_shape (eVar 9) []), (eBin dIx (eVar 4) (eBin dSub (eArgs bLen [(eVar 4)]) (eC (.int 1))))]))))))))))))
def m_law : FF := runB 10 g_law
theorem ok_law (T : Txt K mg) : OkF P w K mg base 11 T.f_law.f T.f_law.fd ["script"] m_law := by
  refine @okS P w K mg base "law" "law" s_law T.f_law.f T.f_law.fd ["script", "shape", "start", "stands", "shapes", "row", "k", "item", "serves", "now"] ["script"]  10 g_law T.f_law.fn sc_law ?_
  intro cdv A outer s H E hr tk PO
  unfold g_law
  refine sss_cons ?_ ?_
  · refine ss_set sc_law.nd rfl (by first | exact Or.inl rfl | exact Or.inr rfl) ?_
    refine se_callA T.f__law_any_stand (ok__law_any_stand T) tk (hr.mono (by decide)) rfl ?_
    refine sa_cons ?_ ?_
    · exact se_var 0
    · refine sa_cons ?_ ?_
      · exact se_int
      · exact sa_nil
  · refine sss_cons ?_ ?_
    · refine ss_set sc_law.nd rfl (by first | exact Or.inl rfl | exact Or.inr rfl) ?_
      refine se_callA T.f__law_stand (ok__law_stand T) tk (hr.mono (by decide)) rfl ?_
      refine sa_cons ?_ ?_
      · exact se_var 1
      · exact sa_nil
    · refine sss_cons ?_ ?_
      · refine ss_if ?_ ?_ ?_
        · refine st_not ?_
          refine st_val ?_
          refine se_callA T.f__law_agrees (ok__law_agrees T) tk (hr.mono (by decide)) rfl ?_
          refine sa_cons ?_ ?_
          · exact se_var 2
          · refine sa_cons ?_ ?_
            · exact se_var 1
            · exact sa_nil
        · refine sss_one ?_
          refine ss_ret ?_
          exact se_bl
        · exact sss_nil
      · refine sss_cons ?_ ?_
        · refine ss_set sc_law.nd rfl (by first | exact Or.inl rfl | exact Or.inr rfl) ?_
          refine se_lst ?_
          refine sa_cons ?_ ?_
          · exact se_var 2
          · exact sa_nil
        · refine sss_cons ?_ ?_
          · refine ss_set sc_law.nd rfl (by first | exact Or.inl rfl | exact Or.inr rfl) ?_
            refine se_lst ?_
            refine sa_cons ?_ ?_
            · exact se_var 1
            · exact sa_nil
          · refine sss_cons ?_ ?_
            · refine ss_set sc_law.nd rfl (by first | exact Or.inl rfl | exact Or.inr rfl) ?_
              refine se_lst ?_
              exact sa_nil
            · refine sss_cons ?_ ?_
              · refine ss_for (vs := [6]) (wk := false) PO rfl ?_ ?_ ?_
                · refine si_rg1 rfl T.b_range ?_
                  refine sa_cons ?_ ?_
                  · refine se_callB (call_max2 rfl) (cs_two _) rfl T.b_max rfl ?_
                    refine sa_cons ?_ ?_
                    · exact se_int
                    · refine sa_cons ?_ ?_
                      · refine se_op op_sub os_sub ?_ ?_
                        · refine se_callB (call_min2 rfl) (cs_two _) rfl T.b_min rfl ?_
                          refine sa_cons ?_ ?_
                          · refine se_callB (call_len) (cs_len) rfl T.b_len rfl ?_
                            refine sa_cons ?_ ?_
                            · exact se_var 0
                            · exact sa_nil
                          · refine sa_cons ?_ ?_
                            · exact se_int
                            · exact sa_nil
                        · exact se_int
                      · exact sa_nil
                  · exact sa_nil
                · exact sg_name sc_law.nd rfl (by first | exact Or.inl rfl | exact Or.inr rfl)
                · refine sss_cons ?_ ?_
                  · refine ss_set sc_law.nd rfl (by first | exact Or.inl rfl | exact Or.inr rfl) ?_
                    refine se_callA T.f__law_choice (ok__law_choice T) tk (hr.mono (by decide)) rfl ?_
                    refine sa_cons ?_ ?_
                    · refine se_ix ?_ ?_
                      · exact se_var 4
                      · exact se_var 6
                    · refine sa_cons ?_ ?_
                      · refine se_callA T.f__law_cell (ok__law_cell T) tk (hr.mono (by decide)) rfl ?_
                        refine sa_cons ?_ ?_
                        · exact se_var 0
                        · refine sa_cons ?_ ?_
                          · refine se_op op_add4 os_add ?_ ?_
                            · exact se_int
                            · exact se_var 6
                          · exact sa_nil
                      · exact sa_nil
                  · refine sss_cons ?_ ?_
                    · refine ss_if ?_ ?_ ?_
                      · refine st_cmp op_is3 os_is ?_ ?_ (nomark _)
                        · exact se_var 7
                        · exact se_non
                      · refine sss_one ?_
                        exact ss_break
                      · exact sss_nil
                    · refine sss_cons ?_ ?_
                      · refine ss_if ?_ ?_ ?_
                        · refine st_val ?_
                          refine se_isi ?_ rfl T.b_isinstance rfl rfl T.b_tuple rfl
                          exact se_var 7
                        · refine sss_cons ?_ ?_
                          · refine ss_set sc_law.nd rfl (by first | exact Or.inl rfl | exact Or.inr rfl) ?_
                            refine se_and ?_ ?_
                            · refine se_cmp (op_eq2 hr.units) os_eq ?_ ?_ (nomark _)
                              · refine se_ix ?_ ?_
                                · refine se_ix ?_ ?_
                                  · exact se_var 7
                                  · exact se_int
                                · exact se_int
                              · exact se_str
                            · refine se_one ?_
                              refine se_cmp (op_eq2 hr.units) os_eq ?_ ?_ (nomark _)
                              · refine se_ix ?_ ?_
                                · exact se_var 7
                                · exact se_int
                              · exact se_str
                          · refine sss_cons ?_ ?_
                            · refine ss_if ?_ ?_ ?_
                              · refine st_not ?_
                                refine st_val ?_
                                refine se_callA T.f__law_same (ok__law_same T 8) tk (hr.mono (by decide)) rfl ?_
                                refine sa_cons ?_ ?_
                                · refine se_methA (C := T.k_Stand) T.f_Stand_replies (ok_Stand_replies T) tk (hr.mono (by decide)) ?_ ?_
                                  · refine se_ix ?_ ?_
                                    · exact se_var 3
                                    · exact se_var 6
                                  · refine sa_cons ?_ ?_
                                    · refine se_ix ?_ ?_
                                      · exact se_var 7
                                      · exact se_int
                                    · exact sa_nil
                                · refine sa_cons ?_ ?_
                                  · refine se_callA T.f__law_replies (ok__law_replies T) tk (hr.mono (by decide)) rfl ?_
                                    refine sa_cons ?_ ?_
                                    · refine se_ix ?_ ?_
                                      · exact se_var 4
                                      · exact se_var 6
                                    · exact sa_nil
                                  · exact sa_nil
                              · refine sss_one ?_
                                refine ss_ret ?_
                                exact se_bl
                              · exact sss_nil
                            · refine sss_one ?_
                              refine ss_if ?_ ?_ ?_
                              · refine st_not ?_
                                refine st_val ?_
                                refine se_callA T.f__law_same (ok__law_same T 8) tk (hr.mono (by decide)) rfl ?_
                                refine sa_cons ?_ ?_
                                · refine se_methA (C := T.k_Stand) T.f_Stand_served (ok_Stand_served T) tk (hr.mono (by decide)) ?_ ?_
                                  · refine se_ix ?_ ?_
                                    · exact se_var 3
                                    · exact se_var 6
                                  · refine sa_cons ?_ ?_
                                    · refine se_ix ?_ ?_
                                      · exact se_var 7
                                      · exact se_int
                                    · refine sa_cons ?_ ?_
                                      · refine se_ix ?_ ?_
                                        · exact se_var 7
                                        · exact se_int
                                      · exact sa_nil
                                · refine sa_cons ?_ ?_
                                  · exact se_var 8
                                  · exact sa_nil
                              · refine sss_one ?_
                                refine ss_ret ?_
                                exact se_bl
                              · exact sss_nil
                        · exact sss_nil
                      · refine sss_cons ?_ ?_
                        · refine ss_expr ?_
                          refine se_lm PySem.F.plainAttrs_list PySem.F.slot_list_append PySem.F.type_list_append mt_append ls_append ?_ ?_
                          · exact se_var 5
                          · refine sa_cons ?_ ?_
                            · exact se_var 7
                            · exact sa_nil
                        · refine sss_cons ?_ ?_
                          · refine ss_expr ?_
                            refine se_lm PySem.F.plainAttrs_list PySem.F.slot_list_append PySem.F.type_list_append mt_append ls_append ?_ ?_
                            · exact se_var 4
                            · refine sa_cons ?_ ?_
                              · refine se_callA T.f__law_model_step (ok__law_model_step T) tk (hr.mono (by decide)) rfl ?_
                                refine sa_cons ?_ ?_
                                · refine se_ix ?_ ?_
                                  · exact se_var 4
                                  · exact se_var 6
                                · refine sa_cons ?_ ?_
                                  · exact se_var 7
                                  · exact sa_nil
                              · exact sa_nil
                          · refine sss_cons ?_ ?_
                            · refine ss_expr ?_
                              refine se_lm PySem.F.plainAttrs_list PySem.F.slot_list_append PySem.F.type_list_append mt_append ls_append ?_ ?_
                              · exact se_var 3
                              · refine sa_cons ?_ ?_
                                · refine se_callA T.f__law_program_step (ok__law_program_step T) tk (hr.mono (by decide)) rfl ?_
                                  refine sa_cons ?_ ?_
                                  · refine se_ix ?_ ?_
                                    · exact se_var 3
                                    · exact se_var 6
                                  · refine sa_cons ?_ ?_
                                    · exact se_var 7
                                    · exact sa_nil
                                · exact sa_nil
                            · refine sss_one ?_
                              refine ss_if ?_ ?_ ?_
                              · refine st_not ?_
                                refine st_val ?_
                                refine se_callA T.f__law_agrees (ok__law_agrees T) tk (hr.mono (by decide)) rfl ?_
                                refine sa_cons ?_ ?_
                                · refine se_ix ?_ ?_
                                  · exact se_var 3
                                  · refine se_op op_add4 os_add ?_ ?_
                                    · exact se_var 6
                                    · exact se_int
                                · refine sa_cons ?_ ?_
                                  · refine se_ix ?_ ?_
                                    · exact se_var 4
                                    · refine se_op op_add4 os_add ?_ ?_
                                      · exact se_var 6
                                      · exact se_int
                                  · exact sa_nil
                              · refine sss_one ?_
                                refine ss_ret ?_
                                exact se_bl
                              · exact sss_nil
              · refine sss_cons ?_ ?_
                · refine ss_set sc_law.nd rfl (by first | exact Or.inl rfl | exact Or.inr rfl) ?_
                  exact se_var 2
                · refine sss_cons ?_ ?_
                  · refine ss_for (vs := [7]) (wk := false) PO rfl ?_ ?_ ?_
                    · refine si_seq ?_
                      exact se_var 5
                    · exact sg_name sc_law.nd rfl (by first | exact Or.inl rfl | exact Or.inr rfl)
                    · refine sss_one ?_
                      refine ss_set sc_law.nd rfl (by first | exact Or.inl rfl | exact Or.inr rfl) ?_
                      refine se_callA T.f__law_program_step (ok__law_program_step T) tk (hr.mono (by decide)) rfl ?_
                      refine sa_cons ?_ ?_
                      · exact se_var 9
                      · refine sa_cons ?_ ?_
                        · exact se_var 7
                        · exact sa_nil
                  · refine sss_cons ?_ ?_
                    · refine ss_for (vs := [6]) (wk := false) PO rfl ?_ ?_ ?_
                      · refine si_rg1 rfl T.b_range ?_
                        refine sa_cons ?_ ?_
                        · refine se_callB (call_len) (cs_len) rfl T.b_len rfl ?_
                          refine sa_cons ?_ ?_
                          · exact se_var 3
                          · exact sa_nil
                        · exact sa_nil
                      · exact sg_name sc_law.nd rfl (by first | exact Or.inl rfl | exact Or.inr rfl)
                      · refine sss_one ?_
                        refine ss_if ?_ ?_ ?_
                        · refine st_not ?_
                          refine st_val ?_
                          refine se_callA T.f__law_same (ok__law_same T 8) tk (hr.mono (by decide)) rfl ?_
                          refine sa_cons ?_ ?_
                          · refine se_methA0 (C := T.k_Stand) T.f_Stand_shape (ok_Stand_shape T) tk (hr.mono (by decide)) ?_
                            refine se_ix ?_ ?_
                            · exact se_var 3
                            · exact se_var 6
                          · refine sa_cons ?_ ?_
                            · refine se_ix ?_ ?_
                              · exact se_var 4
                              · exact se_var 6
                            · exact sa_nil
                        · refine sss_one ?_
                          refine ss_ret ?_
                          exact se_bl
                        · exact sss_nil
                    · refine sss_one ?_
                      refine ss_ret ?_
                      refine se_callA T.f__law_same (ok__law_same T 8) tk (hr.mono (by decide)) rfl ?_
                      refine sa_cons ?_ ?_
                      · refine se_methA0 (C := T.k_Stand) T.f_Stand_shape (ok_Stand_shape T) tk (hr.mono (by decide)) ?_
                        exact se_var 9
                      · refine sa_cons ?_ ?_
                        · refine se_ix ?_ ?_
                          · exact se_var 4
                          · refine se_op op_sub os_sub ?_ ?_
                            · refine se_callB (call_len) (cs_len) rfl T.b_len rfl ?_
                              refine sa_cons ?_ ?_
                              · exact se_var 4
                              · exact sa_nil
                            · exact se_int
                        · exact sa_nil

end
theorem all_mk {P : Program} {w : World} {K : PySem.W.Frag} {h : Heap} {mg : Str → Option Value} {fa : Addr} {t_MOST_BLOCKS : Tok} {t_MOST_KEYS : Tok} {t_MOST_LEFT : Tok} {t_MOST_LOSSES : Tok} {t_MOST_PAGES : Tok} {C_Stand : Addr} {E_NoAct : Addr} {E_NoKey : Addr} {E_NoReply : Addr} {E_NotAtRest : Addr} {f__law_cell : Addr} {f__law_mixed : Addr} {f__law_digits : Addr} {f__law_left : Addr} {f__law_pages : Addr} {f__law_block : Addr} {f__law_drawn : Addr} {f__law_small_left : Addr} {f__law_small : Addr} {f__law_any_stand : Addr} {f_is_whole : Addr} {f_is_left : Addr} {f_is_key : Addr} {f_is_block : Addr} {f_are_blocks : Addr} {f_wrong_part : Addr} {f_Stand_init : Addr} {f__law_stand : Addr} {f_Stand_shape : Addr} {f__law_same : Addr} {f_has_room : Addr} {f_places : Addr} {f_held : Addr} {f_can_be_erased : Addr} {f_acts_on : Addr} {f_shape_acts : Addr} {f_Stand_acts : Addr} {f__law_rooms : Addr} {f__law_place : Addr} {f__law_erasable : Addr} {f__law_acts : Addr} {f_Stand_asked : Addr} {f_Stand_many : Addr} {f_Stand_where : Addr} {f__law_agrees : Addr} {f__law_replies : Addr} {f__law_choice : Addr} {f_is_act : Addr} {f_Stand_fails : Addr} {f_Stand_cuts : Addr} {f_let_replies : Addr} {f_Stand_replies : Addr} {f_is_served : Addr} {f_Stand_served : Addr} {f__law_bad : Addr} {f__law_erased : Addr} {f__law_filled : Addr} {f__law_aged : Addr} {f__law_rows_after : Addr} {f__law_after : Addr} {f__law_put : Addr} {f__law_model_step : Addr} {f_gone_bad : Addr} {f_with_block : Addr} {f_erased : Addr} {f_filled : Addr} {f_with_copy : Addr} {f_blocks_behind : Addr} {f_shape_behind : Addr} {f_is_shape : Addr} {f_stand_of : Addr} {f_Stand_after : Addr} {f_shape_asked : Addr} {f_Stand_put : Addr} {f__law_program_step : Addr} {f_law : Addr} (LT : ∀ ns : List Int, ns.length ≤ 63 → ∃ h', m_law [.scl (ns.map D.int)] [] = .ok (.bl true) h') (X : K.In h) (G : h.Ns mainGlobals mg) (hfa : mg "law" = some (.ref fa))
    (b_all : PySem.W.nsIn K mainGlobals "all" = some none)
    (b_any : PySem.W.nsIn K mainGlobals "any" = some none)
    (b_bool : PySem.W.nsIn K mainGlobals "bool" = some none)
    (b_enumerate : PySem.W.nsIn K mainGlobals "enumerate" = some none)
    (b_int : PySem.W.nsIn K mainGlobals "int" = some none)
    (b_isinstance : PySem.W.nsIn K mainGlobals "isinstance" = some none)
    (b_len : PySem.W.nsIn K mainGlobals "len" = some none)
    (b_list : PySem.W.nsIn K mainGlobals "list" = some none)
    (b_max : PySem.W.nsIn K mainGlobals "max" = some none)
    (b_min : PySem.W.nsIn K mainGlobals "min" = some none)
    (b_range : PySem.W.nsIn K mainGlobals "range" = some none)
    (b_set : PySem.W.nsIn K mainGlobals "set" = some none)
    (b_sorted : PySem.W.nsIn K mainGlobals "sorted" = some none)
    (b_str : PySem.W.nsIn K mainGlobals "str" = some none)
    (b_tuple : PySem.W.nsIn K mainGlobals "tuple" = some none)
    (c_MOST_BLOCKS : PySem.W.nsIn K mainGlobals "MOST_BLOCKS" = some (some (.int 9 t_MOST_BLOCKS)))
    (c_MOST_KEYS : PySem.W.nsIn K mainGlobals "MOST_KEYS" = some (some (.int 9 t_MOST_KEYS)))
    (c_MOST_LEFT : PySem.W.nsIn K mainGlobals "MOST_LEFT" = some (some (.int 99 t_MOST_LEFT)))
    (c_MOST_LOSSES : PySem.W.nsIn K mainGlobals "MOST_LOSSES" = some (some (.int 9 t_MOST_LOSSES)))
    (c_MOST_PAGES : PySem.W.nsIn K mainGlobals "MOST_PAGES" = some (some (.int 6 t_MOST_PAGES)))
    (a_Stand : PySem.W.nsIn K mainGlobals "Stand" = some (some (.ref C_Stand)))
    (pg_Stand : PySem.W.plainGet K C_Stand Str.empty = true)
    (hd_Stand : PySem.W.hasDictIn K C_Stand = true)
    (po_Stand : PySem.W.plainOver K C_Stand = true)
    (sa_Stand : PySem.W.findIn K (.ref C_Stand) "__setattr__" = some (some (.builtin "object.__setattr__")))
    (mk_Stand : PySem.W.makesIn K C_Stand = true)
    (kc_Stand : PySem.W.keepIn K (.ref C_Stand) = true)
    (na_Stand__shape : PySem.W.findIn K (.ref C_Stand) "_shape" = some none)
    (e_NoAct : PySem.W.nsIn K mainGlobals "NoAct" = some (some (.ref E_NoAct)))
    (x_NoAct : PySem.W.excIn K E_NoAct [.type "ValueError", .type "Exception", .type "BaseException", .type "object"] "ValueError.__new__" = true)
    (ke_NoAct : PySem.W.keepIn K (.ref E_NoAct) = true)
    (be_NoAct : PySem.W.subIn K (.ref E_NoAct) (.type "BaseException") = some true)
    (te_NoAct : PySem.W.typeIn K (.ref E_NoAct) = some (.type "type"))
    (he_NoAct : PySem.W.hasDictIn K E_NoAct = true)
    (e_NoKey : PySem.W.nsIn K mainGlobals "NoKey" = some (some (.ref E_NoKey)))
    (x_NoKey : PySem.W.excIn K E_NoKey [.type "ValueError", .type "Exception", .type "BaseException", .type "object"] "ValueError.__new__" = true)
    (ke_NoKey : PySem.W.keepIn K (.ref E_NoKey) = true)
    (be_NoKey : PySem.W.subIn K (.ref E_NoKey) (.type "BaseException") = some true)
    (te_NoKey : PySem.W.typeIn K (.ref E_NoKey) = some (.type "type"))
    (he_NoKey : PySem.W.hasDictIn K E_NoKey = true)
    (e_NoReply : PySem.W.nsIn K mainGlobals "NoReply" = some (some (.ref E_NoReply)))
    (x_NoReply : PySem.W.excIn K E_NoReply [.type "ValueError", .type "Exception", .type "BaseException", .type "object"] "ValueError.__new__" = true)
    (ke_NoReply : PySem.W.keepIn K (.ref E_NoReply) = true)
    (be_NoReply : PySem.W.subIn K (.ref E_NoReply) (.type "BaseException") = some true)
    (te_NoReply : PySem.W.typeIn K (.ref E_NoReply) = some (.type "type"))
    (he_NoReply : PySem.W.hasDictIn K E_NoReply = true)
    (e_NotAtRest : PySem.W.nsIn K mainGlobals "NotAtRest" = some (some (.ref E_NotAtRest)))
    (x_NotAtRest : PySem.W.excIn K E_NotAtRest [.type "ValueError", .type "Exception", .type "BaseException", .type "object"] "ValueError.__new__" = true)
    (ke_NotAtRest : PySem.W.keepIn K (.ref E_NotAtRest) = true)
    (be_NotAtRest : PySem.W.subIn K (.ref E_NotAtRest) (.type "BaseException") = some true)
    (te_NotAtRest : PySem.W.typeIn K (.ref E_NotAtRest) = some (.type "type"))
    (he_NotAtRest : PySem.W.hasDictIn K E_NotAtRest = true)
    (a_f__law_cell : PySem.W.nsIn K mainGlobals "_law_cell" = some (some (.ref f__law_cell)))
    (l_f__law_cell : ∃ fd, Fun K "_law_cell" "_law_cell" s__law_cell f__law_cell fd)
    (a_f__law_mixed : PySem.W.nsIn K mainGlobals "_law_mixed" = some (some (.ref f__law_mixed)))
    (l_f__law_mixed : ∃ fd, Fun K "_law_mixed" "_law_mixed" s__law_mixed f__law_mixed fd)
    (a_f__law_digits : PySem.W.nsIn K mainGlobals "_law_digits" = some (some (.ref f__law_digits)))
    (l_f__law_digits : ∃ fd, Fun K "_law_digits" "_law_digits" s__law_digits f__law_digits fd)
    (a_f__law_left : PySem.W.nsIn K mainGlobals "_law_left" = some (some (.ref f__law_left)))
    (l_f__law_left : ∃ fd, Fun K "_law_left" "_law_left" s__law_left f__law_left fd)
    (a_f__law_pages : PySem.W.nsIn K mainGlobals "_law_pages" = some (some (.ref f__law_pages)))
    (l_f__law_pages : ∃ fd, Fun K "_law_pages" "_law_pages" s__law_pages f__law_pages fd)
    (a_f__law_block : PySem.W.nsIn K mainGlobals "_law_block" = some (some (.ref f__law_block)))
    (l_f__law_block : ∃ fd, Fun K "_law_block" "_law_block" s__law_block f__law_block fd)
    (a_f__law_drawn : PySem.W.nsIn K mainGlobals "_law_drawn" = some (some (.ref f__law_drawn)))
    (l_f__law_drawn : ∃ fd, Fun K "_law_drawn" "_law_drawn" s__law_drawn f__law_drawn fd)
    (a_f__law_small_left : PySem.W.nsIn K mainGlobals "_law_small_left" = some (some (.ref f__law_small_left)))
    (l_f__law_small_left : ∃ fd, Fun K "_law_small_left" "_law_small_left" s__law_small_left f__law_small_left fd)
    (a_f__law_small : PySem.W.nsIn K mainGlobals "_law_small" = some (some (.ref f__law_small)))
    (l_f__law_small : ∃ fd, Fun K "_law_small" "_law_small" s__law_small f__law_small fd)
    (a_f__law_any_stand : PySem.W.nsIn K mainGlobals "_law_any_stand" = some (some (.ref f__law_any_stand)))
    (l_f__law_any_stand : ∃ fd, Fun K "_law_any_stand" "_law_any_stand" s__law_any_stand f__law_any_stand fd)
    (a_f_is_whole : PySem.W.nsIn K mainGlobals "is_whole" = some (some (.ref f_is_whole)))
    (l_f_is_whole : ∃ fd, Fun K "is_whole" "is_whole" s_is_whole f_is_whole fd)
    (a_f_is_left : PySem.W.nsIn K mainGlobals "is_left" = some (some (.ref f_is_left)))
    (l_f_is_left : ∃ fd, Fun K "is_left" "is_left" s_is_left f_is_left fd)
    (a_f_is_key : PySem.W.nsIn K mainGlobals "is_key" = some (some (.ref f_is_key)))
    (l_f_is_key : ∃ fd, Fun K "is_key" "is_key" s_is_key f_is_key fd)
    (a_f_is_block : PySem.W.nsIn K mainGlobals "is_block" = some (some (.ref f_is_block)))
    (l_f_is_block : ∃ fd, Fun K "is_block" "is_block" s_is_block f_is_block fd)
    (a_f_are_blocks : PySem.W.nsIn K mainGlobals "are_blocks" = some (some (.ref f_are_blocks)))
    (l_f_are_blocks : ∃ fd, Fun K "are_blocks" "are_blocks" s_are_blocks f_are_blocks fd)
    (a_f_wrong_part : PySem.W.nsIn K mainGlobals "wrong_part" = some (some (.ref f_wrong_part)))
    (l_f_wrong_part : ∃ fd, Fun K "wrong_part" "wrong_part" s_wrong_part f_wrong_part fd)
    (a_f_Stand_init : PySem.W.findIn K (.ref C_Stand) "__init__" = some (some (.ref f_Stand_init)))
    (i_f_Stand_init : PySem.W.isFn K (.ref f_Stand_init) = true)
    (l_f_Stand_init : ∃ fd, Fun K "__init__" "Stand.__init__" s_Stand_init f_Stand_init fd)
    (a_f__law_stand : PySem.W.nsIn K mainGlobals "_law_stand" = some (some (.ref f__law_stand)))
    (l_f__law_stand : ∃ fd, Fun K "_law_stand" "_law_stand" s__law_stand f__law_stand fd)
    (a_f_Stand_shape : PySem.W.findIn K (.ref C_Stand) "shape" = some (some (.ref f_Stand_shape)))
    (i_f_Stand_shape : PySem.W.isFn K (.ref f_Stand_shape) = true)
    (l_f_Stand_shape : ∃ fd, Fun K "shape" "Stand.shape" s_Stand_shape f_Stand_shape fd)
    (a_f__law_same : PySem.W.nsIn K mainGlobals "_law_same" = some (some (.ref f__law_same)))
    (l_f__law_same : ∃ fd, Fun K "_law_same" "_law_same" s__law_same f__law_same fd)
    (a_f_has_room : PySem.W.nsIn K mainGlobals "has_room" = some (some (.ref f_has_room)))
    (l_f_has_room : ∃ fd, Fun K "has_room" "has_room" s_has_room f_has_room fd)
    (a_f_places : PySem.W.nsIn K mainGlobals "places" = some (some (.ref f_places)))
    (l_f_places : ∃ fd, Fun K "places" "places" s_places f_places fd)
    (a_f_held : PySem.W.nsIn K mainGlobals "held" = some (some (.ref f_held)))
    (l_f_held : ∃ fd, Fun K "held" "held" s_held f_held fd)
    (a_f_can_be_erased : PySem.W.nsIn K mainGlobals "can_be_erased" = some (some (.ref f_can_be_erased)))
    (l_f_can_be_erased : ∃ fd, Fun K "can_be_erased" "can_be_erased" s_can_be_erased f_can_be_erased fd)
    (a_f_acts_on : PySem.W.nsIn K mainGlobals "acts_on" = some (some (.ref f_acts_on)))
    (l_f_acts_on : ∃ fd, Fun K "acts_on" "acts_on" s_acts_on f_acts_on fd)
    (a_f_shape_acts : PySem.W.nsIn K mainGlobals "shape_acts" = some (some (.ref f_shape_acts)))
    (l_f_shape_acts : ∃ fd, Fun K "shape_acts" "shape_acts" s_shape_acts f_shape_acts fd)
    (a_f_Stand_acts : PySem.W.findIn K (.ref C_Stand) "acts" = some (some (.ref f_Stand_acts)))
    (i_f_Stand_acts : PySem.W.isFn K (.ref f_Stand_acts) = true)
    (l_f_Stand_acts : ∃ fd, Fun K "acts" "Stand.acts" s_Stand_acts f_Stand_acts fd)
    (a_f__law_rooms : PySem.W.nsIn K mainGlobals "_law_rooms" = some (some (.ref f__law_rooms)))
    (l_f__law_rooms : ∃ fd, Fun K "_law_rooms" "_law_rooms" s__law_rooms f__law_rooms fd)
    (a_f__law_place : PySem.W.nsIn K mainGlobals "_law_place" = some (some (.ref f__law_place)))
    (l_f__law_place : ∃ fd, Fun K "_law_place" "_law_place" s__law_place f__law_place fd)
    (a_f__law_erasable : PySem.W.nsIn K mainGlobals "_law_erasable" = some (some (.ref f__law_erasable)))
    (l_f__law_erasable : ∃ fd, Fun K "_law_erasable" "_law_erasable" s__law_erasable f__law_erasable fd)
    (a_f__law_acts : PySem.W.nsIn K mainGlobals "_law_acts" = some (some (.ref f__law_acts)))
    (l_f__law_acts : ∃ fd, Fun K "_law_acts" "_law_acts" s__law_acts f__law_acts fd)
    (a_f_Stand_asked : PySem.W.findIn K (.ref C_Stand) "asked" = some (some (.ref f_Stand_asked)))
    (i_f_Stand_asked : PySem.W.isFn K (.ref f_Stand_asked) = true)
    (l_f_Stand_asked : ∃ fd, Fun K "asked" "Stand.asked" s_Stand_asked f_Stand_asked fd)
    (a_f_Stand_many : PySem.W.findIn K (.ref C_Stand) "many" = some (some (.ref f_Stand_many)))
    (i_f_Stand_many : PySem.W.isFn K (.ref f_Stand_many) = true)
    (l_f_Stand_many : ∃ fd, Fun K "many" "Stand.many" s_Stand_many f_Stand_many fd)
    (a_f_Stand_where : PySem.W.findIn K (.ref C_Stand) "where" = some (some (.ref f_Stand_where)))
    (i_f_Stand_where : PySem.W.isFn K (.ref f_Stand_where) = true)
    (l_f_Stand_where : ∃ fd, Fun K "where" "Stand.where" s_Stand_where f_Stand_where fd)
    (a_f__law_agrees : PySem.W.nsIn K mainGlobals "_law_agrees" = some (some (.ref f__law_agrees)))
    (l_f__law_agrees : ∃ fd, Fun K "_law_agrees" "_law_agrees" s__law_agrees f__law_agrees fd)
    (a_f__law_replies : PySem.W.nsIn K mainGlobals "_law_replies" = some (some (.ref f__law_replies)))
    (l_f__law_replies : ∃ fd, Fun K "_law_replies" "_law_replies" s__law_replies f__law_replies fd)
    (a_f__law_choice : PySem.W.nsIn K mainGlobals "_law_choice" = some (some (.ref f__law_choice)))
    (l_f__law_choice : ∃ fd, Fun K "_law_choice" "_law_choice" s__law_choice f__law_choice fd)
    (a_f_is_act : PySem.W.nsIn K mainGlobals "is_act" = some (some (.ref f_is_act)))
    (l_f_is_act : ∃ fd, Fun K "is_act" "is_act" s_is_act f_is_act fd)
    (a_f_Stand_fails : PySem.W.findIn K (.ref C_Stand) "fails" = some (some (.ref f_Stand_fails)))
    (i_f_Stand_fails : PySem.W.isFn K (.ref f_Stand_fails) = true)
    (l_f_Stand_fails : ∃ fd, Fun K "fails" "Stand.fails" s_Stand_fails f_Stand_fails fd)
    (a_f_Stand_cuts : PySem.W.findIn K (.ref C_Stand) "cuts" = some (some (.ref f_Stand_cuts)))
    (i_f_Stand_cuts : PySem.W.isFn K (.ref f_Stand_cuts) = true)
    (l_f_Stand_cuts : ∃ fd, Fun K "cuts" "Stand.cuts" s_Stand_cuts f_Stand_cuts fd)
    (a_f_let_replies : PySem.W.nsIn K mainGlobals "let_replies" = some (some (.ref f_let_replies)))
    (l_f_let_replies : ∃ fd, Fun K "let_replies" "let_replies" s_let_replies f_let_replies fd)
    (a_f_Stand_replies : PySem.W.findIn K (.ref C_Stand) "replies" = some (some (.ref f_Stand_replies)))
    (i_f_Stand_replies : PySem.W.isFn K (.ref f_Stand_replies) = true)
    (l_f_Stand_replies : ∃ fd, Fun K "replies" "Stand.replies" s_Stand_replies f_Stand_replies fd)
    (a_f_is_served : PySem.W.nsIn K mainGlobals "is_served" = some (some (.ref f_is_served)))
    (l_f_is_served : ∃ fd, Fun K "is_served" "is_served" s_is_served f_is_served fd)
    (a_f_Stand_served : PySem.W.findIn K (.ref C_Stand) "served" = some (some (.ref f_Stand_served)))
    (i_f_Stand_served : PySem.W.isFn K (.ref f_Stand_served) = true)
    (l_f_Stand_served : ∃ fd, Fun K "served" "Stand.served" s_Stand_served f_Stand_served fd)
    (a_f__law_bad : PySem.W.nsIn K mainGlobals "_law_bad" = some (some (.ref f__law_bad)))
    (l_f__law_bad : ∃ fd, Fun K "_law_bad" "_law_bad" s__law_bad f__law_bad fd)
    (a_f__law_erased : PySem.W.nsIn K mainGlobals "_law_erased" = some (some (.ref f__law_erased)))
    (l_f__law_erased : ∃ fd, Fun K "_law_erased" "_law_erased" s__law_erased f__law_erased fd)
    (a_f__law_filled : PySem.W.nsIn K mainGlobals "_law_filled" = some (some (.ref f__law_filled)))
    (l_f__law_filled : ∃ fd, Fun K "_law_filled" "_law_filled" s__law_filled f__law_filled fd)
    (a_f__law_aged : PySem.W.nsIn K mainGlobals "_law_aged" = some (some (.ref f__law_aged)))
    (l_f__law_aged : ∃ fd, Fun K "_law_aged" "_law_aged" s__law_aged f__law_aged fd)
    (a_f__law_rows_after : PySem.W.nsIn K mainGlobals "_law_rows_after" = some (some (.ref f__law_rows_after)))
    (l_f__law_rows_after : ∃ fd, Fun K "_law_rows_after" "_law_rows_after" s__law_rows_after f__law_rows_after fd)
    (a_f__law_after : PySem.W.nsIn K mainGlobals "_law_after" = some (some (.ref f__law_after)))
    (l_f__law_after : ∃ fd, Fun K "_law_after" "_law_after" s__law_after f__law_after fd)
    (a_f__law_put : PySem.W.nsIn K mainGlobals "_law_put" = some (some (.ref f__law_put)))
    (l_f__law_put : ∃ fd, Fun K "_law_put" "_law_put" s__law_put f__law_put fd)
    (a_f__law_model_step : PySem.W.nsIn K mainGlobals "_law_model_step" = some (some (.ref f__law_model_step)))
    (l_f__law_model_step : ∃ fd, Fun K "_law_model_step" "_law_model_step" s__law_model_step f__law_model_step fd)
    (a_f_gone_bad : PySem.W.nsIn K mainGlobals "gone_bad" = some (some (.ref f_gone_bad)))
    (l_f_gone_bad : ∃ fd, Fun K "gone_bad" "gone_bad" s_gone_bad f_gone_bad fd)
    (a_f_with_block : PySem.W.nsIn K mainGlobals "with_block" = some (some (.ref f_with_block)))
    (l_f_with_block : ∃ fd, Fun K "with_block" "with_block" s_with_block f_with_block fd)
    (a_f_erased : PySem.W.nsIn K mainGlobals "erased" = some (some (.ref f_erased)))
    (l_f_erased : ∃ fd, Fun K "erased" "erased" s_erased f_erased fd)
    (a_f_filled : PySem.W.nsIn K mainGlobals "filled" = some (some (.ref f_filled)))
    (l_f_filled : ∃ fd, Fun K "filled" "filled" s_filled f_filled fd)
    (a_f_with_copy : PySem.W.nsIn K mainGlobals "with_copy" = some (some (.ref f_with_copy)))
    (l_f_with_copy : ∃ fd, Fun K "with_copy" "with_copy" s_with_copy f_with_copy fd)
    (a_f_blocks_behind : PySem.W.nsIn K mainGlobals "blocks_behind" = some (some (.ref f_blocks_behind)))
    (l_f_blocks_behind : ∃ fd, Fun K "blocks_behind" "blocks_behind" s_blocks_behind f_blocks_behind fd)
    (a_f_shape_behind : PySem.W.nsIn K mainGlobals "shape_behind" = some (some (.ref f_shape_behind)))
    (l_f_shape_behind : ∃ fd, Fun K "shape_behind" "shape_behind" s_shape_behind f_shape_behind fd)
    (a_f_is_shape : PySem.W.nsIn K mainGlobals "is_shape" = some (some (.ref f_is_shape)))
    (l_f_is_shape : ∃ fd, Fun K "is_shape" "is_shape" s_is_shape f_is_shape fd)
    (a_f_stand_of : PySem.W.nsIn K mainGlobals "stand_of" = some (some (.ref f_stand_of)))
    (l_f_stand_of : ∃ fd, Fun K "stand_of" "stand_of" s_stand_of f_stand_of fd)
    (a_f_Stand_after : PySem.W.findIn K (.ref C_Stand) "after" = some (some (.ref f_Stand_after)))
    (i_f_Stand_after : PySem.W.isFn K (.ref f_Stand_after) = true)
    (l_f_Stand_after : ∃ fd, Fun K "after" "Stand.after" s_Stand_after f_Stand_after fd)
    (a_f_shape_asked : PySem.W.nsIn K mainGlobals "shape_asked" = some (some (.ref f_shape_asked)))
    (l_f_shape_asked : ∃ fd, Fun K "shape_asked" "shape_asked" s_shape_asked f_shape_asked fd)
    (a_f_Stand_put : PySem.W.findIn K (.ref C_Stand) "put" = some (some (.ref f_Stand_put)))
    (i_f_Stand_put : PySem.W.isFn K (.ref f_Stand_put) = true)
    (l_f_Stand_put : ∃ fd, Fun K "put" "Stand.put" s_Stand_put f_Stand_put fd)
    (a_f__law_program_step : PySem.W.nsIn K mainGlobals "_law_program_step" = some (some (.ref f__law_program_step)))
    (l_f__law_program_step : ∃ fd, Fun K "_law_program_step" "_law_program_step" s__law_program_step f__law_program_step fd)
    (a_f_law : PySem.W.nsIn K mainGlobals "law" = some (some (.ref f_law)))
    (l_f_law : ∃ fd, Fun K "law" "law" s_law f_law fd) :
    ∃ fd : FuncData, (∀ (s : Shared) (v : Value), BindsTo s fd ⟨[v], []⟩ [("script", v)]) ∧ ∀ base : Heap, K.In base → base.Ns mainGlobals mg → FnOk P w K mg base (L2.CX P w) 11 fa fd ["script"] (spLaw K) := by
  have e : fa = f_law := by
    have e := hfa.symm.trans (PySem.W.mg_of X G a_f_law)
    cases e
    rfl
  rw [e]
  have ex_NoAct : ∃ A : ExAt K mg "NoAct", A.C = E_NoAct := ⟨⟨E_NoAct, PySem.W.mg_of X G e_NoAct, x_NoAct, ke_NoAct, be_NoAct, te_NoAct, he_NoAct⟩, rfl⟩
  obtain ⟨Ex_NoAct, q_NoAct⟩ := ex_NoAct
  have ex_NoKey : ∃ A : ExAt K mg "NoKey", A.C = E_NoKey := ⟨⟨E_NoKey, PySem.W.mg_of X G e_NoKey, x_NoKey, ke_NoKey, be_NoKey, te_NoKey, he_NoKey⟩, rfl⟩
  obtain ⟨Ex_NoKey, q_NoKey⟩ := ex_NoKey
  have ex_NoReply : ∃ A : ExAt K mg "NoReply", A.C = E_NoReply := ⟨⟨E_NoReply, PySem.W.mg_of X G e_NoReply, x_NoReply, ke_NoReply, be_NoReply, te_NoReply, he_NoReply⟩, rfl⟩
  obtain ⟨Ex_NoReply, q_NoReply⟩ := ex_NoReply
  have ex_NotAtRest : ∃ A : ExAt K mg "NotAtRest", A.C = E_NotAtRest := ⟨⟨E_NotAtRest, PySem.W.mg_of X G e_NotAtRest, x_NotAtRest, ke_NotAtRest, be_NotAtRest, te_NotAtRest, he_NotAtRest⟩, rfl⟩
  obtain ⟨Ex_NotAtRest, q_NotAtRest⟩ := ex_NotAtRest
  obtain ⟨d__law_cell, F__law_cell⟩ := l_f__law_cell
  obtain ⟨d__law_mixed, F__law_mixed⟩ := l_f__law_mixed
  obtain ⟨d__law_digits, F__law_digits⟩ := l_f__law_digits
  obtain ⟨d__law_left, F__law_left⟩ := l_f__law_left
  obtain ⟨d__law_pages, F__law_pages⟩ := l_f__law_pages
  obtain ⟨d__law_block, F__law_block⟩ := l_f__law_block
  obtain ⟨d__law_drawn, F__law_drawn⟩ := l_f__law_drawn
  obtain ⟨d__law_small_left, F__law_small_left⟩ := l_f__law_small_left
  obtain ⟨d__law_small, F__law_small⟩ := l_f__law_small
  obtain ⟨d__law_any_stand, F__law_any_stand⟩ := l_f__law_any_stand
  obtain ⟨d_is_whole, F_is_whole⟩ := l_f_is_whole
  obtain ⟨d_is_left, F_is_left⟩ := l_f_is_left
  obtain ⟨d_is_key, F_is_key⟩ := l_f_is_key
  obtain ⟨d_is_block, F_is_block⟩ := l_f_is_block
  obtain ⟨d_are_blocks, F_are_blocks⟩ := l_f_are_blocks
  obtain ⟨d_wrong_part, F_wrong_part⟩ := l_f_wrong_part
  obtain ⟨d_Stand_init, F_Stand_init⟩ := l_f_Stand_init
  obtain ⟨d__law_stand, F__law_stand⟩ := l_f__law_stand
  obtain ⟨d_Stand_shape, F_Stand_shape⟩ := l_f_Stand_shape
  obtain ⟨d__law_same, F__law_same⟩ := l_f__law_same
  obtain ⟨d_has_room, F_has_room⟩ := l_f_has_room
  obtain ⟨d_places, F_places⟩ := l_f_places
  obtain ⟨d_held, F_held⟩ := l_f_held
  obtain ⟨d_can_be_erased, F_can_be_erased⟩ := l_f_can_be_erased
  obtain ⟨d_acts_on, F_acts_on⟩ := l_f_acts_on
  obtain ⟨d_shape_acts, F_shape_acts⟩ := l_f_shape_acts
  obtain ⟨d_Stand_acts, F_Stand_acts⟩ := l_f_Stand_acts
  obtain ⟨d__law_rooms, F__law_rooms⟩ := l_f__law_rooms
  obtain ⟨d__law_place, F__law_place⟩ := l_f__law_place
  obtain ⟨d__law_erasable, F__law_erasable⟩ := l_f__law_erasable
  obtain ⟨d__law_acts, F__law_acts⟩ := l_f__law_acts
  obtain ⟨d_Stand_asked, F_Stand_asked⟩ := l_f_Stand_asked
  obtain ⟨d_Stand_many, F_Stand_many⟩ := l_f_Stand_many
  obtain ⟨d_Stand_where, F_Stand_where⟩ := l_f_Stand_where
  obtain ⟨d__law_agrees, F__law_agrees⟩ := l_f__law_agrees
  obtain ⟨d__law_replies, F__law_replies⟩ := l_f__law_replies
  obtain ⟨d__law_choice, F__law_choice⟩ := l_f__law_choice
  obtain ⟨d_is_act, F_is_act⟩ := l_f_is_act
  obtain ⟨d_Stand_fails, F_Stand_fails⟩ := l_f_Stand_fails
  obtain ⟨d_Stand_cuts, F_Stand_cuts⟩ := l_f_Stand_cuts
  obtain ⟨d_let_replies, F_let_replies⟩ := l_f_let_replies
  obtain ⟨d_Stand_replies, F_Stand_replies⟩ := l_f_Stand_replies
  obtain ⟨d_is_served, F_is_served⟩ := l_f_is_served
  obtain ⟨d_Stand_served, F_Stand_served⟩ := l_f_Stand_served
  obtain ⟨d__law_bad, F__law_bad⟩ := l_f__law_bad
  obtain ⟨d__law_erased, F__law_erased⟩ := l_f__law_erased
  obtain ⟨d__law_filled, F__law_filled⟩ := l_f__law_filled
  obtain ⟨d__law_aged, F__law_aged⟩ := l_f__law_aged
  obtain ⟨d__law_rows_after, F__law_rows_after⟩ := l_f__law_rows_after
  obtain ⟨d__law_after, F__law_after⟩ := l_f__law_after
  obtain ⟨d__law_put, F__law_put⟩ := l_f__law_put
  obtain ⟨d__law_model_step, F__law_model_step⟩ := l_f__law_model_step
  obtain ⟨d_gone_bad, F_gone_bad⟩ := l_f_gone_bad
  obtain ⟨d_with_block, F_with_block⟩ := l_f_with_block
  obtain ⟨d_erased, F_erased⟩ := l_f_erased
  obtain ⟨d_filled, F_filled⟩ := l_f_filled
  obtain ⟨d_with_copy, F_with_copy⟩ := l_f_with_copy
  obtain ⟨d_blocks_behind, F_blocks_behind⟩ := l_f_blocks_behind
  obtain ⟨d_shape_behind, F_shape_behind⟩ := l_f_shape_behind
  obtain ⟨d_is_shape, F_is_shape⟩ := l_f_is_shape
  obtain ⟨d_stand_of, F_stand_of⟩ := l_f_stand_of
  obtain ⟨d_Stand_after, F_Stand_after⟩ := l_f_Stand_after
  obtain ⟨d_shape_asked, F_shape_asked⟩ := l_f_shape_asked
  obtain ⟨d_Stand_put, F_Stand_put⟩ := l_f_Stand_put
  obtain ⟨d__law_program_step, F__law_program_step⟩ := l_f__law_program_step
  obtain ⟨d_law, F_law⟩ := l_f_law
  have T : ∃ T : Txt K mg, T.f_law.f = f_law ∧ T.f_law.fd = d_law := ⟨{
    b_all := PySem.W.mg_none_of X G b_all
    b_any := PySem.W.mg_none_of X G b_any
    b_bool := PySem.W.mg_none_of X G b_bool
    b_enumerate := PySem.W.mg_none_of X G b_enumerate
    b_int := PySem.W.mg_none_of X G b_int
    b_isinstance := PySem.W.mg_none_of X G b_isinstance
    b_len := PySem.W.mg_none_of X G b_len
    b_list := PySem.W.mg_none_of X G b_list
    b_max := PySem.W.mg_none_of X G b_max
    b_min := PySem.W.mg_none_of X G b_min
    b_range := PySem.W.mg_none_of X G b_range
    b_set := PySem.W.mg_none_of X G b_set
    b_sorted := PySem.W.mg_none_of X G b_sorted
    b_str := PySem.W.mg_none_of X G b_str
    b_tuple := PySem.W.mg_none_of X G b_tuple
    c_MOST_BLOCKS := ⟨_, PySem.W.mg_of X G c_MOST_BLOCKS⟩
    c_MOST_KEYS := ⟨_, PySem.W.mg_of X G c_MOST_KEYS⟩
    c_MOST_LEFT := ⟨_, PySem.W.mg_of X G c_MOST_LEFT⟩
    c_MOST_LOSSES := ⟨_, PySem.W.mg_of X G c_MOST_LOSSES⟩
    c_MOST_PAGES := ⟨_, PySem.W.mg_of X G c_MOST_PAGES⟩
    k_Stand := ⟨C_Stand, PySem.W.mg_of X G a_Stand, ⟨pg_Stand, hd_Stand, po_Stand, sa_Stand⟩⟩
    na_Stand__shape := na_Stand__shape
    e_NoAct := Ex_NoAct
    e_NoKey := Ex_NoKey
    e_NoReply := Ex_NoReply
    e_NotAtRest := Ex_NotAtRest
    f__law_cell := ⟨f__law_cell, d__law_cell, F__law_cell, PySem.W.mg_of X G a_f__law_cell, F__law_cell.binds (ps := ["script", "k"]) fun _ _ _ _ _ _ us hl => match us, hl with | [_, _], _ => rfl⟩
    f__law_mixed := ⟨f__law_mixed, d__law_mixed, F__law_mixed, PySem.W.mg_of X G a_f__law_mixed, F__law_mixed.binds (ps := ["cell", "k"]) fun _ _ _ _ _ _ us hl => match us, hl with | [_, _], _ => rfl⟩
    f__law_digits := ⟨f__law_digits, d__law_digits, F__law_digits, PySem.W.mg_of X G a_f__law_digits, F__law_digits.binds (ps := ["cell", "sizes"]) fun _ _ _ _ _ _ us hl => match us, hl with | [_, _], _ => rfl⟩
    f__law_left := ⟨f__law_left, d__law_left, F__law_left, PySem.W.mg_of X G a_f__law_left, F__law_left.binds (ps := ["digit"]) fun _ _ _ _ _ _ us hl => match us, hl with | [_], _ => rfl⟩
    f__law_pages := ⟨f__law_pages, d__law_pages, F__law_pages, PySem.W.mg_of X G a_f__law_pages, F__law_pages.binds (ps := ["digits", "rest", "pages", "written"]) fun _ _ _ _ _ _ us hl => match us, hl with | [_, _, _, _], _ => rfl⟩
    f__law_block := ⟨f__law_block, d__law_block, F__law_block, PySem.W.mg_of X G a_f__law_block, F__law_block.binds (ps := ["cell", "rest", "pages"]) fun _ _ _ _ _ _ us hl => match us, hl with | [_, _, _], _ => rfl⟩
    f__law_drawn := ⟨f__law_drawn, d__law_drawn, F__law_drawn, PySem.W.mg_of X G a_f__law_drawn, F__law_drawn.binds (ps := ["script", "at"]) fun _ _ _ _ _ _ us hl => match us, hl with | [_, _], _ => rfl⟩
    f__law_small_left := ⟨f__law_small_left, d__law_small_left, F__law_small_left, PySem.W.mg_of X G a_f__law_small_left, F__law_small_left.binds (ps := ["digit"]) fun _ _ _ _ _ _ us hl => match us, hl with | [_], _ => rfl⟩
    f__law_small := ⟨f__law_small, d__law_small, F__law_small, PySem.W.mg_of X G a_f__law_small, F__law_small.binds (ps := ["script", "at", "most_fails", "most_cuts"]) fun _ _ _ _ _ _ us hl => match us, hl with | [_, _, _, _], _ => rfl⟩
    f__law_any_stand := ⟨f__law_any_stand, d__law_any_stand, F__law_any_stand, PySem.W.mg_of X G a_f__law_any_stand, F__law_any_stand.binds (ps := ["script", "at"]) fun _ _ _ _ _ _ us hl => match us, hl with | [_, _], _ => rfl⟩
    f_is_whole := ⟨f_is_whole, d_is_whole, F_is_whole, PySem.W.mg_of X G a_f_is_whole, F_is_whole.binds (ps := ["thing", "low", "high"]) fun _ _ _ _ _ _ us hl => match us, hl with | [_, _, _], _ => rfl⟩
    f_is_left := ⟨f_is_left, d_is_left, F_is_left, PySem.W.mg_of X G a_f_is_left, F_is_left.binds (ps := ["left"]) fun _ _ _ _ _ _ us hl => match us, hl with | [_], _ => rfl⟩
    f_is_key := ⟨f_is_key, d_is_key, F_is_key, PySem.W.mg_of X G a_f_is_key, F_is_key.binds (ps := ["thing", "keys"]) fun _ _ _ _ _ _ us hl => match us, hl with | [_, _], _ => rfl⟩
    f_is_block := ⟨f_is_block, d_is_block, F_is_block, PySem.W.mg_of X G a_f_is_block, F_is_block.binds (ps := ["block", "keys"]) fun _ _ _ _ _ _ us hl => match us, hl with | [_, _], _ => rfl⟩
    f_are_blocks := ⟨f_are_blocks, d_are_blocks, F_are_blocks, PySem.W.mg_of X G a_f_are_blocks, F_are_blocks.binds (ps := ["blocks", "keys"]) fun _ _ _ _ _ _ us hl => match us, hl with | [_, _], _ => rfl⟩
    f_wrong_part := ⟨f_wrong_part, d_wrong_part, F_wrong_part, PySem.W.mg_of X G a_f_wrong_part, F_wrong_part.binds (ps := ["keys", "blocks", "fails", "cuts", "asked"]) fun _ _ _ _ _ _ us hl => match us, hl with | [_, _, _, _, _], _ => rfl⟩
    f_Stand_init := ⟨f_Stand_init, d_Stand_init, F_Stand_init, ⟨mk_Stand, a_f_Stand_init, i_f_Stand_init, kc_Stand⟩, bindsK (n := 5) F_Stand_init fun _ _ _ _ _ _ us ws h1 h2 => match us, ws, h1, h2 with | [_, _, _, _, _], [_], _, _ => rfl⟩
    f__law_stand := ⟨f__law_stand, d__law_stand, F__law_stand, PySem.W.mg_of X G a_f__law_stand, F__law_stand.binds (ps := ["shape"]) fun _ _ _ _ _ _ us hl => match us, hl with | [_], _ => rfl⟩
    f_Stand_shape := ⟨f_Stand_shape, d_Stand_shape, F_Stand_shape, ⟨a_f_Stand_shape, i_f_Stand_shape, F_Stand_shape.kp⟩, F_Stand_shape.binds (ps := ["self"]) fun _ _ _ _ _ _ us hl => match us, hl with | [_], _ => rfl⟩
    f__law_same := ⟨f__law_same, d__law_same, F__law_same, PySem.W.mg_of X G a_f__law_same, F__law_same.binds (ps := ["got", "due"]) fun _ _ _ _ _ _ us hl => match us, hl with | [_, _], _ => rfl⟩
    f_has_room := ⟨f_has_room, d_has_room, F_has_room, PySem.W.mg_of X G a_f_has_room, F_has_room.binds (ps := ["block"]) fun _ _ _ _ _ _ us hl => match us, hl with | [_], _ => rfl⟩
    f_places := ⟨f_places, d_places, F_places, PySem.W.mg_of X G a_f_places, F_places.binds (ps := ["blocks"]) fun _ _ _ _ _ _ us hl => match us, hl with | [_], _ => rfl⟩
    f_held := ⟨f_held, d_held, F_held, PySem.W.mg_of X G a_f_held, F_held.binds (ps := ["block"]) fun _ _ _ _ _ _ us hl => match us, hl with | [_], _ => rfl⟩
    f_can_be_erased := ⟨f_can_be_erased, d_can_be_erased, F_can_be_erased, PySem.W.mg_of X G a_f_can_be_erased, F_can_be_erased.binds (ps := ["block"]) fun _ _ _ _ _ _ us hl => match us, hl with | [_], _ => rfl⟩
    f_acts_on := ⟨f_acts_on, d_acts_on, F_acts_on, PySem.W.mg_of X G a_f_acts_on, F_acts_on.binds (ps := ["blocks"]) fun _ _ _ _ _ _ us hl => match us, hl with | [_], _ => rfl⟩
    f_shape_acts := ⟨f_shape_acts, d_shape_acts, F_shape_acts, PySem.W.mg_of X G a_f_shape_acts, F_shape_acts.binds (ps := ["shape"]) fun _ _ _ _ _ _ us hl => match us, hl with | [_], _ => rfl⟩
    f_Stand_acts := ⟨f_Stand_acts, d_Stand_acts, F_Stand_acts, ⟨a_f_Stand_acts, i_f_Stand_acts, F_Stand_acts.kp⟩, F_Stand_acts.binds (ps := ["self"]) fun _ _ _ _ _ _ us hl => match us, hl with | [_], _ => rfl⟩
    f__law_rooms := ⟨f__law_rooms, d__law_rooms, F__law_rooms, PySem.W.mg_of X G a_f__law_rooms, F__law_rooms.binds (ps := ["shape"]) fun _ _ _ _ _ _ us hl => match us, hl with | [_], _ => rfl⟩
    f__law_place := ⟨f__law_place, d__law_place, F__law_place, PySem.W.mg_of X G a_f__law_place, F__law_place.binds (ps := ["shape", "key"]) fun _ _ _ _ _ _ us hl => match us, hl with | [_, _], _ => rfl⟩
    f__law_erasable := ⟨f__law_erasable, d__law_erasable, F__law_erasable, PySem.W.mg_of X G a_f__law_erasable, F__law_erasable.binds (ps := ["block"]) fun _ _ _ _ _ _ us hl => match us, hl with | [_], _ => rfl⟩
    f__law_acts := ⟨f__law_acts, d__law_acts, F__law_acts, PySem.W.mg_of X G a_f__law_acts, F__law_acts.binds (ps := ["shape"]) fun _ _ _ _ _ _ us hl => match us, hl with | [_], _ => rfl⟩
    f_Stand_asked := ⟨f_Stand_asked, d_Stand_asked, F_Stand_asked, ⟨a_f_Stand_asked, i_f_Stand_asked, F_Stand_asked.kp⟩, F_Stand_asked.binds (ps := ["self"]) fun _ _ _ _ _ _ us hl => match us, hl with | [_], _ => rfl⟩
    f_Stand_many := ⟨f_Stand_many, d_Stand_many, F_Stand_many, ⟨a_f_Stand_many, i_f_Stand_many, F_Stand_many.kp⟩, F_Stand_many.binds (ps := ["self"]) fun _ _ _ _ _ _ us hl => match us, hl with | [_], _ => rfl⟩
    f_Stand_where := ⟨f_Stand_where, d_Stand_where, F_Stand_where, ⟨a_f_Stand_where, i_f_Stand_where, F_Stand_where.kp⟩, F_Stand_where.binds (ps := ["self", "key"]) fun _ _ _ _ _ _ us hl => match us, hl with | [_, _], _ => rfl⟩
    f__law_agrees := ⟨f__law_agrees, d__law_agrees, F__law_agrees, PySem.W.mg_of X G a_f__law_agrees, F__law_agrees.binds (ps := ["stand", "shape"]) fun _ _ _ _ _ _ us hl => match us, hl with | [_, _], _ => rfl⟩
    f__law_replies := ⟨f__law_replies, d__law_replies, F__law_replies, PySem.W.mg_of X G a_f__law_replies, F__law_replies.binds (ps := ["shape"]) fun _ _ _ _ _ _ us hl => match us, hl with | [_], _ => rfl⟩
    f__law_choice := ⟨f__law_choice, d__law_choice, F__law_choice, PySem.W.mg_of X G a_f__law_choice, F__law_choice.binds (ps := ["shape", "cell"]) fun _ _ _ _ _ _ us hl => match us, hl with | [_, _], _ => rfl⟩
    f_is_act := ⟨f_is_act, d_is_act, F_is_act, PySem.W.mg_of X G a_f_is_act, F_is_act.binds (ps := ["act", "acts"]) fun _ _ _ _ _ _ us hl => match us, hl with | [_, _], _ => rfl⟩
    f_Stand_fails := ⟨f_Stand_fails, d_Stand_fails, F_Stand_fails, ⟨a_f_Stand_fails, i_f_Stand_fails, F_Stand_fails.kp⟩, F_Stand_fails.binds (ps := ["self"]) fun _ _ _ _ _ _ us hl => match us, hl with | [_], _ => rfl⟩
    f_Stand_cuts := ⟨f_Stand_cuts, d_Stand_cuts, F_Stand_cuts, ⟨a_f_Stand_cuts, i_f_Stand_cuts, F_Stand_cuts.kp⟩, F_Stand_cuts.binds (ps := ["self"]) fun _ _ _ _ _ _ us hl => match us, hl with | [_], _ => rfl⟩
    f_let_replies := ⟨f_let_replies, d_let_replies, F_let_replies, PySem.W.mg_of X G a_f_let_replies, F_let_replies.binds (ps := ["fails", "cuts"]) fun _ _ _ _ _ _ us hl => match us, hl with | [_, _], _ => rfl⟩
    f_Stand_replies := ⟨f_Stand_replies, d_Stand_replies, F_Stand_replies, ⟨a_f_Stand_replies, i_f_Stand_replies, F_Stand_replies.kp⟩, F_Stand_replies.binds (ps := ["self", "act"]) fun _ _ _ _ _ _ us hl => match us, hl with | [_, _], _ => rfl⟩
    f_is_served := ⟨f_is_served, d_is_served, F_is_served, PySem.W.mg_of X G a_f_is_served, F_is_served.binds (ps := ["act", "reply"]) fun _ _ _ _ _ _ us hl => match us, hl with | [_, _], _ => rfl⟩
    f_Stand_served := ⟨f_Stand_served, d_Stand_served, F_Stand_served, ⟨a_f_Stand_served, i_f_Stand_served, F_Stand_served.kp⟩, F_Stand_served.binds (ps := ["self", "act", "reply"]) fun _ _ _ _ _ _ us hl => match us, hl with | [_, _, _], _ => rfl⟩
    f__law_bad := ⟨f__law_bad, d__law_bad, F__law_bad, PySem.W.mg_of X G a_f__law_bad, F__law_bad.binds (ps := ["block"]) fun _ _ _ _ _ _ us hl => match us, hl with | [_], _ => rfl⟩
    f__law_erased := ⟨f__law_erased, d__law_erased, F__law_erased, PySem.W.mg_of X G a_f__law_erased, F__law_erased.binds (ps := ["block", "page"]) fun _ _ _ _ _ _ us hl => match us, hl with | [_, _], _ => rfl⟩
    f__law_filled := ⟨f__law_filled, d__law_filled, F__law_filled, PySem.W.mg_of X G a_f__law_filled, F__law_filled.binds (ps := ["pages", "page"]) fun _ _ _ _ _ _ us hl => match us, hl with | [_, _], _ => rfl⟩
    f__law_aged := ⟨f__law_aged, d__law_aged, F__law_aged, PySem.W.mg_of X G a_f__law_aged, F__law_aged.binds (ps := ["block", "key"]) fun _ _ _ _ _ _ us hl => match us, hl with | [_, _], _ => rfl⟩
    f__law_rows_after := ⟨f__law_rows_after, d__law_rows_after, F__law_rows_after, PySem.W.mg_of X G a_f__law_rows_after, F__law_rows_after.binds (ps := ["shape", "act", "reply"]) fun _ _ _ _ _ _ us hl => match us, hl with | [_, _, _], _ => rfl⟩
    f__law_after := ⟨f__law_after, d__law_after, F__law_after, PySem.W.mg_of X G a_f__law_after, F__law_after.binds (ps := ["shape", "act", "reply"]) fun _ _ _ _ _ _ us hl => match us, hl with | [_, _, _], _ => rfl⟩
    f__law_put := ⟨f__law_put, d__law_put, F__law_put, PySem.W.mg_of X G a_f__law_put, F__law_put.binds (ps := ["shape", "key"]) fun _ _ _ _ _ _ us hl => match us, hl with | [_, _], _ => rfl⟩
    f__law_model_step := ⟨f__law_model_step, d__law_model_step, F__law_model_step, PySem.W.mg_of X G a_f__law_model_step, F__law_model_step.binds (ps := ["shape", "item"]) fun _ _ _ _ _ _ us hl => match us, hl with | [_, _], _ => rfl⟩
    f_gone_bad := ⟨f_gone_bad, d_gone_bad, F_gone_bad, PySem.W.mg_of X G a_f_gone_bad, F_gone_bad.binds (ps := ["block"]) fun _ _ _ _ _ _ us hl => match us, hl with | [_], _ => rfl⟩
    f_with_block := ⟨f_with_block, d_with_block, F_with_block, PySem.W.mg_of X G a_f_with_block, F_with_block.binds (ps := ["blocks", "b", "block"]) fun _ _ _ _ _ _ us hl => match us, hl with | [_, _, _], _ => rfl⟩
    f_erased := ⟨f_erased, d_erased, F_erased, PySem.W.mg_of X G a_f_erased, F_erased.binds (ps := ["block", "page"]) fun _ _ _ _ _ _ us hl => match us, hl with | [_, _], _ => rfl⟩
    f_filled := ⟨f_filled, d_filled, F_filled, PySem.W.mg_of X G a_f_filled, F_filled.binds (ps := ["block", "page"]) fun _ _ _ _ _ _ us hl => match us, hl with | [_, _], _ => rfl⟩
    f_with_copy := ⟨f_with_copy, d_with_copy, F_with_copy, PySem.W.mg_of X G a_f_with_copy, F_with_copy.binds (ps := ["blocks", "key", "b"]) fun _ _ _ _ _ _ us hl => match us, hl with | [_, _, _], _ => rfl⟩
    f_blocks_behind := ⟨f_blocks_behind, d_blocks_behind, F_blocks_behind, PySem.W.mg_of X G a_f_blocks_behind, F_blocks_behind.binds (ps := ["blocks", "asked", "act", "reply"]) fun _ _ _ _ _ _ us hl => match us, hl with | [_, _, _, _], _ => rfl⟩
    f_shape_behind := ⟨f_shape_behind, d_shape_behind, F_shape_behind, PySem.W.mg_of X G a_f_shape_behind, F_shape_behind.binds (ps := ["shape", "act", "reply"]) fun _ _ _ _ _ _ us hl => match us, hl with | [_, _, _], _ => rfl⟩
    f_is_shape := ⟨f_is_shape, d_is_shape, F_is_shape, PySem.W.mg_of X G a_f_is_shape, F_is_shape.binds (ps := ["shape"]) fun _ _ _ _ _ _ us hl => match us, hl with | [_], _ => rfl⟩
    f_stand_of := ⟨f_stand_of, d_stand_of, F_stand_of, PySem.W.mg_of X G a_f_stand_of, F_stand_of.binds (ps := ["shape"]) fun _ _ _ _ _ _ us hl => match us, hl with | [_], _ => rfl⟩
    f_Stand_after := ⟨f_Stand_after, d_Stand_after, F_Stand_after, ⟨a_f_Stand_after, i_f_Stand_after, F_Stand_after.kp⟩, F_Stand_after.binds (ps := ["self", "act", "reply"]) fun _ _ _ _ _ _ us hl => match us, hl with | [_, _, _], _ => rfl⟩
    f_shape_asked := ⟨f_shape_asked, d_shape_asked, F_shape_asked, PySem.W.mg_of X G a_f_shape_asked, F_shape_asked.binds (ps := ["shape", "key"]) fun _ _ _ _ _ _ us hl => match us, hl with | [_, _], _ => rfl⟩
    f_Stand_put := ⟨f_Stand_put, d_Stand_put, F_Stand_put, ⟨a_f_Stand_put, i_f_Stand_put, F_Stand_put.kp⟩, F_Stand_put.binds (ps := ["self", "key"]) fun _ _ _ _ _ _ us hl => match us, hl with | [_, _], _ => rfl⟩
    f__law_program_step := ⟨f__law_program_step, d__law_program_step, F__law_program_step, PySem.W.mg_of X G a_f__law_program_step, F__law_program_step.binds (ps := ["stand", "item"]) fun _ _ _ _ _ _ us hl => match us, hl with | [_, _], _ => rfl⟩
    f_law := ⟨f_law, d_law, F_law, PySem.W.mg_of X G a_f_law, F_law.binds (ps := ["script"]) fun _ _ _ _ _ _ us hl => match us, hl with | [_], _ => rfl⟩ }, rfl, rfl⟩
  obtain ⟨T, e1, e2⟩ := T
  refine ⟨d_law, bind1 F_law fun _ _ _ _ _ _ _ => rfl, fun base _ _ => ?_⟩
  have ok := ok_law (P := P) (w := w) (base := base) T
  rw [e1, e2] at ok
  exact ok.imp (law_imp LT)

end Sh.k07

/-! from Q03 -/
set_option linter.all false
set_option maxRecDepth 100000
namespace Sh.k07
open PySem L2 PyProof.Rows Sh
def leftD (d : Int) : D := if d < 10 then .non else if d < 20 then .str "ever" else if d < 120 then .int (d - 20) else .int (d % 3)
theorem x_left (d : Int) (h : Hm) : m__law_left [.int d] h = .ok (leftD d) h := by
  simp [m__law_left, x_run, g__law_left, leftD]
def mixed (c k : Int) : Int :=
  let a := (c + 7919 * k + 1) * 48271 % 2147483647
  let b := a * (a / 1009 + 69621) % 2147483647
  b * (b / 2003 + 40692) % 2147483399
theorem x_mixed (c k : Int) (h : Hm) : m__law_mixed [.int c, .int k] h = .ok (.int (mixed c k)) h := by
  have b1 : 0 ≤ (c + 7919 * k + 1) * 48271 % 2147483647 ∧ (c + 7919 * k + 1) * 48271 % 2147483647 < 2147483647 := ⟨Int.emod_nonneg _ (by decide), Int.emod_lt_of_pos _ (by decide)⟩
  simp [m__law_mixed, x_run, g__law_mixed, mixed]
  generalize (c + 7919 * k + 1) * 48271 % 2147483647 = a at b1
  rw [o_mulL (by omega) (by omega)]
  simp
  have b2 : 0 ≤ a * (a / 1009 + 69621) % 2147483647 ∧ a * (a / 1009 + 69621) % 2147483647 < 2147483647 := ⟨Int.emod_nonneg _ (by decide), Int.emod_lt_of_pos _ (by decide)⟩
  generalize a * (a / 1009 + 69621) % 2147483647 = b at b2
  rw [o_mulL (by omega) (by omega)]
  simp
theorem mixed_pos (c k : Int) : 0 ≤ mixed c k ∧ mixed c k < 2147483399 := ⟨Int.emod_nonneg _ (by decide), Int.emod_lt_of_pos _ (by decide)⟩
theorem ix_scl (ns : List Int) (k : Int) (h : Hm) (h0 : 0 ≤ k) (hk : k < ns.length) : ∃ z, dIx (.scl (ns.map D.int)) (.int k) h = .ok (.int z) h := by
  obtain ⟨j, rfl⟩ := Int.eq_ofNat_of_zero_le h0
  have hj : j < ns.length := by omega
  have e : atI (ns.map D.int) ((j : Nat) : Int) = some (.int ns[j]) := by
    unfold atI ixN
    simp [hj]
  exact ⟨ns[j], by simp [dIx, items, e]⟩
theorem x_cell (ns : List Int) (k : Int) (h : Hm) (hk0 : 0 ≤ k) : ∃ c : Int, m__law_cell [.scl (ns.map D.int), .int k] h = .ok (.int c) h := by
  simp only [m__law_cell, x_run, g__law_cell]
  simp
  by_cases hk : k < ns.length
  · obtain ⟨z, e⟩ := ix_scl ns k h hk0 hk
    simp [hk, e]
  · simp only [hk, if_false]
    by_cases h0 : 0 < ns.length
    · obtain ⟨z, e⟩ := ix_scl ns 0 h (by decide) (by omega)
      simp only [h0, if_true, e, RD.bind_ok, o_int, RD.st_ok, seq_nx]
      refine ⟨(z + 7919 * k) * 48271 % 2147483647, ?_⟩
      simp only [x_ret, x_bin, x_args, evR_cons, evR_nil, x_var, x_c, List.getElem?_cons_zero, List.getElem?_cons_succ, ofO_some, RD.bind_ok, o_mul7919, o_add, o_mul48271, o_int, RD.st_ok, out_rt, o_mod, seq_nx, seq_rt]
      rfl
    · simp only [h0, if_false]
      exact ⟨_, rfl⟩
def Dig : List Int → List Int → Prop
  | [], [] => True
  | d :: ds, z :: zs => (0 ≤ d ∧ d < z) ∧ Dig ds zs
  | _, _ => False
theorem dig_loop1 (h : Hm) (n : Nat) (all : List Int) (hn : h[n]? = some (.lst (all.map D.int))) (x4 : Option D) : ∀ (zs : List Int) (c : Int) (x3 : Option D) (acc : List Int), (∀ z ∈ zs, 0 < z ∧ z < 1000000) → acc.length + zs.length < 1000 →
    ∃ ds c' x3', Dig ds zs ∧ loopG (some (n, all.map D.int)) (tName 3) (gSeq (gDrop (eLm lAppend (eVar 2) [(eBin dMod (eArgs bInt [(eVar 0)]) (eVar 3))])) (gSet 0 (eBin dDiv (eVar 0) (eVar 3)))) (zs.map D.int)
      [some (.int c), some (.ref n), some (.ref h.length), x3, x4] (h ++ [.lst (acc.map D.int)]) = .nx [some (.int c'), some (.ref n), some (.ref h.length), x3', x4] (h ++ [.lst ((acc ++ ds).map D.int)])
  | [], c, x3, acc, _, _ => ⟨[], c, x3, trivial, by
      rw [List.map_nil, loop_nil (chk_ref (by rw [get_old (lt_of_get hn)]; exact hn)), List.append_nil]⟩
  | z :: zs, c, x3, acc, hz, hl => by
    have z0 := hz z (List.mem_cons_self ..)
    simp only [List.length_cons] at hl
    obtain ⟨ds, c', x3', e1, e2⟩ := dig_loop1 h n all hn x4 zs (c / z) (some (.int z)) (acc ++ [c % z]) (fun y hy => hz y (List.mem_cons_of_mem _ hy)) (by simp; omega)
    refine ⟨c % z :: ds, c', x3', ⟨⟨Int.emod_nonneg _ (by omega), Int.emod_lt_of_pos _ z0.1⟩, e1⟩, ?_⟩
    rw [List.map_cons, loop_cons (chk_ref (by rw [get_old (lt_of_get hn)]; exact hn)) (s1 := [some (.int c), some (.ref n), some (.ref h.length), some (.int z), x4]) (h1 := h ++ [.lst (acc.map D.int)]) rfl]
    rw [x_seq, x_drop, app_last (d := .int (c % z)) (by simp) (by simp [z0.1]) (by simp; omega)]
    simp only [RD.st_ok, seq_nx, x_set, x_bin, x_var, List.getElem?_cons_zero, List.getElem?_cons_succ, ofO_some, RD.bind_ok, o_div z0.1 (show z < 18446744073709551616 by omega), List.set_cons_zero, lp_nx]
    have e3 : acc.map D.int ++ [D.int (c % z)] = (acc ++ [c % z]).map D.int := by simp
    rw [e3, e2, List.append_assoc]
    rfl
theorem dig_loop2 (h : Hm) (n : Nat) (all : List Int) (hn : h[n]? = some (.lst (all.map D.int))) (c : Int) (x3 : Option D) : ∀ (zs pre : List Int) (x4 : Option D) (acc : List Int), all = pre ++ zs → (∀ z ∈ zs, 0 < z ∧ z < 1000000) → acc.length + zs.length < 1000 →
    ∃ ds x4', Dig ds zs ∧ loopG none (tName 4) (gDrop (eLm lAppend (eVar 2) [(eBin dMod (eArgs bInt [(eBin dDiv (eArgs m__law_mixed [(eVar 0), (eVar 4)]) (eC (.int 16)))]) (eBin dIx (eVar 1) (eVar 4)))])) ((List.range' pre.length zs.length).map fun i => D.int (i : Nat))
      [some (.int c), some (.ref n), some (.ref h.length), x3, x4] (h ++ [.lst (acc.map D.int)]) = .nx [some (.int c), some (.ref n), some (.ref h.length), x3, x4'] (h ++ [.lst ((acc ++ ds).map D.int)])
  | [], pre, x4, acc, _, _, _ => ⟨[], x4, trivial, by
      simp only [List.length_nil, List.range'_zero, List.map_nil]
      rw [loop_nil chk_none, List.append_nil]⟩
  | z :: zs, pre, x4, acc, ha, hz, hl => by
    have z0 := hz z (List.mem_cons_self ..)
    simp only [List.length_cons] at hl
    obtain ⟨ds, x4', e1, e2⟩ := dig_loop2 h n all hn c x3 zs (pre ++ [z]) (some (.int pre.length)) (acc ++ [mixed c pre.length / 16 % z]) (by rw [ha, List.append_assoc]; rfl) (fun y hy => hz y (List.mem_cons_of_mem _ hy)) (by simp; omega)
    refine ⟨mixed c pre.length / 16 % z :: ds, x4', ⟨⟨Int.emod_nonneg _ (by omega), Int.emod_lt_of_pos _ z0.1⟩, e1⟩, ?_⟩
    rw [List.length_cons, List.range'_succ, List.map_cons, loop_cons chk_none (s1 := [some (.int c), some (.ref n), some (.ref h.length), x3, some (.int pre.length)]) (h1 := h ++ [.lst (acc.map D.int)]) rfl]
    have hn' : (h ++ [O.lst (acc.map D.int)])[n]? = some (.lst (all.map D.int)) := by rw [get_old (lt_of_get hn)]; exact hn
    have hx : (all.map D.int)[pre.length]? = some (.int z) := by rw [ha]; simp
    rw [x_drop, app_last (d := .int (mixed c pre.length / 16 % z)) (by simp) (by simp [x_mixed, ix_ref hn' hx, z0.1]) (by simp; omega)]
    simp only [RD.st_ok, lp_nx]
    have e3 : acc.map D.int ++ [D.int (mixed c pre.length / 16 % z)] = (acc ++ [mixed c pre.length / 16 % z]).map D.int := by simp
    have e4 : pre.length + 1 = (pre ++ [z]).length := by simp
    rw [e3, e4, e2, List.append_assoc]
    rfl
theorem x_digits (h : Hm) (n : Nat) (all : List Int) (hn : h[n]? = some (.lst (all.map D.int))) (c : Int) (hz : ∀ z ∈ all, 0 < z ∧ z < 1000000) (hl : all.length < 500) :
    ∃ ds, Dig ds all ∧ m__law_digits [.int c, .ref n] h = .ok (.ref h.length) (h ++ [.lst (ds.map D.int)]) := by
  have hn' : (h ++ [O.lst []])[n]? = some (.lst (all.map D.int)) := by rw [get_old (lt_of_get hn)]; exact hn
  by_cases hc : 1000000000000000000 ≤ c
  · obtain ⟨ds, c', x3', e1, e2⟩ := dig_loop1 h n all hn none all c none [] hz (by simp; omega)
    refine ⟨ds, e1, ?_⟩
    simp only [m__law_digits, x_run, g__law_digits]
    simp [o_pow18, hc]
    rw [for_ok (fi_ref (n := n) (by simp) hn')]
    simp only [List.map_nil, List.nil_append] at e2
    rw [e2]
    simp
  · obtain ⟨ds, x4', e1, e2⟩ := dig_loop2 h n all hn c none all [] none [] rfl hz (by simp; omega)
    refine ⟨ds, e1, ?_⟩
    simp only [m__law_digits, x_run, g__law_digits]
    simp [o_pow18, hc]
    rw [for_ok (fi_rg (h1 := h ++ [.lst []]) (j := all.length) (by simp [len_ref hn']) (by omega) (by omega))]
    simp only [List.map_nil, List.nil_append, List.length_nil] at e2
    rw [Int.toNat_natCast, List.range_eq_range', e2]
    simp
end Sh.k07
/-! from Q03b -/
set_option linter.all false
set_option maxRecDepth 100000
namespace Sh.k07
open PySem L2 PyProof.Rows Sh
inductive Pg where
  | free | old | key (k : Int)
  deriving DecidableEq
def pD : Pg → D
  | .free => .str "free" | .old => .str "old" | .key k => .int k
def keysOf : List Pg → List Int
  | [] => []
  | .key k :: r => k :: keysOf r
  | _ :: r => keysOf r
theorem keysOf_app (a b : List Pg) : keysOf (a ++ b) = keysOf a ++ keysOf b := by
  induction a with
  | nil => rfl
  | cons x a ih => cases x <;> simp [keysOf, ih]
abbrev bodyP : FS := (gIf (eBin (dCmp fun i j => decide (j ≤ i)) (eVar 5) (eVar 3)) (gDrop (eLm lAppend (eVar 4) [(eC (.str "free"))])) (gIf (eOr (eBin dEq (eBin dMod (eArgs bInt [(eBin dIx (eVar 0) (eVar 5))]) (eC (.int 3))) (eC (.int 0))) (eBin dEq (eArgs bLen [(eVar 1)]) (eC (.int 0)))) (gDrop (eLm lAppend (eVar 4) [(eC (.str "old"))])) (gDrop (eLm lAppend (eVar 4) [(eLm lPopAt (eVar 1) [(eBin dMod (eArgs bInt [(eBin dDiv (eBin dIx (eVar 0) (eVar 5)) (eC (.int 3)))]) (eArgs bLen [(eVar 1)]))])]))))
theorem er_perm : ∀ (l : List Int) (i : Nat) (y : Int), l[i]? = some y → (y :: l.eraseIdx i).Perm l
  | [], i, y, e => by simp at e
  | x :: l, 0, y, e => by
    simp at e
    subst e
    exact .refl _
  | x :: l, i + 1, y, e => by
    have := er_perm l i y (by simpa using e)
    exact (List.Perm.swap x y _).trans (this.cons x)
theorem page_step (h : Hm) (nd nr k : Nat) (ds rs : List Int) (pages written : Int) (acc : List Pg) (d : Int) (hd : h[nd]? = some (.lst (ds.map D.int))) (hr : h[nr]? = some (.lst (rs.map D.int))) (hx : ds[k]? = some d) (hd0 : 0 ≤ d) (hne : nd ≠ nr) (hrl : rs.length < 1000) (hal : acc.length < 1000) :
    ∃ (p : Pg) (rs' : List Int), ((written ≤ k ∧ p = .free ∧ rs' = rs) ∨ (¬ written ≤ k ∧ (p = .old ∧ rs' = rs ∨ ∃ q, p = .key q ∧ (q :: rs').Perm rs))) ∧
      bodyP [some (.ref nd), some (.ref nr), some (.int pages), some (.int written), some (.ref h.length), some (.int k)] (h ++ [.lst (acc.map pD)]) =
        .nx [some (.ref nd), some (.ref nr), some (.int pages), some (.int written), some (.ref h.length), some (.int k)] (h.set nr (.lst (rs'.map D.int)) ++ [.lst ((acc ++ [p]).map pD)]) := by
  have hd' : (h ++ [O.lst (acc.map pD)])[nd]? = some (.lst (ds.map D.int)) := by rw [get_old (lt_of_get hd)]; exact hd
  have hr' : (h ++ [O.lst (acc.map pD)])[nr]? = some (.lst (rs.map D.int)) := by rw [get_old (lt_of_get hr)]; exact hr
  have hxx : (ds.map D.int)[k]? = some (.int d) := by rw [List.getElem?_map, hx]; rfl
  have hself : h.set nr (.lst (rs.map D.int)) = h := by
    apply List.ext_getElem?
    intro j
    by_cases hj : nr = j
    · subst hj
      rw [List.getElem?_set_self (lt_of_get hr), hr]
    · rw [List.getElem?_set_ne hj]
  have hz : (acc.map pD).length < 1000000 := by simp; omega
  by_cases hw : written ≤ k
  · refine ⟨.free, rs, .inl ⟨hw, rfl, rfl⟩, ?_⟩
    simp only [bodyP, x_if, x_bin, x_var, List.getElem?_cons_zero, List.getElem?_cons_succ, ofO_some, RD.bind_ok, o_cmp, tst_ok, decide_eq_true_eq, hw, if_true]
    rw [x_drop, app_last (d := .str "free") (by simp) (by simp) hz, hself]
    simp [pD]
  · by_cases ho : d % 3 = 0 ∨ rs.length = 0
    · refine ⟨.old, rs, .inr ⟨hw, .inl ⟨rfl, rfl⟩⟩, ?_⟩
      have e1 : (eOr (eBin dEq (eBin dMod (eArgs bInt [(eBin dIx (eVar 0) (eVar 5))]) (eC (.int 3))) (eC (.int 0))) (eBin dEq (eArgs bLen [(eVar 1)]) (eC (.int 0)))) [some (.ref nd), some (.ref nr), some (.int pages), some (.int written), some (.ref h.length), some (.int k)] (h ++ [.lst (acc.map pD)]) = .ok (.bl true) (h ++ [.lst (acc.map pD)]) := by
        simp only [x_or, x_bin, x_args, evR_cons, evR_nil, x_var, x_c, List.getElem?_cons_zero, List.getElem?_cons_succ, ofO_some, RD.bind_ok, ix_ref hd' hxx, o_int, o_mod, q_int, len_ref hr']
        rcases ho with ho | ho
        · simp [ho]
        · have hl0 : ((rs.map D.int).length : Int) = 0 := by simp; simpa using ho
          rw [if_pos (by decide : (0 : Int) < 3)]
          by_cases h3 : d % 3 = 0
          · simp [h3]
          · simp [h3, len_ref hr', hl0]
            simpa using ho
      simp only [bodyP, x_if, x_bin, x_var, List.getElem?_cons_zero, List.getElem?_cons_succ, ofO_some, RD.bind_ok, o_cmp, tst_ok, decide_eq_true_eq, hw, if_false, e1, if_true]
      rw [x_drop, app_last (d := .str "old") (by simp) (by simp) hz, hself]
      simp [pD]
    · have h3 : ¬ d % 3 = 0 := fun z => ho (.inl z)
      have hlen : 0 < rs.length := Nat.pos_of_ne_zero fun z => ho (.inr z)
      have hjl : (d / 3 % (rs.length : Int)).toNat < rs.length := by
        have a := Int.emod_lt_of_pos (d / 3) (show (0 : Int) < rs.length by omega)
        have b := Int.emod_nonneg (d / 3) (show (rs.length : Int) ≠ 0 by omega)
        omega
      generalize hj : d / 3 % (rs.length : Int) = j at hjl
      have hj0 : 0 ≤ j := by rw [← hj]; exact Int.emod_nonneg _ (by omega)
      refine ⟨.key rs[j.toNat], rs.eraseIdx j.toNat, .inr ⟨hw, .inr ⟨rs[j.toNat], rfl, er_perm _ _ _ (List.getElem?_eq_getElem hjl)⟩⟩, ?_⟩
      have e1 : (eOr (eBin dEq (eBin dMod (eArgs bInt [(eBin dIx (eVar 0) (eVar 5))]) (eC (.int 3))) (eC (.int 0))) (eBin dEq (eArgs bLen [(eVar 1)]) (eC (.int 0)))) [some (.ref nd), some (.ref nr), some (.int pages), some (.int written), some (.ref h.length), some (.int k)] (h ++ [.lst (acc.map pD)]) = .ok (.bl false) (h ++ [.lst (acc.map pD)]) := by
        have hl0 : ¬ ((rs.map D.int).length : Int) = 0 := by simp; intro z; rw [z] at hlen; simp at hlen
        simp only [x_or, x_bin, x_args, evR_cons, evR_nil, x_var, x_c, List.getElem?_cons_zero, List.getElem?_cons_succ, ofO_some, RD.bind_ok, ix_ref hd' hxx, o_int, o_mod, q_int, len_ref hr']
        rw [if_pos (by decide : (0 : Int) < 3)]
        simp only [RD.bind_ok, q_int, h3, decide_false, tb_ok, Bool.false_eq_true, if_false, len_ref hr', hl0]
      have e2 : eLm lPopAt (eVar 1) [(eBin dMod (eArgs bInt [(eBin dDiv (eBin dIx (eVar 0) (eVar 5)) (eC (.int 3)))]) (eArgs bLen [(eVar 1)]))] [some (.ref nd), some (.ref nr), some (.int pages), some (.int written), some (.ref h.length), some (.int k)] (h ++ [.lst (acc.map pD)]) =
          .ok (.int rs[j.toNat]) (h.set nr (.lst ((rs.eraseIdx j.toNat).map D.int)) ++ [.lst (acc.map pD)]) := by
        simp only [x_lm, x_var, List.getElem?_cons_zero, List.getElem?_cons_succ, ofO_some, RD.bind_ok, lmB_ref hr', evR_cons, evR_nil, x_bin, x_args, ix_ref hd' hxx, x_c, o_div3, o_int, len_ref hr', o_mod]
        have hp : (0 : Int) < ((rs.map D.int).length : Int) := by simp; omega
        rw [if_pos hp]
        simp only [RD.bind_ok, lmC_ok hr', List.length_map, hj]
        rw [pop_ok (x := .int rs[j.toNat]) hj0 (by omega) (by simp [hjl])]
        rw [List.set_append_left _ _ (lt_of_get hr), DT.map_erase]
      simp only [bodyP, x_if, x_bin, x_var, List.getElem?_cons_zero, List.getElem?_cons_succ, ofO_some, RD.bind_ok, o_cmp, tst_ok, decide_eq_true_eq, hw, if_false, e1, x_drop]
      have e3 : eLm lAppend (eVar 4) [(eLm lPopAt (eVar 1) [(eBin dMod (eArgs bInt [(eBin dDiv (eBin dIx (eVar 0) (eVar 5)) (eC (.int 3)))]) (eArgs bLen [(eVar 1)]))])] [some (.ref nd), some (.ref nr), some (.int pages), some (.int written), some (.ref h.length), some (.int k)] (h ++ [.lst (acc.map pD)]) =
          .ok .non (h.set nr (.lst ((rs.eraseIdx j.toNat).map D.int)) ++ [.lst (acc.map pD ++ [.int rs[j.toNat]])]) := by
        rw [x_lm]
        simp only [x_var, List.getElem?_cons_zero, List.getElem?_cons_succ, ofO_some, RD.bind_ok, lmB_ref (gl := lAppend) (get_last (h := h) (o := .lst (acc.map pD))), evR_cons, evR_nil, e2]
        have hL : (h.set nr (.lst ((rs.eraseIdx j.toNat).map D.int)) ++ [O.lst (acc.map pD)])[h.length]? = some (.lst (acc.map pD)) := by
          have : h.length = (h.set nr (.lst ((rs.eraseIdx j.toNat).map D.int))).length := by simp
          rw [this]
          exact get_last
        rw [lmC_ok hL, app_ok hz]
        have : h.length = (h.set nr (.lst ((rs.eraseIdx j.toNat).map D.int))).length := by simp
        rw [this, set_last]
      rw [if_neg (by decide), e3]
      simp only [RD.st_ok, List.map_append]
      rfl
theorem page_loop (nd nr : Nat) (ds : List Int) (pages : Nat) (written : Nat) (hne : nd ≠ nr) (hd0 : ∀ d ∈ ds, 0 ≤ d) (hw : written ≤ pages) (hp : pages ≤ ds.length) (hp2 : pages < 500) : ∀ (j : Nat) (h : Hm) (rs : List Int) (acc : List Pg) (x5 : Option D), j + acc.length = pages →
    h[nd]? = some (.lst (ds.map D.int)) → h[nr]? = some (.lst (rs.map D.int)) → rs.length < 1000 →
    ∃ (ps : List Pg) (rs' : List Int) (x5' : Option D), (keysOf ps ++ rs').Perm rs ∧ ps.length = j ∧ (∀ i p, ps[i]? = some p → (written ≤ acc.length + i ↔ p = .free)) ∧
      loopG none (tName 5) bodyP ((List.range' acc.length j).map fun i => D.int (i : Nat)) [some (.ref nd), some (.ref nr), some (.int pages), some (.int written), some (.ref h.length), x5] (h ++ [.lst (acc.map pD)]) =
        .nx [some (.ref nd), some (.ref nr), some (.int pages), some (.int written), some (.ref h.length), x5'] (h.set nr (.lst (rs'.map D.int)) ++ [.lst ((acc ++ ps).map pD)])
  | 0, h, rs, acc, x5, _, hd, hr, _ => by
    refine ⟨[], rs, x5, .refl _, rfl, fun i p z => by simp at z, ?_⟩
    have hself : h.set nr (.lst (rs.map D.int)) = h := by
      apply List.ext_getElem?
      intro j
      by_cases hj : nr = j
      · subst hj
        rw [List.getElem?_set_self (lt_of_get hr), hr]
      · rw [List.getElem?_set_ne hj]
    rw [List.range'_zero, List.map_nil, loop_nil chk_none, hself, List.append_nil]
  | j + 1, h, rs, acc, x5, hj, hd, hr, hrl => by
    have hk : acc.length < ds.length := by omega
    obtain ⟨p, rs1, h1, e1⟩ := page_step h nd nr acc.length ds rs pages written acc ds[acc.length] hd hr (List.getElem?_eq_getElem hk) (hd0 _ (List.getElem_mem hk)) hne hrl (by omega)
    have hL : (h.set nr (.lst (rs1.map D.int))).length = h.length := List.length_set ..
    have hperm : (keysOf [p] ++ rs1).Perm rs := by
      rcases h1 with ⟨_, rfl, rfl⟩ | ⟨_, ⟨rfl, rfl⟩ | ⟨q, rfl, h⟩⟩
      · exact .refl _
      · exact .refl _
      · exact h
    have hl1 : rs1.length ≤ rs.length := by
      have := hperm.length_eq
      rw [List.length_append] at this
      omega
    obtain ⟨ps, rs', x5', g1, g2, g3, g4⟩ := page_loop nd nr ds pages written hne hd0 hw hp hp2 j (h.set nr (.lst (rs1.map D.int))) rs1 (acc ++ [p]) (some (.int acc.length)) (by simp; omega) (by rw [List.getElem?_set_ne (Ne.symm hne)]; exact hd) (by rw [List.getElem?_set_self (lt_of_get hr)]) (by omega)
    refine ⟨p :: ps, rs', x5', ?_, by simp [g2], fun i q hq => ?_, ?_⟩
    · have : keysOf (p :: ps) = keysOf [p] ++ keysOf ps := keysOf_app [p] ps
      rw [this, List.append_assoc]
      exact (List.Perm.append_left _ g1).trans hperm
    · cases i with
      | zero =>
        simp at hq
        subst hq
        rcases h1 with ⟨a, rfl, _⟩ | ⟨a, ⟨rfl, _⟩ | ⟨q, rfl, _⟩⟩
        · simp; omega
        · simp; omega
        · simp; omega
      | succ i =>
        have := g3 i q (by simpa using hq)
        rw [← this]
        simp
        omega
    · rw [List.range'_succ, List.map_cons, loop_cons chk_none (s1 := [some (.ref nd), some (.ref nr), some (.int pages), some (.int written), some (.ref h.length), some (.int acc.length)]) (h1 := h ++ [.lst (acc.map pD)]) rfl, e1]
      simp only [lp_nx]
      rw [hL] at g4
      have e4 : acc.length + 1 = (acc ++ [p]).length := by simp
      rw [e4, g4, List.append_assoc, List.set_set]
      rfl
end Sh.k07
/-! from Q03c -/
set_option linter.all false
set_option maxRecDepth 100000
namespace Sh.k07
open PySem L2 PyProof.Rows Sh
theorem pages_run (a b : D) (P W : Int) (h : Hm) : m__law_pages [a, b, .int P, .int W] h = ((gFor (fiRg [eVar 2]) (tName 5) bodyP [some a, some b, some (.int P), some (.int W), some (.ref h.length), none] (h ++ [.lst []])).seq (gRet (eArgs bTuple [(eVar 4)]))).out := by
  simp only [m__law_pages, x_run, g__law_pages]
  simp
theorem tup_ref {h : Hm} {n : Nat} {xs : List D} (e : h[n]? = some (.lst xs)) : bTuple [.ref n] h = .ok (.tup xs) h := by simp [bTuple, items, e]
theorem x_pages (h : Hm) (nd nr : Nat) (ds rs : List Int) (pages written : Nat) (hd : h[nd]? = some (.lst (ds.map D.int))) (hr : h[nr]? = some (.lst (rs.map D.int))) (hne : nd ≠ nr) (hd0 : ∀ d ∈ ds, 0 ≤ d) (hw : written ≤ pages) (hp : pages ≤ ds.length) (hp2 : pages < 500) (hrl : rs.length < 1000) :
    ∃ (ps : List Pg) (rs' : List Int), (keysOf ps ++ rs').Perm rs ∧ ps.length = pages ∧ (∀ i p, ps[i]? = some p → (written ≤ i ↔ p = .free)) ∧
      m__law_pages [.ref nd, .ref nr, .int pages, .int written] h = .ok (.tup (ps.map pD)) (h.set nr (.lst (rs'.map D.int)) ++ [.lst (ps.map pD)]) := by
  obtain ⟨ps, rs', x5', g1, g2, g3, g4⟩ := page_loop nd nr ds pages written hne hd0 hw hp hp2 pages h rs [] none rfl hd hr hrl
  refine ⟨ps, rs', g1, g2, fun i p hp => ?_, ?_⟩
  · have := g3 i p hp
    simpa using this
  · rw [pages_run, for_ok (fi_rg (h1 := h ++ [.lst []]) (j := pages) rfl (by omega) (by omega)), Int.toNat_natCast, List.range_eq_range']
    simp only [List.length_nil, List.map_nil, List.nil_append] at g4
    rw [g4]
    have hL : (h.set nr (.lst (rs'.map D.int)) ++ [O.lst (ps.map pD)])[h.length]? = some (.lst (ps.map pD)) := by
      have : h.length = (h.set nr (.lst (rs'.map D.int))).length := by simp
      rw [this]
      exact get_last
    simp only [seq_nx, x_ret, x_args, evR_cons, evR_nil, x_var, List.getElem?_cons_zero, List.getElem?_cons_succ, ofO_some, RD.bind_ok, tup_ref hL, RD.st_ok, out_rt]
structure Ext (nr : Nat) (o : O) (h h' : Hm) : Prop where
  le : h.length ≤ h'.length
  old : ∀ n, n < h.length → n ≠ nr → h'[n]? = h[n]?
  new : h'[nr]? = some o
inductive Lf where
  | bad | ever | num (n : Int)
  deriving DecidableEq
def lD : Lf → D
  | .bad => .non | .ever => .str "ever" | .num n => .int n
def lfOk : Lf → Prop
  | .num n => 0 ≤ n ∧ n ≤ 99
  | _ => True
theorem leftD_ok (d : Int) (h0 : 0 ≤ d) : ∃ l, leftD d = lD l ∧ lfOk l := by
  unfold leftD
  split
  · exact ⟨.bad, rfl, trivial⟩
  · split
    · exact ⟨.ever, rfl, trivial⟩
    · split
      · exact ⟨.num (d - 20), rfl, by show 0 ≤ d - 20 ∧ d - 20 ≤ 99; omega⟩
      · exact ⟨.num (d % 3), rfl, by show 0 ≤ d % 3 ∧ d % 3 ≤ 99; omega⟩
theorem lD_non (l : Lf) : lD l = .non ↔ l = .bad := by cases l <;> simp [lD]
def bD (b : Lf × List Pg) : D := .tup [lD b.1, .tup (b.2.map pD)]
def BkOk (pages : Nat) (b : Lf × List Pg) : Prop := lfOk b.1 ∧ b.2.length = pages ∧ ∃ w, w ≤ pages ∧ (b.1 = .bad → w = pages) ∧ ∀ i p, b.2[i]? = some p → (w ≤ i ↔ p = .free)
theorem dig_len : ∀ {ds zs : List Int}, Dig ds zs → ds.length = zs.length
  | [], [], _ => rfl
  | d :: ds, z :: zs, h => by simp [dig_len h.2]
  | [], _ :: _, h => h.elim
  | _ :: _, [], h => h.elim
theorem dig_pos : ∀ {ds zs : List Int}, Dig ds zs → ∀ d ∈ ds, 0 ≤ d
  | [], [], _, d, hd => by simp at hd
  | d :: ds, z :: zs, h, e, he => by
    rcases List.mem_cons.mp he with rfl | he
    · exact h.1.1
    · exact dig_pos h.2 e he
  | [], _ :: _, h, _, _ => h.elim
  | _ :: _, [], h, _, _ => h.elim
theorem flat_rep (n : Nat) (x : D) : (List.replicate n [x]).flatten = List.replicate n x := by
  induction n with
  | zero => rfl
  | succ n ih => rw [List.replicate_succ, List.flatten_cons, ih]; rfl
theorem addL {h : Hm} {a b : Nat} {xs ys : List D} (e1 : h[a]? = some (.lst xs)) (e2 : h[b]? = some (.lst ys)) (hl : xs.length + ys.length ≤ 1000000) : dAdd (.ref a) (.ref b) h = .ok (.ref h.length) (h ++ [.lst (xs ++ ys)]) := by
  have hl' : xs.length + ys.length ≤ big := hl
  simp [dAdd, e1, e2, hl']
theorem mulL {h : Hm} {a : Nat} {xs : List D} {k : Int} (e1 : h[a]? = some (.lst xs)) (h0 : 0 ≤ k) (h1 : k < 1000) (hl : xs.length ≤ 1000) : dMul (.ref a) (.int k) h = .ok (.ref h.length) (h ++ [.lst (List.replicate k.toNat xs).flatten]) := by
  have b : -9223372036854775808 ≤ k ∧ k < 9223372036854775808 := ⟨by omega, by omega⟩
  have hl' : xs.length * k.toNat ≤ big := by
    have : xs.length * k.toNat ≤ 1000 * 1000 := Nat.mul_le_mul hl (by omega)
    exact this
  simp [dMul, e1, b, hl']
theorem sizes_run (c P : Int) (nr : Nat) (t : DS) (h : Hm) (h0 : 0 ≤ P) (h1 : P < 7) :
    (eBin dAdd (eLst [(eC (.int 160)), (eBin dAdd (eVar 2) (eC (.int 1)))]) (eBin dMul (eLst [(eC (.int 36))]) (eVar 2))) (some (.int c) :: some (.ref nr) :: some (.int P) :: t) h =
      .ok (.ref (h.length + 3)) (h ++ [.lst [.int 160, .int (P + 1)]] ++ [.lst [.int 36]] ++ [.lst (List.replicate P.toNat (.int 36))] ++ [.lst (.int 160 :: .int (P + 1) :: List.replicate P.toNat (.int 36))]) := by
  have e1 : (h ++ [O.lst [.int 160, .int (P + 1)]] ++ [.lst [.int 36]])[(h ++ [O.lst [.int 160, .int (P + 1)]]).length]? = some (.lst [.int 36]) := get_last
  have e2 : (h ++ [O.lst [.int 160, .int (P + 1)]] ++ [.lst [.int 36]] ++ [.lst (List.replicate P.toNat (.int 36))])[h.length]? = some (.lst [.int 160, .int (P + 1)]) := by
    rw [get_old (by simp), get_old (by simp)]
    exact get_last
  have e3 : (h ++ [O.lst [.int 160, .int (P + 1)]] ++ [.lst [.int 36]] ++ [.lst (List.replicate P.toNat (.int 36))])[(h ++ [O.lst [.int 160, .int (P + 1)]] ++ [O.lst [.int 36]]).length]? = some (.lst (List.replicate P.toNat (.int 36))) := get_last
  simp only [x_bin, x_lst, evR_cons, evR_nil, x_c, x_var, List.getElem?_cons_zero, List.getElem?_cons_succ, ofO_some, RD.bind_ok, o_add]
  rw [mulL e1 h0 (by omega) (by simp), flat_rep]
  simp only [RD.bind_ok]
  rw [addL e2 e3 (by simp; omega)]
  simp
theorem block_run {a d0 l pg : D} {c P W1 : Int} {h hz hd hs hp : Hm} {nz nd ns : Nat}
    (e1 : (eBin dAdd (eLst [(eC (.int 160)), (eBin dAdd (eVar 2) (eC (.int 1)))]) (eBin dMul (eLst [(eC (.int 36))]) (eVar 2))) [some (.int c), some a, some (.int P), none, none, none] h = .ok (.ref nz) hz) (e2 : m__law_digits [.int c, .ref nz] hz = .ok (.ref nd) hd)
    (e3 : dIx (.ref nd) (.int 0) hd = .ok d0 hd) (e4 : m__law_left [d0] hd = .ok l hd) (e5 : dIx (.ref nd) (.int 1) hd = .ok (.int W1) hd) (e6 : dSl (.ref nd) (some 2) none hd = .ok (.ref ns) hs) (e7 : m__law_pages [.ref ns, a, .int P, .int (if l = .non then P else W1)] hs = .ok pg hp) :
    m__law_block [.int c, a, .int P] h = .ok (.tup [l, pg]) hp := by
  simp only [m__law_block, x_run, g__law_block]
  simp only [List.map_cons, List.map_nil, List.length_cons, List.length_nil, Nat.zero_add, Nat.reduceAdd, Nat.reduceSub, List.reduceReplicate, List.cons_append, List.nil_append, x_seq, x_set, x_args, evR_cons, evR_nil, x_var, List.getElem?_cons_zero, List.getElem?_cons_succ, ofO_some, RD.bind_ok, e1, e2, RD.st_ok, seq_nx, List.set_cons_succ, List.set_cons_zero]
  simp only [x_if, x_bin, x_var, List.getElem?_cons_zero, List.getElem?_cons_succ, ofO_some, RD.bind_ok, x_c, e3, e4, RD.st_ok, seq_nx, e5, o_is_n, tst_ok, decide_eq_true_eq]
  by_cases hl : l = .non
  · rw [if_pos hl] at e7
    simp [hl, eSl, ePart, e5, e6, e7]
  · rw [if_neg hl] at e7
    simp [hl, eSl, ePart, e5, e6, e7]
theorem x_block (h : Hm) (nr : Nat) (rs : List Int) (c : Int) (pages : Nat) (hr : h[nr]? = some (.lst (rs.map D.int))) (hp : pages ≤ 6) (hrl : rs.length < 1000) :
    ∃ (b : Lf × List Pg) (rs' : List Int) (h' : Hm), BkOk pages b ∧ (keysOf b.2 ++ rs').Perm rs ∧ Ext nr (.lst (rs'.map D.int)) h h' ∧
      m__law_block [.int c, .ref nr, .int pages] h = .ok (bD b) h' := by
  have hnr := lt_of_get hr
  -- the sizes
  let zs : List Int := 160 :: (pages + 1 : Int) :: List.replicate pages 36
  have hzs : ∀ z ∈ zs, 0 < z ∧ z < 1000000 := by
    intro z hz
    rcases List.mem_cons.mp hz with rfl | hz
    · omega
    · rcases List.mem_cons.mp hz with rfl | hz
      · omega
      · have := (List.mem_replicate.mp hz).2
        omega
  let h1 : Hm := h ++ [.lst [.int 160, .int (pages + 1)]] ++ [.lst [.int 36]] ++ [.lst (List.replicate pages (.int 36))]
  have hz1 : (h1 ++ [O.lst (zs.map D.int)])[h1.length]? = some (.lst (zs.map D.int)) := get_last
  have hl1 : h1.length = h.length + 3 := by simp [h1]
  obtain ⟨ds, hD, e1⟩ := x_digits (h1 ++ [O.lst (zs.map D.int)]) h1.length zs hz1 c hzs (by simp [zs]; omega)
  have hdl := dig_len hD
  have hzl : zs.length = pages + 2 := by simp [zs]
  obtain ⟨d0, d1, dr, rfl⟩ : ∃ d0 d1 dr, ds = d0 :: d1 :: dr := by
    match ds, hdl with
    | d0 :: d1 :: dr, _ => exact ⟨d0, d1, dr, rfl⟩
    | [], z => simp [hzl] at z
    | [_], z => simp [hzl] at z
  have hD0 : 0 ≤ d0 ∧ d0 < 160 := hD.1
  have hD1 : 0 ≤ d1 ∧ d1 < (pages + 1 : Int) := hD.2.1
  obtain ⟨l, el, ol⟩ := leftD_ok d0 hD0.1
  let h2 : Hm := h1 ++ [O.lst (zs.map D.int)] ++ [.lst ((d0 :: d1 :: dr).map D.int)]
  have hd2 : h2[h.length + 4]? = some (.lst ((d0 :: d1 :: dr).map D.int)) := by
    have : h.length + 4 = (h1 ++ [O.lst (zs.map D.int)]).length := by simp [hl1]
    rw [this]
    exact get_last
  have hl2 : h2.length = h.length + 5 := by simp [h2, hl1]
  -- digits[2:]
  let h3 : Hm := h2 ++ [.lst (dr.map D.int)]
  have hd3 : h3[h.length + 5]? = some (.lst (dr.map D.int)) := by
    rw [← hl2]
    exact get_last
  have old3 : ∀ n, n < h.length → h3[n]? = h[n]? := by
    intro n hn
    simp only [h3, h2, h1]
    rw [get_old (by simp; omega), get_old (by simp; omega), get_old (by simp; omega), get_old (by simp; omega), get_old (by simp; omega), get_old hn]
  have hw : (if l = .bad then pages else d1.toNat) ≤ pages := by split <;> omega
  have hdrl : dr.length = pages := by simp [hzl] at hdl; omega
  obtain ⟨ps, rs', g1, g2, g3, g4⟩ := x_pages h3 (h.length + 5) nr dr rs pages (if l = .bad then pages else d1.toNat) hd3 (by rw [old3 nr hnr]; exact hr) (by omega) (fun d hd => dig_pos hD d (List.mem_cons_of_mem _ (List.mem_cons_of_mem _ hd))) hw (by omega) (by omega) hrl
  refine ⟨(l, ps), rs', h3.set nr (.lst (rs'.map D.int)) ++ [.lst (ps.map pD)], ⟨ol, g2, _, hw, fun e => by rw [if_pos e], g3⟩, g1, ⟨?_, fun n hn hne => ?_, ?_⟩, ?_⟩
  · simp [h3, hl2]; omega
  · rw [get_old (by simp [h3, hl2]; omega), List.getElem?_set_ne (Ne.symm hne), old3 n hn]
  · rw [get_old (by simp [h3, hl2]; omega), List.getElem?_set_self (by simp [h3, hl2]; omega)]
  · have s1 := sizes_run c pages nr [none, none, none] h (by omega) (by omega)
    have ez : (O.lst (.int 160 :: .int ((pages : Int) + 1) :: List.replicate (pages : Int).toNat (.int 36))) = .lst (zs.map D.int) := by
      simp [zs]
    have eh : h ++ [O.lst [.int 160, .int ((pages : Int) + 1)]] ++ [.lst [.int 36]] ++ [.lst (List.replicate (pages : Int).toNat (.int 36))] = h1 := by
      rw [Int.toNat_natCast]
    rw [ez, eh, ← hl1] at s1
    have i0 : dIx (.ref (h1 ++ [O.lst (zs.map D.int)]).length) (.int 0) h2 = .ok (.int d0) h2 := ix_ref (k := 0) get_last rfl
    have i1 : dIx (.ref (h1 ++ [O.lst (zs.map D.int)]).length) (.int 1) h2 = .ok (.int d1) h2 := ix_ref (k := 1) get_last rfl
    have i2 : dSl (.ref (h1 ++ [O.lst (zs.map D.int)]).length) (some 2) none h2 = .ok (.ref (h.length + 5)) h3 := by
      have e : h2[(h1 ++ [O.lst (zs.map D.int)]).length]? = some (.lst ((d0 :: d1 :: dr).map D.int)) := get_last
      have ec : cutD ((d0 :: d1 :: dr).map D.int) (some 2) none = dr.map D.int := by
        unfold cutD
        have a : HT.sIx ((d0 :: d1 :: dr).map D.int).length 0 (some 2) = 2 := by
          have := HT.sIx_nat ((d0 :: d1 :: dr).map D.int).length 0 2
          rw [show ((2 : Nat) : Int) = 2 from rfl] at this
          rw [this]
          simp only [List.length_map, List.length_cons]
          omega
        rw [a, HT.sIx_none]
        have e5 : (List.map D.int (d0 :: d1 :: dr)).drop 2 = dr.map D.int := rfl
        rw [e5, List.take_of_length_le]
        simp
      simp only [dSl, e, ec, hl2]
      rfl
    have i3 : (if lD l = .non then (pages : Int) else d1) = ((if l = .bad then pages else d1.toNat : Nat) : Int) := by
      by_cases hb : l = .bad
      · rw [if_pos ((lD_non l).mpr hb), if_pos hb]
      · rw [if_neg (fun z => hb ((lD_non l).mp z)), if_neg hb]
        omega
    refine block_run s1 e1 i0 (by rw [x_left, el]) i1 i2 ?_
    rw [i3]
    exact g4
end Sh.k07
/-! from Q03d -/
set_option linter.all false
set_option maxRecDepth 100000
namespace Sh.k07
open PySem L2 PyProof.Rows Sh
abbrev bodyR : FS := (gDrop (eLm lAppend (eVar 5) [(eArgs m__law_block [(eArgs m__law_cell [(eVar 0), (eBin dAdd (eBin dAdd (eVar 1) (eC (.int 1))) (eVar 6))]), (eVar 4), (eBin dAdd (eC (.int 1)) (eBin dIx (eVar 2) (eC (.int 2))))])]))
abbrev bodyE : FE := (eArgs m__law_block [(eArgs m__law_cell [(eVar 0), (eBin dAdd (eBin dAdd (eVar 1) (eC (.int 1))) (eVar 6))]), (eVar 4), (eBin dAdd (eC (.int 1)) (eBin dIx (eVar 2) (eC (.int 2))))])
theorem rows_eval {sc a2 a4 a5 bb x7 : D} {b c h2 : Int} {K : D} {h h' : Hm} (e0 : m__law_cell [sc, .int (1 + 1 + b)] h = .ok (.int c) h) (e1 : dIx a2 (.int 2) h = .ok (.int h2) h) (e2 : m__law_block [.int c, a4, .int (1 + h2)] h = .ok bb h') :
    bodyE [some sc, some (.int 1), some a2, some K, some a4, some a5, some (.int b), none] h = .ok bb h' := by
  simp only [bodyE, x_args, evR_cons, evR_nil, x_bin, x_var, x_c, List.getElem?_cons_zero, List.getElem?_cons_succ, ofO_some, RD.bind_ok, o_add, e0, e1, e2]
def allKeys (bs : List (Lf × List Pg)) : List Int := (bs.map fun b => keysOf b.2).flatten
theorem rows_step {ns : List Int} {nh nr nw : Nat} {b : Nat} {hs rs : List Int} {hd2 : Nat} {K : D} {h : Hm} {acc : List (Lf × List Pg)} (hh : h[nh]? = some (.lst (hs.map D.int))) (h2 : hs[2]? = some (hd2 : Int)) (h6 : hd2 < 6) (hr : h[nr]? = some (.lst (rs.map D.int))) (hw : h[nw]? = some (.lst (acc.map bD)))
    (n1 : nh ≠ nr) (n2 : nw ≠ nr) (n3 : nh ≠ nw) (hrl : rs.length < 1000) (hal : acc.length < 1000) :
    ∃ (bk : Lf × List Pg) (rs' : List Int) (h' : Hm), BkOk (1 + hd2) bk ∧ (keysOf bk.2 ++ rs').Perm rs ∧ h.length ≤ h'.length ∧ h'[nh]? = some (.lst (hs.map D.int)) ∧ h'[nr]? = some (.lst (rs'.map D.int)) ∧ h'[nw]? = some (.lst ((acc ++ [bk]).map bD)) ∧
      bodyR [some (.scl (ns.map D.int)), some (.int 1), some (.ref nh), some K, some (.ref nr), some (.ref nw), some (.int b), none] h = .nx [some (.scl (ns.map D.int)), some (.int 1), some (.ref nh), some K, some (.ref nr), some (.ref nw), some (.int b), none] h' := by
  obtain ⟨c, e0⟩ := x_cell ns (1 + 1 + (b : Int)) h (by omega)
  obtain ⟨bk, rs', h', g1, g2, g3, g4⟩ := x_block h nr rs c (1 + hd2) hr (by omega) hrl
  have e1 : dIx (.ref nh) (.int 2) h = .ok (.int hd2) h := ix_ref (k := 2) hh (by rw [List.getElem?_map, h2]; rfl)
  have e4 : m__law_block [.int c, .ref nr, .int (1 + (hd2 : Int))] h = .ok (bD bk) h' := by
    have : (1 + (hd2 : Int)) = ((1 + hd2 : Nat) : Int) := by omega
    rw [this]
    exact g4
  have ev := rows_eval (K := K) (a5 := .ref nw) (x7 := K) (bb := bD bk) e0 e1 e4
  have hw' : h'[nw]? = some (.lst (acc.map bD)) := by rw [g3.old nw (lt_of_get hw) n2]; exact hw
  have hwl := lt_of_get hw'
  refine ⟨bk, rs', h'.set nw (.lst (acc.map bD ++ [bD bk])), g1, g2, ?_, ?_, ?_, ?_, ?_⟩
  · rw [List.length_set]; exact g3.le
  · rw [List.getElem?_set_ne (Ne.symm n3), g3.old nh (lt_of_get hh) n1]; exact hh
  · rw [List.getElem?_set_ne n2]; exact g3.new
  · rw [List.getElem?_set_self hwl]; simp
  · show gDrop (eLm lAppend (eVar 5) [bodyE]) _ h = _
    simp only [x_drop, x_lm, x_var, List.getElem?_cons_zero, List.getElem?_cons_succ, ofO_some, RD.bind_ok, lmB_ref (gl := lAppend) hw, evR_cons, evR_nil, ev, lmC_ok (gl := lAppend) hw']
    rw [app_ok (by simp; omega)]
    rfl
theorem rows_loop {ns : List Int} {nh nr nw : Nat} {hs : List Int} {hd2 : Nat} {K : D} (h2 : hs[2]? = some (hd2 : Int)) (h6 : hd2 < 6) (n1 : nh ≠ nr) (n2 : nw ≠ nr) (n3 : nh ≠ nw) : ∀ (j : Nat) (h : Hm) (rs : List Int) (acc : List (Lf × List Pg)) (x6 : Option D), h[nh]? = some (.lst (hs.map D.int)) → h[nr]? = some (.lst (rs.map D.int)) → h[nw]? = some (.lst (acc.map bD)) → rs.length < 1000 → acc.length + j < 1000 →
    ∃ (bs : List (Lf × List Pg)) (rs' : List Int) (h' : Hm) (x6' : Option D), bs.length = j ∧ (∀ b ∈ bs, BkOk (1 + hd2) b) ∧ (allKeys bs ++ rs').Perm rs ∧ h'[nh]? = some (.lst (hs.map D.int)) ∧ h'[nw]? = some (.lst ((acc ++ bs).map bD)) ∧
      loopG none (tName 6) bodyR ((List.range' acc.length j).map fun i => D.int (i : Nat)) [some (.scl (ns.map D.int)), some (.int 1), some (.ref nh), some K, some (.ref nr), some (.ref nw), x6, none] h = .nx [some (.scl (ns.map D.int)), some (.int 1), some (.ref nh), some K, some (.ref nr), some (.ref nw), x6', none] h'
  | 0, h, rs, acc, x6, hh, hr, hw, _, _ => ⟨[], rs, h, x6, rfl, fun _ z => (List.not_mem_nil z).elim, .refl _, hh, by rw [List.append_nil]; exact hw, by rw [List.range'_zero, List.map_nil, loop_nil chk_none]⟩
  | j + 1, h, rs, acc, x6, hh, hr, hw, hrl, hal => by
    obtain ⟨bk, rs1, h1, g1, g2, g3, g4, g5, g6, g7⟩ := rows_step (ns := ns) (b := acc.length) (K := K) hh h2 h6 hr hw n1 n2 n3 hrl (by omega)
    have hl1 : rs1.length ≤ rs.length := by
      have := g2.length_eq
      rw [List.length_append] at this
      omega
    obtain ⟨bs, rs', h', x6', k1, k2, k3, k4, k5, k6⟩ := rows_loop h2 h6 n1 n2 n3 j h1 rs1 (acc ++ [bk]) (some (.int acc.length)) g4 g5 g6 (by omega) (by simp; omega)
    refine ⟨bk :: bs, rs', h', x6', by simp [k1], fun b hb => ?_, ?_, k4, by rw [List.append_assoc] at k5; exact k5, ?_⟩
    · rcases List.mem_cons.mp hb with rfl | hb
      · exact g1
      · exact k2 b hb
    · show (keysOf bk.2 ++ allKeys bs ++ rs').Perm rs
      rw [List.append_assoc]
      exact (List.Perm.append_left _ k3).trans g2
    · rw [List.range'_succ, List.map_cons, loop_cons chk_none (s1 := [some (.scl (ns.map D.int)), some (.int 1), some (.ref nh), some K, some (.ref nr), some (.ref nw), some (.int acc.length), none]) (h1 := h) rfl, g7]
      simp only [lp_nx]
      have e4 : acc.length + 1 = (acc ++ [bk]).length := by simp
      rw [e4]
      exact k6
end Sh.k07
/-! from Q03e -/
set_option linter.all false
set_option maxRecDepth 100000
namespace Sh.k07
open PySem L2 PyProof.Rows Sh
theorem drawn_run {sc : D} {c k0 k1 k3 k4 k5 : Int} {h h2 h5 : Hm} {nh : Nat} {bs : List D} {x6 : Option D} (e0 : m__law_cell [sc, .int 1] h = .ok (.int c) h)
    (e1 : m__law_digits [.int c, .ref h.length] (h ++ [.lst [.int 9, .int 9, .int 6, .int 10, .int 10, .int 18]]) = .ok (.ref nh) h2) (i0 : dIx (.ref nh) (.int 0) h2 = .ok (.int k0) h2)
    (b0 : 0 ≤ k0 ∧ k0 < 9) (b1 : 0 ≤ k1 ∧ k1 < 9) (i1 : dIx (.ref nh) (.int 1) (h2 ++ [.lst (rgD 0 (1 + k0))] ++ [.lst []]) = .ok (.int k1) (h2 ++ [.lst (rgD 0 (1 + k0))] ++ [.lst []]))
    (e2 : loopG none (tName 6) bodyR ((List.range (1 + k1).toNat).map fun i => D.int (i : Nat)) [some sc, some (.int 1), some (.ref nh), some (.int (1 + k0)), some (.ref h2.length), some (.ref (h2.length + 1)), none, none] (h2 ++ [.lst (rgD 0 (1 + k0))] ++ [.lst []]) =
      .nx [some sc, some (.int 1), some (.ref nh), some (.int (1 + k0)), some (.ref h2.length), some (.ref (h2.length + 1)), x6, none] h5)
    (i3 : dIx (.ref nh) (.int 3) h5 = .ok (.int k3) h5) (i4 : dIx (.ref nh) (.int 4) h5 = .ok (.int k4) h5) (i5 : dIx (.ref nh) (.int 5) h5 = .ok (.int k5) h5) (et : bTuple [.ref (h2.length + 1)] h5 = .ok (.tup bs) h5) :
    m__law_drawn [sc, .int 1] h = .ok (.tup [.int (1 + k0), .tup bs, .int k3, .int k4, if 9 ≤ k5 then .int ((k5 - 9) % (1 + k0)) else .non]) h5 := by
  have bl : ((1 + k0) ≤ 1000000 ∧ -1000000 ≤ (1 + k0)) := ⟨by omega, by omega⟩
  have hp : 0 < 1 + k0 := by omega
  have hl : h2.length + 1 = (h2 ++ [O.lst (rgD 0 (1 + k0))]).length := by simp
  simp only [m__law_drawn, x_run, g__law_drawn]
  simp only [List.map_cons, List.map_nil, List.length_cons, List.length_nil, Nat.zero_add, Nat.reduceAdd, Nat.reduceSub, List.reduceReplicate, List.cons_append, List.nil_append, x_seq, x_set, x_args, x_lst, evR_cons, evR_nil, x_var, x_c, List.getElem?_cons_zero, List.getElem?_cons_succ, ofO_some, RD.bind_ok, e0, e1, RD.st_ok, seq_nx, List.set_cons_succ, List.set_cons_zero, x_bin, i0, o_add, eListRg, bListRg]
  rw [if_pos bl]
  simp only [RD.st_ok, seq_nx, x_seq, x_set, x_lst, evR_nil, List.set_cons_succ, List.set_cons_zero]
  rw [for_ok (fi_rg (h1 := h2 ++ [.lst (rgD 0 (1 + k0))] ++ [.lst []]) (j := 1 + k1) (by simp only [x_bin, x_c, x_var, List.getElem?_cons_zero, List.getElem?_cons_succ, ofO_some, RD.bind_ok, i1, o_add]) (by omega) (by omega)), ← hl]
  show ((RT.seq (loopG none (tName 6) bodyR _ _ _) _).out) = _
  rw [e2]
  simp only [seq_nx, x_seq, x_set, x_c, RD.st_ok, List.set_cons_succ, List.set_cons_zero, x_if, x_bin, x_var, List.getElem?_cons_zero, List.getElem?_cons_succ, ofO_some, RD.bind_ok, i5, o_cmp, tst_ok, decide_eq_true_eq]
  by_cases h9 : 9 ≤ k5
  · simp only [h9, if_true, x_args, evR_cons, evR_nil, x_bin, x_var, x_c, List.getElem?_cons_zero, List.getElem?_cons_succ, ofO_some, RD.bind_ok, i5, o_sub, o_int, o_mod, hp, RD.st_ok, seq_nx, List.set_cons_succ, List.set_cons_zero, x_ret, x_tup, et, i3, i4, out_rt]
  · simp only [h9, if_false, x_next, seq_nx, x_args, evR_cons, evR_nil, x_bin, x_var, x_c, List.getElem?_cons_zero, List.getElem?_cons_succ, ofO_some, RD.bind_ok, RD.st_ok, x_ret, x_tup, et, i3, i4, out_rt]
structure Sd where
  keys : Int
  blocks : List (Lf × List Pg)
  fails : Int
  cuts : Int
  due : Option Int
def dueD : Option Int → D
  | none => .non
  | some k => .int k
def Sd.enc (S : Sd) : D := .tup [.int S.keys, .tup (S.blocks.map bD), .int S.fails, .int S.cuts, dueD S.due]
structure SdOk (S : Sd) (pages : Nat) : Prop where
  k1 : 1 ≤ S.keys
  k2 : S.keys ≤ 9
  b1 : 1 ≤ S.blocks.length
  b2 : S.blocks.length ≤ 9
  p1 : 1 ≤ pages
  p2 : pages ≤ 6
  bk : ∀ b ∈ S.blocks, BkOk pages b
  nd : (allKeys S.blocks).Nodup
  kr : ∀ k ∈ allKeys S.blocks, 0 ≤ k ∧ k < S.keys
  f : 0 ≤ S.fails ∧ S.fails ≤ 9
  c : 0 ≤ S.cuts ∧ S.cuts ≤ 9
  d : ∀ k, S.due = some k → 0 ≤ k ∧ k < S.keys
theorem x_drawn (ns : List Int) (h : Hm) : ∃ (S : Sd) (pages : Nat) (h' : Hm), SdOk S pages ∧ m__law_drawn [.scl (ns.map D.int), .int 1] h = .ok S.enc h' := by
  obtain ⟨c, e0⟩ := x_cell ns 1 h (by omega)
  have hz : (h ++ [O.lst (([9, 9, 6, 10, 10, 18] : List Int).map D.int)])[h.length]? = some (.lst (([9, 9, 6, 10, 10, 18] : List Int).map D.int)) := get_last
  obtain ⟨ds, hD, e1⟩ := x_digits (h ++ [O.lst (([9, 9, 6, 10, 10, 18] : List Int).map D.int)]) h.length [9, 9, 6, 10, 10, 18] hz c (by intro z hz; simp at hz; omega) (by simp)
  have hdl := dig_len hD
  obtain ⟨k0, k1, k2, k3, k4, k5, rfl⟩ : ∃ k0 k1 k2 k3 k4 k5, ds = [k0, k1, k2, k3, k4, k5] := by
    match ds, hdl with
    | [k0, k1, k2, k3, k4, k5], _ => exact ⟨k0, k1, k2, k3, k4, k5, rfl⟩
  obtain ⟨d0, d1, d2, d3, d4, d5, _⟩ := hD
  generalize hh2 : (h ++ [O.lst (([9, 9, 6, 10, 10, 18] : List Int).map D.int)] ++ [O.lst (([k0, k1, k2, k3, k4, k5] : List Int).map D.int)]) = h2 at e1
  have hnh : h2[h.length + 1]? = some (.lst (([k0, k1, k2, k3, k4, k5] : List Int).map D.int)) := by
    rw [← hh2]
    have : h.length + 1 = (h ++ [O.lst (([9, 9, 6, 10, 10, 18] : List Int).map D.int)]).length := by simp
    rw [this]
    exact get_last
  have hl2 : h2.length = h.length + 2 := by rw [← hh2]; simp
  have en : (h ++ [O.lst (([9, 9, 6, 10, 10, 18] : List Int).map D.int)]).length = h.length + 1 := by simp
  rw [en] at e1
  let rs0 : List Int := (List.range (1 + k0).toNat).map fun i : Nat => (i : Int)
  have er : rgD 0 (1 + k0) = rs0.map D.int := by simp [rgD, rs0]
  let h4 : Hm := h2 ++ [.lst (rgD 0 (1 + k0))] ++ [.lst []]
  have f1 : h4[h.length + 1]? = some (.lst (([k0, k1, k2, k3, k4, k5] : List Int).map D.int)) := by
    simp only [h4]
    rw [get_old (by simp; omega), get_old (by omega)]
    exact hnh
  have f2 : h4[h2.length]? = some (.lst (rs0.map D.int)) := by
    simp only [h4]
    rw [get_old (by simp), get_last, er]
  have f3 : h4[h2.length + 1]? = some (.lst (([] : List (Lf × List Pg)).map bD)) := by
    have : h2.length + 1 = (h2 ++ [O.lst (rgD 0 (1 + k0))]).length := by simp
    simp only [h4]
    rw [this]
    exact get_last
  have hrl : rs0.length < 1000 := by simp [rs0]; omega
  obtain ⟨bs, rs', h5, x6', g1, g2, g3, g4, g5, g6⟩ := rows_loop (ns := ns) (hd2 := k2.toNat) (K := .int (1 + k0)) (hs := [k0, k1, k2, k3, k4, k5]) (by show some k2 = _; rw [Int.toNat_of_nonneg d2.1]) (by omega) (by omega) (by omega) (by omega) (1 + k1).toNat h4 rs0 [] none f1 f2 f3 hrl (by simp; omega)
  refine ⟨⟨1 + k0, bs, k3, k4, if 9 ≤ k5 then some ((k5 - 9) % (1 + k0)) else none⟩, 1 + k2.toNat, h5, ?_, ?_⟩
  · have nd0 : rs0.Nodup := by
      simp only [rs0]
      have hr : (List.range (1 + k0).toNat).Pairwise (fun a b => a ≠ b) := List.nodup_range
      refine List.pairwise_map.mpr ?_
      refine List.Pairwise.imp ?_ hr
      intro a b hab z
      exact hab (Int.ofNat.inj z)
    have ndA : (allKeys bs ++ rs').Nodup := g3.symm.nodup nd0
    refine ⟨by simp; omega, by simp; omega, by simp [g1]; omega, by simp [g1]; omega, by omega, by omega, g2, (List.nodup_append.mp ndA).1, fun k hk => ?_, ⟨d3.1, by simp; omega⟩, ⟨d4.1, by simp; omega⟩, fun k hk => ?_⟩
    · have : k ∈ rs0 := g3.subset (List.mem_append_left _ hk)
      simp only [rs0, List.mem_map, List.mem_range] at this
      obtain ⟨i, hi, rfl⟩ := this
      simp
      omega
    · dsimp only at hk
      split at hk
      · cases hk
        exact ⟨Int.emod_nonneg _ (by omega), Int.emod_lt_of_pos _ (by omega)⟩
      · cases hk
  · have ix : ∀ (j : Nat) (v : Int) (hX : Hm), hX[h.length + 1]? = some (.lst (([k0, k1, k2, k3, k4, k5] : List Int).map D.int)) → ([k0, k1, k2, k3, k4, k5] : List Int)[j]? = some v → dIx (.ref (h.length + 1)) (.int j) hX = .ok (.int v) hX := fun j v hX e1 e2 => ix_ref e1 (by rw [List.getElem?_map, e2]; rfl)
    have r := drawn_run e0 e1 (ix 0 k0 h2 hnh rfl) ⟨d0.1, d0.2⟩ ⟨d1.1, d1.2⟩ (ix 1 k1 h4 f1 rfl) (by rw [List.range_eq_range']; exact g6) (ix 3 k3 h5 g4 rfl) (ix 4 k4 h5 g4 rfl) (ix 5 k5 h5 g4 rfl) (tup_ref g5)
    rw [r]
    simp only [Sd.enc]
    by_cases h9 : 9 ≤ k5
    · simp [h9, dueD]
    · simp [h9, dueD]
end Sh.k07
/-! from Q03f -/
set_option linter.all false
set_option maxRecDepth 100000
namespace Sh.k07
open PySem L2 PyProof.Rows Sh
theorem x_iw (i a b : Int) (h : Hm) : m_is_whole [.int i, .int a, .int b] h = .ok (.bl (decide (a ≤ i ∧ i ≤ b))) h := by
  simp [m_is_whole, x_run, g_is_whole, kit_table]
theorem x_iwS (i : Str) (a b : Int) (h : Hm) : m_is_whole [.str i, .int a, .int b] h = .ok (.bl false) h := by
  simp [m_is_whole, x_run, g_is_whole, kit_table]
theorem x_iwB (i : Bool) (a b : Int) (h : Hm) : m_is_whole [.bl i, .int a, .int b] h = .ok (.bl false) h := by
  simp [m_is_whole, x_run, g_is_whole, kit_table]
theorem x_iwN (a b : Int) (h : Hm) : m_is_whole [.non, .int a, .int b] h = .ok (.bl false) h := by
  simp [m_is_whole, x_run, g_is_whole, kit_table]
theorem x_iwT (x : List D) (a b : Int) (h : Hm) : m_is_whole [.tup x, .int a, .int b] h = .ok (.bl false) h := by
  simp [m_is_whole, x_run, g_is_whole, kit_table]
theorem t_lst {T : String} {n : Nat} {h : Hm} {xs : List D} (e : h[n]? = some (.lst xs)) : isiB T h (.ref n) = kitB "list" T := by simp [isiB, tyN, e]
theorem x_iwL (n : Nat) (xs : List D) (a b : Int) (h : Hm) (e : h[n]? = some (.lst xs)) : m_is_whole [.ref n, .int a, .int b] h = .ok (.bl false) h := by
  simp [m_is_whole, x_run, g_is_whole, kit_table, t_lst e]
theorem x_ik (k n : Int) (h : Hm) : m_is_key [.int k, .int n] h = .ok (.bl (decide (0 ≤ k ∧ k ≤ n - 1))) h := by
  simp [m_is_key, x_run, g_is_key, x_iw]
theorem x_il (l : Lf) (o : lfOk l) (h : Hm) : m_is_left [lD l] h = .ok (.bl true) h := by
  cases l with
  | bad => simp [m_is_left, x_run, g_is_left, lD]
  | ever => simp [m_is_left, x_run, g_is_left, lD]
  | num n =>
    have : 0 ≤ n ∧ n ≤ 99 := o
    simp [m_is_left, x_run, g_is_left, lD, x_iw, this]
end Sh.k07
/-! from Q03g -/
set_option linter.all false
set_option maxRecDepth 100000
namespace Sh.k07
open PySem L2 PyProof.Rows Sh
theorem pD_flat : ∀ ps : List Pg, (ps.map pD).all flatD = true
  | [] => rfl
  | p :: ps => by
    rw [List.map_cons, List.all_cons, pD_flat ps]
    cases p <;> rfl
def isFree : Pg → Bool
  | .free => true
  | _ => false
theorem eqF_free (p : Pg) : eqF (pD p) (.str "free") = isFree p := by
  cases p with
  | free => simp [pD, eqF, isFree]
  | old => simp only [pD, eqF, isFree]; decide
  | key k => rfl
theorem count_free (ps : List Pg) : (ps.map pD).countP (fun z => eqF z (.str "free")) = ps.countP isFree := by
  rw [List.countP_map]
  congr 1
  funext p
  exact eqF_free p
theorem free_count : ∀ (ps : List Pg) (w : Nat), (∀ i p, ps[i]? = some p → (w ≤ i ↔ p = .free)) → w ≤ ps.length → ps.countP isFree = ps.length - w
  | [], w, _, hw => by simp at hw; simp [hw]
  | p :: ps, 0, h, _ => by
    have hp := (h 0 p rfl).mp (Nat.le_refl _)
    subst hp
    have := free_count ps 0 (fun i q hq => by simpa using h (i + 1) q (by simpa using hq)) (Nat.zero_le _)
    rw [List.countP_cons_of_pos (by rfl), this]
    simp
  | p :: ps, w + 1, h, hw => by
    have hp : ¬ p = .free := fun z => by
      have := (h 0 p rfl).mpr z
      omega
    have hf : isFree p = false := by cases p <;> first | rfl | exact absurd rfl hp
    have := free_count ps w (fun i q hq => by
      have := h (i + 1) q (by simpa using hq)
      rw [← this]
      omega) (by simp at hw; omega)
    rw [List.countP_cons_of_neg (by rw [hf]; exact Bool.false_ne_true), this]
    simp
theorem no_free (ps : List Pg) (w : Nat) (h : ∀ i p, ps[i]? = some p → (w ≤ i ↔ p = .free)) : (ps.take w).any isFree = false := by
  rw [List.any_eq_false]
  intro p hp
  obtain ⟨i, hi⟩ := List.mem_iff_getElem?.mp hp
  rw [List.getElem?_take] at hi
  split at hi
  · rename_i hlt
    have := h i p hi
    cases p with
    | free => exact absurd (this.mpr rfl) (by omega)
    | _ => exact Bool.false_ne_true
  · cases hi
def pgOk (K : Int) : Pg → Prop
  | .key k => 0 ≤ k ∧ k < K
  | _ => True
abbrev testE : FE := (eOr (eBin dEq (eVar 5) (eC (.str "free"))) (eOr (eBin dEq (eVar 5) (eC (.str "old"))) (eArgs m_is_key [(eVar 5), (eVar 1)])))
theorem x_test (p : Pg) (K : Int) (o : pgOk K p) (a : D) (b c d : Option D) (h : Hm) : testE [some a, some (.int K), b, c, d, some (pD p)] h = .ok (.bl true) h := by
  cases p with
  | free => simp [testE, pD]
  | old =>
    simp [testE, pD]
  | key k =>
    have : 0 ≤ k ∧ k ≤ K - 1 := ⟨o.1, by have := o.2; omega⟩
    simp [testE, pD, x_ik, this]
end Sh.k07
/-! from Q03h -/
set_option linter.all false
set_option maxRecDepth 100000
namespace Sh.k07
open PySem L2 PyProof.Rows Sh
theorem all_test {a : D} {K : Int} {b c : Option D} {ps : List Pg} {h : Hm} (o : ∀ p ∈ ps, pgOk K p) (hl : ps.length < 1000) :
    ∃ t2, eLc (fiSeq (eVar 3)) (tName 5) (eC (.bl true)) testE [5] [some a, some (.int K), b, some (.tup (ps.map pD)), c, none] h = .ok (.ref h.length) (h ++ .lst ((ps.map fun _ => true).map D.bl) :: t2) := by
  obtain ⟨t2, r⟩ := elc_ok (fi := fiSeq (eVar 3)) (gt := tName 5) (ft := eC (.bl true)) (fe := testE) (own := [5]) (s := [some a, some (.int K), b, some (.tup (ps.map pD)), c, none]) (h := h) (ck := none) (xs := ps.map pD) (val := fun _ => .bl true) (tt := fun _ => true)
    (fi_tup rfl) (fun _ => rfl) (fun x hx u => by
      obtain ⟨p, hp, rfl⟩ := List.mem_map.mp hx
      exact ⟨[some a, some (.int K), b, some (.tup (ps.map pD)), c, some (pD p)], [], rfl, rfl, fun _ => by rw [x_test p K (o p hp), List.append_nil]⟩) (by simp; omega)
  refine ⟨t2, ?_⟩
  rw [r, List.filter_eq_self.mpr (fun _ _ => rfl), List.map_map, List.map_map]
  rfl
theorem dSl_tup {xs : List D} {n : Nat} {h : Hm} : dSl (.tup xs) none (some (n : Int)) h = .ok (.tup (xs.take (min n xs.length))) h := by
  simp only [dSl, cutD]
  rw [HT.sIx_none, HT.sIx_nat, List.drop_zero, Nat.sub_zero]
theorem x_isblock (b : Lf × List Pg) (pages : Nat) (K : Int) (hb : BkOk pages b) (p1 : 1 ≤ pages) (p2 : pages ≤ 6) (o : ∀ p ∈ b.2, pgOk K p) (h : Hm) : ∃ t, m_is_block [bD b, .int K] h = .ok (.bl true) (h ++ t) := by
  obtain ⟨l, ps⟩ := b
  obtain ⟨ol, hl, w, hw, hbad, hfree⟩ := hb
  dsimp only at ol hl hbad hfree o
  obtain ⟨t2, r⟩ := all_test (a := bD (l, ps)) (K := K) (b := some (lD l)) (c := none) (h := h) o (by omega)
  refine ⟨.lst ((ps.map fun _ => true).map D.bl) :: t2, ?_⟩
  have hq : bQuant (fun bs => bs.all id) [.ref h.length] (h ++ .lst ((ps.map fun _ => true).map D.bl) :: t2) = .ok (.bl true) (h ++ .lst ((ps.map fun _ => true).map D.bl) :: t2) := by
    rw [quant_ok (bs := ps.map fun _ => true) (by simp)]
    simp
  have i0 : ∀ H : Hm, dIx (bD (l, ps)) (.int 0) H = .ok (lD l) H := fun H => ix_tup (k := 0) rfl
  have tl : tCount (ps.map pD) [.str "free"] (h ++ .lst ((ps.map fun _ => true).map D.bl) :: t2) = .ok (.int ((pages - w : Nat) : Int)) (h ++ .lst ((ps.map fun _ => true).map D.bl) :: t2) := by
    have : flatD (.str "free") = true ∧ (ps.map pD).all flatD = true := ⟨rfl, pD_flat ps⟩
    simp only [tCount]
    rw [if_pos this, count_free, free_count ps w hfree (by omega), hl]
  have len3 : ∀ H : Hm, bLen [.tup (ps.map pD)] H = .ok (.int (pages : Int)) H := fun H => by rw [o_len_t, List.length_map, hl]
  have c3 : 1 ≤ (pages : Int) ∧ (pages : Int) ≤ 6 := ⟨by omega, by omega⟩
  simp only [m_is_block, x_run, g_is_block]
  simp only [List.map_cons, List.map_nil, List.length_cons, List.length_nil, Nat.zero_add, Nat.reduceAdd, Nat.reduceSub, List.reduceReplicate, List.cons_append, List.nil_append, x_seq, x_if, x_or, x_not, x_isi, x_var, List.getElem?_cons_zero, List.getElem?_cons_succ, ofO_some, RD.bind_ok]
  have tt : ∀ H : Hm, isiB "tuple" H (bD (l, ps)) = some true := fun H => by simp [bD, kit_table]
  have tt2 : ∀ H : Hm, isiB "tuple" H (.tup (ps.map pD)) = some true := fun H => by simp [kit_table]
  have l2 : ∀ H : Hm, bLen [bD (l, ps)] H = .ok (.int 2) H := fun H => rfl
  simp only [tt, tb_ok, Bool.not_true, Bool.false_eq_true, if_false, x_bin, x_args, evR_cons, evR_nil, x_var, List.getElem?_cons_zero, ofO_some, RD.bind_ok, l2, x_c, nq_int, decide_true, i0, x_il l ol, tst_ok, x_next, seq_nx]
  have asg : gAsg (eVar 0) (tTup [tName 2, tName 3]) [some (bD (l, ps)), some (.int K), none, none, none, none] h = .nx [some (bD (l, ps)), some (.int K), some (lD l), some (.tup (ps.map pD)), none, none] h := rfl
  rw [x_seq, asg]
  simp only [seq_nx, x_seq, x_if, x_or, x_not, x_isi, x_var, List.getElem?_cons_zero, List.getElem?_cons_succ, ofO_some, RD.bind_ok, tt2, tb_ok, Bool.not_true, Bool.false_eq_true, if_false, x_chain, x_c, x_args, evR_cons, evR_nil, len3, o_cmp, decide_eq_true_eq, c3.1, c3.2, if_true, decide_true, tst_ok, x_next, r, hq]
  have tm : eTm tCount (eVar 3) [eC (.str "free")] [some (bD (l, ps)), some (.int K), some (lD l), some (.tup (ps.map pD)), none, none] (h ++ .lst ((ps.map fun _ => true).map D.bl) :: t2) = .ok (.int ((pages - w : Nat) : Int)) (h ++ .lst ((ps.map fun _ => true).map D.bl) :: t2) := by
    rw [← tl]
    rfl
  rw [x_set, tm]
  simp only [RD.st_ok, seq_nx, List.set_cons_succ, List.set_cons_zero, x_seq, x_if, x_bin, x_var, List.getElem?_cons_zero, List.getElem?_cons_succ, ofO_some, RD.bind_ok, x_c, o_is_n, tst_ok, decide_eq_true_eq]
  by_cases hl0 : lD l = .non
  · have hw2 := hbad ((lD_non l).mp hl0)
    subst hw2
    simp only [hl0, if_true, x_ret, x_bin, x_var, List.getElem?_cons_zero, List.getElem?_cons_succ, ofO_some, RD.bind_ok, x_c, q_int, RD.st_ok, seq_rt, out_rt]
    simp
  · simp only [hl0, if_false, x_next, seq_nx, x_ret, x_bin, x_c, RD.bind_ok, eSl, ePart, x_var, List.getElem?_cons_zero, List.getElem?_cons_succ, ofO_some, x_args, evR_cons, evR_nil, len3, o_sub]
    have ew : ((pages : Int) - ((pages - w : Nat) : Int)) = (w : Int) := by omega
    rw [ew, dSl_tup]
    have hmin : min w (ps.map pD).length = w := by simp; omega
    rw [hmin]
    have hin : inB (h ++ .lst ((ps.map fun _ => true).map D.bl) :: t2) (.str "free") (.tup ((ps.map pD).take w)) = some false := by
      have hf : flatD (.str "free") = true ∧ ((ps.map pD).take w).all flatD = true := ⟨rfl, by rw [← List.map_take]; exact pD_flat _⟩
      simp only [inB]
      rw [if_pos hf, ← List.map_take, List.any_map]
      have := no_free ps w hfree
      rw [← this]
      congr 2
      funext p
      exact eqF_free p
    simp only [RD.bind_ok, dNotIn, hin]
    rfl
end Sh.k07
/-! from Q03i -/
set_option linter.all false
set_option maxRecDepth 100000
namespace Sh.k07
open PySem L2 PyProof.Rows Sh
def notStr : D → Bool
  | .str _ => false
  | _ => true
theorem keys_map' : ∀ ps : List Pg, (ps.map pD).filter notStr = (keysOf ps).map D.int
  | [] => rfl
  | .free :: ps => by
    rw [List.map_cons, List.filter_cons_of_neg (by exact Bool.false_ne_true), keys_map' ps]
    rfl
  | .old :: ps => by
    rw [List.map_cons, List.filter_cons_of_neg (by exact Bool.false_ne_true), keys_map' ps]
    rfl
  | .key k :: ps => by
    rw [List.map_cons, List.filter_cons_of_pos (by rfl), keys_map' ps]
    rfl
theorem pgOk_of {K : Int} : ∀ {ps : List Pg}, (∀ k ∈ keysOf ps, 0 ≤ k ∧ k < K) → ∀ p ∈ ps, pgOk K p
  | q :: ps, h, p, hp => by
    rcases List.mem_cons.mp hp with rfl | hp
    · cases p with
      | key k => exact h k (List.mem_cons_self ..)
      | _ => trivial
    · refine pgOk_of (ps := ps) (fun k hk => h k ?_) p hp
      cases q with
      | key j => exact List.mem_cons_of_mem _ hk
      | _ => exact hk
structure BsOk (K : Int) (pages : Nat) (bs : List (Lf × List Pg)) : Prop where
  b1 : 1 ≤ bs.length
  b2 : bs.length ≤ 9
  p1 : 1 ≤ pages
  p2 : pages ≤ 6
  bk : ∀ b ∈ bs, BkOk pages b
  nd : (allKeys bs).Nodup
  kr : ∀ k ∈ allKeys bs, 0 ≤ k ∧ k < K
theorem mem_allKeys {bs : List (Lf × List Pg)} {b : Lf × List Pg} (hb : b ∈ bs) {k : Int} (hk : k ∈ keysOf b.2) : k ∈ allKeys bs := List.mem_flatten.mpr ⟨_, List.mem_map.mpr ⟨b, hb, rfl⟩, hk⟩
theorem SdOk.bs {S : Sd} {pages : Nat} (o : SdOk S pages) : BsOk S.keys pages S.blocks := ⟨o.b1, o.b2, o.p1, o.p2, o.bk, o.nd, o.kr⟩
theorem ab_all {K : Int} {pages : Nat} {bs : List (Lf × List Pg)} (o : BsOk K pages bs) {nb : Nat} {h : Hm} (hb : h[nb]? = some (.lst (bs.map bD))) {a4 a5 a6 a2 : Option D} :
    ∃ t2, eLc (fiSeq (eVar 0)) (tName 3) (eC (.bl true)) (eArgs m_is_block [(eVar 3), (eVar 1)]) [3] [some (.ref nb), some (.int K), a2, none, a4, a5, a6] h = .ok (.ref h.length) (h ++ .lst ((bs.map fun _ => true).map D.bl) :: t2) := by
  obtain ⟨t2, r⟩ := elc_ok (fi := fiSeq (eVar 0)) (gt := tName 3) (ft := eC (.bl true)) (fe := (eArgs m_is_block [(eVar 3), (eVar 1)])) (own := [3]) (s := [some (.ref nb), some (.int K), a2, none, a4, a5, a6]) (h := h) (ck := some (nb, bs.map bD)) (xs := bs.map bD) (val := fun _ => .bl true) (tt := fun _ => true)
    (fi_ref rfl hb) (chk_old hb) (fun x hx u => by
      obtain ⟨b, hbm, rfl⟩ := List.mem_map.mp hx
      obtain ⟨t, e⟩ := x_isblock b pages K (o.bk b hbm) o.p1 o.p2 (pgOk_of fun k hk => o.kr k (mem_allKeys hbm hk)) (h ++ u)
      refine ⟨[some (.ref nb), some (.int K), a2, some (bD b), a4, a5, a6], t, rfl, rfl, fun _ => ?_⟩
      simp only [x_args, evR_cons, evR_nil, x_var, List.getElem?_cons_zero, List.getElem?_cons_succ, ofO_some, RD.bind_ok, e]) (by simp; have := o.b2; omega)
  refine ⟨t2, ?_⟩
  rw [r, List.filter_eq_self.mpr (fun _ _ => rfl), List.map_map, List.map_map]
  rfl
theorem ab_any {K : Int} {pages : Nat} {bs : List (Lf × List Pg)} (o : BsOk K pages bs) {nb : Nat} {h : Hm} (hb : h[nb]? = some (.lst (bs.map bD))) {a3 a6 a2 : Option D} :
    ∃ t2, eLc (fiSeq (eVar 0)) (tTup [(tName 4), (tName 5)]) (eC (.bl true)) (eBin dNe (eArgs bLen [(eVar 5)]) (eArgs bLen [(eBin dIx (eBin dIx (eVar 0) (eC (.int 0))) (eC (.int 1)))])) [4, 5] [some (.ref nb), some (.int K), a2, a3, none, none, a6] h = .ok (.ref h.length) (h ++ .lst ((bs.map fun _ => false).map D.bl) :: t2) := by
  obtain ⟨b0, bs', rfl⟩ : ∃ b0 bs', bs = b0 :: bs' := by
    cases bs with
    | nil => have := o.b1; simp at this
    | cons b bs => exact ⟨b, bs, rfl⟩
  obtain ⟨t2, r⟩ := elc_ok (fi := fiSeq (eVar 0)) (gt := (tTup [(tName 4), (tName 5)])) (ft := eC (.bl true)) (fe := (eBin dNe (eArgs bLen [(eVar 5)]) (eArgs bLen [(eBin dIx (eBin dIx (eVar 0) (eC (.int 0))) (eC (.int 1)))]))) (own := [4, 5]) (s := [some (.ref nb), some (.int K), a2, a3, none, none, a6]) (h := h) (ck := some (nb, (b0 :: bs').map bD)) (xs := (b0 :: bs').map bD) (val := fun _ => .bl false) (tt := fun _ => true)
    (fi_ref rfl hb) (chk_old hb) (fun x hx u => by
      obtain ⟨b, hbm, rfl⟩ := List.mem_map.mp hx
      refine ⟨[some (.ref nb), some (.int K), a2, a3, some (lD b.1), some (.tup (b.2.map pD)), a6], [], rfl, rfl, fun _ => ?_⟩
      have e0 : dIx (.ref nb) (.int 0) (h ++ u) = .ok (bD b0) (h ++ u) := ix_ref (k := 0) (by rw [List.getElem?_append_left (lt_of_get hb)]; exact hb) rfl
      have e1 : dIx (bD b0) (.int 1) (h ++ u) = .ok (.tup (b0.2.map pD)) (h ++ u) := ix_tup (k := 1) rfl
      have l1 := (o.bk b hbm).2.1
      have l0 := (o.bk b0 (List.mem_cons_self ..)).2.1
      simp only [x_bin, x_args, evR_cons, evR_nil, x_var, x_c, List.getElem?_cons_zero, List.getElem?_cons_succ, ofO_some, RD.bind_ok, e0, e1, o_len_t, List.length_map, l1, l0, nq_int, decide_true, Bool.not_true, List.append_nil]) (by simp; have := o.b2; simp at this; omega)
  refine ⟨t2, ?_⟩
  rw [r, List.filter_eq_self.mpr (fun _ _ => rfl), List.map_map, List.map_map]
  rfl
def pagesOf : D → List D
  | .tup [_, .tup ps] => ps
  | _ => []
theorem flat_keys : ∀ bs : List (Lf × List Pg), ((bs.map bD).map fun x => ((pagesOf x).filter notStr).map id).flatten = (allKeys bs).map D.int
  | [] => rfl
  | b :: bs => by
    have e : ((pagesOf (bD b)).filter notStr).map id = (keysOf b.2).map D.int := by
      rw [List.map_id]
      exact keys_map' b.2
    simp only [List.map_cons, List.flatten_cons, e, flat_keys bs]
    simp [allKeys]
theorem sum_le : ∀ (bs : List (Lf × List Pg)) (n : Nat), (∀ b ∈ bs, b.2.length ≤ n) → ((bs.map bD).map fun x => (pagesOf x).length).sum ≤ bs.length * n
  | [], n, _ => by simp
  | b :: bs, n, h => by
    have h1 := h b (List.mem_cons_self ..)
    have h2 := sum_le bs n fun c hc => h c (List.mem_cons_of_mem _ hc)
    have e : (pagesOf (bD b)).length = b.2.length := by simp [bD, pagesOf]
    simp only [List.map_cons, List.sum_cons, List.length_cons, e, Nat.succ_mul]
    omega
theorem ab_held {K : Int} {pages : Nat} {bs : List (Lf × List Pg)} (o : BsOk K pages bs) {nb : Nat} {h : Hm} (hb : h[nb]? = some (.lst (bs.map bD))) {a3 a2 : Option D} :
    ∃ t2, eLc2 (fiSeq (eVar 0)) (tTup [(tName 4), (tName 5)]) (eC (.bl true)) (fiSeq (eVar 5)) (tName 6) (eNot (eIsi "str" (eVar 6))) (eVar 6) [4, 5, 6] [6] [some (.ref nb), some (.int K), a2, a3, none, none, none] h = .ok (.ref h.length) (h ++ .lst ((allKeys bs).map D.int) :: t2) := by
  obtain ⟨t2, r⟩ := elc2_ok (fi := fiSeq (eVar 0)) (gt := (tTup [(tName 4), (tName 5)])) (fi1 := fiSeq (eVar 5)) (gt1 := tName 6) (ft1 := eNot (eIsi "str" (eVar 6))) (fe := eVar 6) (own := [4, 5, 6]) (vs1 := [6]) (s := [some (.ref nb), some (.int K), a2, a3, none, none, none]) (h := h) (ck := some (nb, bs.map bD)) (xs := bs.map bD) (ys := pagesOf) (val := fun _ y => y) (tt := fun _ y => notStr y)
    (fi_ref rfl hb) (chk_old hb) (fun x hx => by
      obtain ⟨b, hbm, rfl⟩ := List.mem_map.mp hx
      refine ⟨[some (.ref nb), some (.int K), a2, a3, some (lD b.1), some (.tup (b.2.map pD)), none], fun u => ⟨rfl, fi_tup rfl⟩, fun y hy u => ?_⟩
      obtain ⟨p, hp, rfl⟩ := List.mem_map.mp (show y ∈ b.2.map pD from hy)
      refine ⟨[some (.ref nb), some (.int K), a2, a3, some (lD b.1), some (.tup (b.2.map pD)), some (pD p)], [], rfl, ?_, fun _ => by rw [List.append_nil]; rfl⟩
      cases p with
      | free => simp [pD, notStr, kit_table]
      | old => simp [pD, notStr, kit_table]
      | key k => simp [pD, notStr, kit_table]) (by
      have := sum_le bs 6 fun b hb => by rw [(o.bk b hb).2.1]; exact o.p2
      have := o.b2
      omega)
  refine ⟨t2, ?_⟩
  rw [r]
  have := flat_keys bs
  simp only [List.map_id] at this
  rw [← this]
  simp
end Sh.k07
/-! from Q03j -/
set_option linter.all false
set_option maxRecDepth 100000
namespace Sh.k07
open PySem L2 PyProof.Rows Sh
theorem ints_map : ∀ ns : List Int, intsD (ns.map D.int) = some ns
  | [] => rfl
  | n :: ns => by simp [intsD, ints_map ns]
theorem met_nodup {ns : List Int} (h : ns.Nodup) : (metI ns).length = ns.length := by
  unfold metI
  rw [RZ.firstMet_nodup h ns.length (Nat.le_refl _), List.take_length]
theorem lenSet_ok {f : FE} {s : DS} {h : Hm} {n : Nat} {ns : List Int} (e : f s h = .ok (.ref n) h) (e1 : h[n]? = some (.lst (ns.map D.int))) (hn : ns.Nodup) (hl : ns.length ≤ 4000) : eLenSet f s h = .ok (.int ns.length) h := by
  have hm := met_nodup hn
  simp [eLenSet, e, items, e1, ints_map, hl, hm]
theorem keys_len {K : Int} {pages : Nat} {bs : List (Lf × List Pg)} (o : BsOk K pages bs) : (allKeys bs).length ≤ 4000 := by
  have key : ∀ (ps : List Pg), (keysOf ps).length ≤ ps.length := by
    intro ps
    induction ps with
    | nil => exact Nat.le_refl _
    | cons p ps ih =>
      cases p <;> simp [keysOf] <;> omega
  have : ∀ (cs : List (Lf × List Pg)), (∀ b ∈ cs, b.2.length ≤ 6) → (allKeys cs).length ≤ cs.length * 6 := by
    intro cs
    induction cs with
    | nil => intro _; simp [allKeys]
    | cons b cs ih =>
      intro h
      have h1 := h b (List.mem_cons_self ..)
      have h2 := ih fun c hc => h c (List.mem_cons_of_mem _ hc)
      have h3 := key b.2
      have e : allKeys (b :: cs) = keysOf b.2 ++ allKeys cs := by simp [allKeys]
      rw [e, List.length_append, List.length_cons, Nat.succ_mul]
      omega
  have h1 := this bs fun b hb => by rw [(o.bk b hb).2.1]; exact o.p2
  have := o.b2
  omega
theorem x_areblocks {K : Int} {pages : Nat} {bs : List (Lf × List Pg)} (o : BsOk K pages bs) {nb : Nat} {h : Hm} (hb : h[nb]? = some (.lst (bs.map bD))) : ∃ t, m_are_blocks [.ref nb, .int K] h = .ok (.bl true) (h ++ t) := by
  obtain ⟨t1, r1⟩ := ab_all o hb (a2 := none) (a4 := none) (a5 := none) (a6 := none)
  obtain ⟨h1, eh1⟩ : ∃ h1 : Hm, h1 = h ++ .lst ((bs.map fun _ => true).map D.bl) :: t1 := ⟨_, rfl⟩
  rw [← eh1] at r1
  have hb1 : h1[nb]? = some (.lst (bs.map bD)) := by
    rw [eh1, List.getElem?_append_left (lt_of_get hb)]
    exact hb
  obtain ⟨t2, r2⟩ := ab_any o hb1 (a2 := none) (a3 := none) (a6 := none)
  obtain ⟨h2, eh2⟩ : ∃ h2 : Hm, h2 = h1 ++ .lst ((bs.map fun _ => false).map D.bl) :: t2 := ⟨_, rfl⟩
  rw [← eh2] at r2
  have hb2 : h2[nb]? = some (.lst (bs.map bD)) := by
    rw [eh2, List.getElem?_append_left (lt_of_get hb1)]
    exact hb1
  obtain ⟨t3, r3⟩ := ab_held o hb2 (a2 := none) (a3 := none)
  obtain ⟨h3, eh3⟩ : ∃ h3 : Hm, h3 = h2 ++ .lst ((allKeys bs).map D.int) :: t3 := ⟨_, rfl⟩
  rw [← eh3] at r3
  refine ⟨.lst ((bs.map fun _ => true).map D.bl) :: t1 ++ (.lst ((bs.map fun _ => false).map D.bl) :: t2 ++ .lst ((allKeys bs).map D.int) :: t3), ?_⟩
  have q1 : bQuant (fun bs => bs.all id) [.ref h.length] h1 = .ok (.bl true) h1 := by
    rw [quant_ok (bs := bs.map fun _ => true) (by simp [eh1])]
    simp
  have q2 : bQuant (fun bs => bs.any id) [.ref h1.length] h2 = .ok (.bl false) h2 := by
    rw [quant_ok (bs := bs.map fun _ => false) (by simp [eh2])]
    simp
  have g3 : h3[h2.length]? = some (.lst ((allKeys bs).map D.int)) := by simp [eh3]
  have hlen : ∀ H : Hm, H[nb]? = some (.lst (bs.map bD)) → bLen [.ref nb] H = .ok (.int bs.length) H := fun H e => by rw [len_ref e, List.length_map]
  have c9 : 1 ≤ (bs.length : Int) ∧ (bs.length : Int) ≤ 9 := ⟨by have := o.b1; omega, by have := o.b2; omega⟩
  have tl : isiB "list" h (.ref nb) = some true := by rw [t_lst hb]; simp [kit_table]
  have ls := lenSet_ok (f := eVar 2) (s := [some (.ref nb), some (.int K), some (.ref h2.length), none, none, none, none]) (h := h3) rfl g3 o.nd (keys_len o)
  have ll := len_ref g3
  rw [List.length_map] at ll
  simp only [m_are_blocks, x_run, g_are_blocks]
  simp only [List.map_cons, List.map_nil, List.length_cons, List.length_nil, Nat.zero_add, Nat.reduceAdd, Nat.reduceSub, List.reduceReplicate, List.cons_append, List.nil_append, x_seq, x_if, x_or, x_not, x_isi, x_var, List.getElem?_cons_zero, List.getElem?_cons_succ, ofO_some, RD.bind_ok, tl, tb_ok, Bool.not_true, Bool.false_eq_true, if_false, x_chain, x_c, x_args, evR_cons, evR_nil, hlen h hb, o_cmp, decide_eq_true_eq, c9.1, c9.2, if_true, decide_true, tst_ok, x_next, seq_nx, r1, q1, r2, q2, x_set, r3, RD.st_ok, List.set_cons_succ, List.set_cons_zero, x_ret, x_bin, ll, ls, q_int, out_rt]
  rw [eh3, eh2, eh1]
  simp
end Sh.k07
/-! from Q03k -/
set_option linter.all false
set_option maxRecDepth 100000
namespace Sh.k07
open PySem L2 PyProof.Rows Sh
theorem x_wrong {S : Sd} {pages : Nat} (o : SdOk S pages) {nb : Nat} {h : Hm} (hb : h[nb]? = some (.lst (S.blocks.map bD))) : ∃ t, m_wrong_part [.int S.keys, .ref nb, .int S.fails, .int S.cuts, dueD S.due] h = .ok .non (h ++ t) := by
  obtain ⟨t, e⟩ := x_areblocks o.bs hb
  refine ⟨t, ?_⟩
  have c1 : 1 ≤ S.keys ∧ S.keys ≤ 9 := ⟨o.k1, o.k2⟩
  have c2 := o.f
  have c3 := o.c
  simp only [m_wrong_part, x_run, g_wrong_part]
  simp only [List.map_cons, List.map_nil, List.length_cons, List.length_nil, Nat.zero_add, Nat.reduceAdd, Nat.reduceSub, List.reduceReplicate, List.replicate_zero, List.append_nil, List.cons_append, List.nil_append, x_seq, x_if, x_not, x_and, x_args, evR_cons, evR_nil, x_var, x_c, List.getElem?_cons_zero, List.getElem?_cons_succ, ofO_some, RD.bind_ok, x_iw, c1, c2, c3, and_self, decide_true, tb_ok, Bool.not_true, tst_ok, Bool.false_eq_true, if_false, x_next, seq_nx, e, x_bin, o_isN_n]
  cases hd : S.due with
  | none => simp [dueD]
  | some k =>
    have c4 := o.d k hd
    have c5 : 0 ≤ k ∧ k ≤ S.keys - 1 := ⟨c4.1, by omega⟩
    simp [dueD, x_ik, c5]
def stO (S : Sd) : O := .ins "Stand" [("_shape", S.enc)]
theorem x_init {S : Sd} {pages : Nat} (o : SdOk S pages) {nb p : Nat} {h : Hm} (hb : h[nb]? = some (.lst (S.blocks.map bD))) (hp : h[p]? = some (.ins "Stand" [])) : ∃ t, m_Stand_init [.ref p, .int S.keys, .ref nb, .int S.fails, .int S.cuts, dueD S.due] h = .ok .non (h.set p (stO S) ++ t) := by
  obtain ⟨t, e⟩ := x_wrong o hb
  refine ⟨t, ?_⟩
  have hb1 : (h ++ t)[nb]? = some (.lst (S.blocks.map bD)) := by rw [List.getElem?_append_left (lt_of_get hb)]; exact hb
  have hp1 : (h ++ t)[p]? = some (.ins "Stand" []) := by rw [List.getElem?_append_left (lt_of_get hp)]; exact hp
  simp only [m_Stand_init, x_run, g_Stand_init]
  simp only [List.map_cons, List.map_nil, List.length_cons, List.length_nil, Nat.zero_add, Nat.reduceAdd, Nat.reduceSub, List.reduceReplicate, List.cons_append, List.nil_append, x_seq, x_set, x_if, x_args, evR_cons, evR_nil, x_var, x_c, List.getElem?_cons_zero, List.getElem?_cons_succ, ofO_some, RD.bind_ok, e, RD.st_ok, seq_nx, List.set_cons_succ, List.set_cons_zero, x_bin, o_isN_n, decide_true, Bool.not_true, tst_ok, Bool.false_eq_true, if_false, x_next]
  have ev : (eTup [(eVar 1), (eArgs bTuple [(eVar 2)]), (eVar 3), (eVar 4), (eVar 5)]) [some (.ref p), some (.int S.keys), some (.ref nb), some (.int S.fails), some (.int S.cuts), some (dueD S.due), some .non] (h ++ t) = .ok S.enc (h ++ t) := by
    simp only [x_tup, x_args, evR_cons, evR_nil, x_var, List.getElem?_cons_zero, List.getElem?_cons_succ, ofO_some, RD.bind_ok, tup_ref hb1]
    rfl
  have hc : True ∧ ([] : List (Str × D)).length < 900 := ⟨trivial, by decide⟩
  simp only [gPut, ev, RD.st_ok, x_var, List.getElem?_cons_zero, ofO_some, hp1]
  rw [if_pos hc]
  simp only [out_nx, putD]
  rw [List.set_append_left _ _ (lt_of_get hp)]
  rfl
theorem x_stand {S : Sd} {pages : Nat} (o : SdOk S pages) (h : Hm) : ∃ (p : Nat) (t : Hm), m__law_stand [S.enc] h = .ok (.ref p) (h ++ t) ∧ (h ++ t)[p]? = some (stO S) ∧ h.length ≤ p := by
  have hb : (h ++ [O.lst (S.blocks.map bD)] ++ [O.ins "Stand" []])[h.length]? = some (.lst (S.blocks.map bD)) := by
    rw [get_old (by simp)]
    exact get_last
  have hp : (h ++ [O.lst (S.blocks.map bD)] ++ [O.ins "Stand" []])[(h ++ [O.lst (S.blocks.map bD)]).length]? = some (.ins "Stand" []) := get_last
  obtain ⟨t, e⟩ := x_init o hb hp
  rw [set_last] at e
  refine ⟨(h ++ [O.lst (S.blocks.map bD)]).length, [O.lst (S.blocks.map bD)] ++ [stO S] ++ t, ?_, ?_, by simp⟩
  · have j0 : ∀ H : Hm, dIx S.enc (.int 0) H = .ok (.int S.keys) H := fun H => ix_tup (k := 0) rfl
    have j1 : ∀ H : Hm, dIx S.enc (.int 1) H = .ok (.tup (S.blocks.map bD)) H := fun H => ix_tup (k := 1) rfl
    have j2 : ∀ H : Hm, dIx S.enc (.int 2) H = .ok (.int S.fails) H := fun H => ix_tup (k := 2) rfl
    have j3 : ∀ H : Hm, dIx S.enc (.int 3) H = .ok (.int S.cuts) H := fun H => ix_tup (k := 3) rfl
    have j4 : ∀ H : Hm, dIx S.enc (.int 4) H = .ok (dueD S.due) H := fun H => ix_tup (k := 4) rfl
    have bl : ∀ H : Hm, bList [.tup (S.blocks.map bD)] H = .ok (.ref H.length) (H ++ [.lst (S.blocks.map bD)]) := fun H => rfl
    simp only [m__law_stand, x_run, g__law_stand]
    simp only [List.map_cons, List.map_nil, List.length_cons, List.length_nil, Nat.zero_add, Nat.reduceAdd, Nat.reduceSub, List.reduceReplicate, List.replicate_zero, List.append_nil, List.cons_append, List.nil_append, x_ret, eMake, evalL, x_bin, x_args, evR_cons, evR_nil, x_var, x_c, List.getElem?_cons_zero, ofO_some, RD.bind_ok, j0, j1, j2, j3, j4, bl, dMake, e, RD.st_ok, out_rt]
    simp
  · have : h ++ ([O.lst (S.blocks.map bD)] ++ [stO S] ++ t) = (h ++ [O.lst (S.blocks.map bD)]) ++ stO S :: t := by simp
    rw [this]
    simp
end Sh.k07
/-! from Q03l -/
set_option linter.all false
set_option maxRecDepth 100000
namespace Sh.k07
open PySem L2 PyProof.Rows Sh
theorem x_isshape {S : Sd} {pages : Nat} (o : SdOk S pages) (h : Hm) : ∃ t, m_is_shape [S.enc] h = .ok (.bl true) (h ++ t) := by
  obtain ⟨t, e⟩ := x_wrong o (h := h ++ [O.lst (S.blocks.map bD)]) (nb := h.length) get_last
  refine ⟨[O.lst (S.blocks.map bD)] ++ t, ?_⟩
  have t1 : ∀ H : Hm, isiB "tuple" H S.enc = some true := fun H => by simp [Sd.enc, kit_table]
  have t2 : ∀ H : Hm, isiB "tuple" H (.tup (S.blocks.map bD)) = some true := fun H => by simp [kit_table]
  have l1 : ∀ H : Hm, bLen [S.enc] H = .ok (.int 5) H := fun H => rfl
  have j1 : ∀ H : Hm, dIx S.enc (.int 1) H = .ok (.tup (S.blocks.map bD)) H := fun H => ix_tup (k := 1) rfl
  have bl : ∀ H : Hm, bList [.tup (S.blocks.map bD)] H = .ok (.ref H.length) (H ++ [.lst (S.blocks.map bD)]) := fun H => rfl
  have asg : gAsg (eVar 0) (tTup [tName 1, tName 2, tName 3, tName 4, tName 5]) [some S.enc, none, none, none, none, none] h = .nx [some S.enc, some (.int S.keys), some (.tup (S.blocks.map bD)), some (.int S.fails), some (.int S.cuts), some (dueD S.due)] h := rfl
  simp only [m_is_shape, x_run, g_is_shape]
  simp only [List.map_cons, List.map_nil, List.length_cons, List.length_nil, Nat.zero_add, Nat.reduceAdd, Nat.reduceSub, List.reduceReplicate, List.cons_append, List.nil_append, x_seq, x_if, x_or, x_not, x_isi, x_var, x_bin, x_args, evR_cons, evR_nil, x_c, List.getElem?_cons_zero, List.getElem?_cons_succ, ofO_some, RD.bind_ok, t1, t2, l1, j1, nq_int, decide_true, tb_ok, Bool.not_true, Bool.false_eq_true, if_false, tst_ok, x_next, seq_nx, asg, x_ret, bl, e, o_is_n, RD.st_ok, out_rt, List.append_assoc]
theorem x_standof {S : Sd} {pages : Nat} (o : SdOk S pages) (h : Hm) : ∃ (p : Nat) (t : Hm), m_stand_of [S.enc] h = .ok (.ref p) (h ++ t) ∧ (h ++ t)[p]? = some (stO S) ∧ h.length ≤ p := by
  obtain ⟨t0, e0⟩ := x_isshape o h
  obtain ⟨h1, eh⟩ : ∃ h1, h1 = h ++ t0 := ⟨_, rfl⟩
  rw [← eh] at e0
  have hb : (h1 ++ [O.lst (S.blocks.map bD)] ++ [O.ins "Stand" []])[h1.length]? = some (.lst (S.blocks.map bD)) := by
    rw [get_old (by simp)]
    exact get_last
  have hp : (h1 ++ [O.lst (S.blocks.map bD)] ++ [O.ins "Stand" []])[(h1 ++ [O.lst (S.blocks.map bD)]).length]? = some (.ins "Stand" []) := get_last
  obtain ⟨t, e⟩ := x_init o hb hp
  rw [set_last] at e
  refine ⟨(h1 ++ [O.lst (S.blocks.map bD)]).length, t0 ++ ([O.lst (S.blocks.map bD)] ++ [stO S] ++ t), ?_, ?_, by rw [eh]; simp⟩
  · have asg : gAsg (eVar 0) (tTup [tName 1, tName 2, tName 3, tName 4, tName 5]) [some S.enc, none, none, none, none, none] h1 = .nx [some S.enc, some (.int S.keys), some (.tup (S.blocks.map bD)), some (.int S.fails), some (.int S.cuts), some (dueD S.due)] h1 := rfl
    have bl : ∀ H : Hm, bList [.tup (S.blocks.map bD)] H = .ok (.ref H.length) (H ++ [.lst (S.blocks.map bD)]) := fun H => rfl
    simp only [m_stand_of, x_run, g_stand_of]
    simp only [List.map_cons, List.map_nil, List.length_cons, List.length_nil, Nat.zero_add, Nat.reduceAdd, Nat.reduceSub, List.reduceReplicate, List.cons_append, List.nil_append, x_seq, x_if, x_not, x_args, evR_cons, evR_nil, x_var, List.getElem?_cons_zero, List.getElem?_cons_succ, ofO_some, RD.bind_ok, e0, tb_ok, Bool.not_true, tst_ok, Bool.false_eq_true, if_false, x_next, seq_nx, asg, x_ret, eMake, evalL, bl, dMake, e, RD.st_ok, out_rt]
    rw [eh]
    simp
  · have : h ++ (t0 ++ ([O.lst (S.blocks.map bD)] ++ [stO S] ++ t)) = (h1 ++ [O.lst (S.blocks.map bD)]) ++ stO S :: t := by rw [eh]; simp
    rw [this]
    simp
/-! ### the stand's own methods -/
theorem fld_ok {S : Sd} {f : FE} {s : DS} {h h1 : Hm} {p : Nat} (e : f s h = .ok (.ref p) h1) (hp : h1[p]? = some (stO S)) : eFld "Stand" "_shape" f s h = .ok S.enc h1 := by
  simp only [eFld, e, RD.bind_ok, hp, stO]
  simp [List.lookup]
theorem meth_okv {S : Sd} {m : Str} {F : FF} {f : FE} {l : List FE} {s : DS} {h h1 : Hm} {p : Nat} (e : f s h = .ok (.ref p) h1) (hp : h1[p]? = some (stO S)) (hm : m ≠ "_shape") : eMeth "Stand" m F f l s h = evR l s h1 fun ds h2 => F (.ref p :: ds) h2 := by
  have hl : List.lookup m [(("_shape" : Str), S.enc)] = none := by
    have : (m == ("_shape" : Str)) = false := beq_eq_false_iff_ne.mpr hm
    simp [List.lookup, this]
  simp only [eMeth, e, RD.bind_ok, hp, stO, hl, and_self, if_true]
  exact x_args
theorem x_shape {S : Sd} {h : Hm} {p : Nat} (hp : h[p]? = some (stO S)) : m_Stand_shape [.ref p] h = .ok S.enc h := by
  simp only [m_Stand_shape, x_run, g_Stand_shape, x_ret]
  rw [fld_ok (S := S) (p := p) (h1 := h) rfl hp]
  rfl
theorem x_many {S : Sd} {h : Hm} {p : Nat} (hp : h[p]? = some (stO S)) : m_Stand_many [.ref p] h = .ok (.int S.keys) h := by
  simp only [m_Stand_many, x_run, g_Stand_many, x_ret, x_bin]
  rw [fld_ok (S := S) (p := p) (h1 := h) rfl hp]
  have j0 : dIx S.enc (.int 0) h = .ok (.int S.keys) h := ix_tup (k := 0) rfl
  simp only [RD.bind_ok, x_c, j0, RD.st_ok, out_rt]
theorem x_asked {S : Sd} {h : Hm} {p : Nat} (hp : h[p]? = some (stO S)) : m_Stand_asked [.ref p] h = .ok (dueD S.due) h := by
  simp only [m_Stand_asked, x_run, g_Stand_asked, x_ret, x_bin]
  rw [fld_ok (S := S) (p := p) (h1 := h) rfl hp]
  have j0 : dIx S.enc (.int 4) h = .ok (dueD S.due) h := ix_tup (k := 4) rfl
  simp only [RD.bind_ok, x_c, j0, RD.st_ok, out_rt]
theorem x_shapeasked {S : Sd} (k : Int) (h : Hm) : m_shape_asked [S.enc, .int k] h = .ok (Sd.enc { S with due := some k }) h := by
  have e : dSl S.enc none (some 4) h = .ok (.tup [.int S.keys, .tup (S.blocks.map bD), .int S.fails, .int S.cuts]) h := dSl_tup (n := 4)
  have a : dAdd (.tup [.int S.keys, .tup (S.blocks.map bD), .int S.fails, .int S.cuts]) (.tup [.int k]) h = .ok (Sd.enc { S with due := some k }) h := rfl
  simp only [m_shape_asked, x_run, g_shape_asked, List.map_cons, List.map_nil, List.length_cons, List.length_nil, Nat.zero_add, Nat.reduceAdd, Nat.reduceSub, List.replicate_zero, List.append_nil, x_ret, x_bin, eSl, ePart, x_var, x_c, List.getElem?_cons_zero, List.getElem?_cons_succ, ofO_some, RD.bind_ok, e, x_tup, evR_cons, evR_nil, a, RD.st_ok, out_rt]
theorem put_ok {S : Sd} {pages : Nat} (o : SdOk S pages) {k : Int} (hk : 0 ≤ k ∧ k < S.keys) : SdOk { S with due := some k } pages :=
  ⟨o.k1, o.k2, o.b1, o.b2, o.p1, o.p2, o.bk, o.nd, o.kr, o.f, o.c, fun j hj => by cases hj; exact hk⟩
end Sh.k07
/-! from Q03m -/
set_option linter.all false
set_option maxRecDepth 100000
namespace Sh.k07
open PySem L2 PyProof.Rows Sh
/-! ### _law_same of data with itself -/
mutual
def pureD : Nat → D → Bool
  | _, .non => true
  | _, .bl _ => true
  | _, .int _ => true
  | _, .str _ => true
  | n + 1, .tup ds => pureL n ds && decide (ds.length < 1000000)
  | _, _ => false
def pureL : Nat → List D → Bool
  | _, [] => true
  | n, d :: ds => pureD n d && pureL n ds
end
theorem pureL_all : ∀ {n : Nat} {ds : List D}, pureL n ds = true → ∀ d ∈ ds, pureD n d = true
  | n, d :: ds, h, e, he => by
    simp only [pureL, Bool.and_eq_true] at h
    rcases List.mem_cons.mp he with rfl | he
    · exact h.1
    · exact pureL_all h.2 e he
theorem same_loop {F : FF} {xs : List D} {a b : D} {h : Hm} (ha : ∀ H k x, xs[k]? = some x → dIx a (.int (k : Nat)) h = .ok x h ∧ dIx b (.int (k : Nat)) h = .ok x h ∧ H = h ∨ True) (hF : ∀ x ∈ xs, F [x, x] h = .ok (.bl true) h) (hia : ∀ k x, xs[k]? = some x → dIx a (.int (k : Nat)) h = .ok x h) (hib : ∀ k x, xs[k]? = some x → dIx b (.int (k : Nat)) h = .ok x h) :
    ∀ (j k : Nat) (x2 : Option D), k + j = xs.length → ∃ x2', loopG none (tName 2) (gIf (eNot (eArgs F [(eBin dIx (eVar 0) (eVar 2)), (eBin dIx (eVar 1) (eVar 2))])) (gRet (eC (.bl false))) gNext) ((List.range' k j).map fun i => D.int (i : Nat)) [some a, some b, x2] h = .nx [some a, some b, x2'] h
  | 0, k, x2, _ => ⟨x2, by rw [List.range'_zero, List.map_nil, loop_nil chk_none]⟩
  | j + 1, k, x2, hk => by
    have hlt : k < xs.length := by omega
    obtain ⟨x2', e⟩ := same_loop ha hF hia hib j (k + 1) (some (.int (k : Nat))) (by omega)
    refine ⟨x2', ?_⟩
    rw [List.range'_succ, List.map_cons, loop_cons chk_none (s1 := [some a, some b, some (.int (k : Nat))]) (h1 := h) rfl]
    have e1 := hia k _ (List.getElem?_eq_getElem hlt)
    have e2 := hib k _ (List.getElem?_eq_getElem hlt)
    simp only [x_if, x_not, x_args, evR_cons, evR_nil, x_bin, x_var, List.getElem?_cons_zero, List.getElem?_cons_succ, ofO_some, RD.bind_ok, e1, e2, hF _ (List.getElem_mem hlt), tb_ok, Bool.not_true, tst_ok, Bool.false_eq_true, if_false, x_next, lp_nx, e]
theorem same_tail {F : FF} {xs : List D} {a b : D} {h : Hm} (hn : b ≠ .non ∧ b ≠ .bl true ∧ b ≠ .bl false) (ti : isiB "int" h b = some false) (ts : isiB "str" h b = some false) (tt : (isiB "tuple" h b = some true ∧ isiB "tuple" h a = some true ∧ isiB "list" h b = some false) ∨ (isiB "tuple" h b = some false ∧ isiB "list" h b = some true ∧ isiB "list" h a = some true))
    (la : bLen [a] h = .ok (.int xs.length) h) (lb : bLen [b] h = .ok (.int xs.length) h) (hl : xs.length < 1000000)
    (hF : ∀ x ∈ xs, F [x, x] h = .ok (.bl true) h) (hia : ∀ k x, xs[k]? = some x → dIx a (.int (k : Nat)) h = .ok x h) (hib : ∀ k x, xs[k]? = some x → dIx b (.int (k : Nat)) h = .ok x h) : runB 3 (g__law_same F) [a, b] h = .ok (.bl true) h := by
  obtain ⟨x2', e⟩ := same_loop (a := a) (b := b) (h := h) (fun _ _ _ _ => .inr trivial) hF hia hib xs.length 0 none (Nat.zero_add _)
  simp only [x_run, g__law_same]
  simp only [List.map_cons, List.map_nil, List.length_cons, List.length_nil, Nat.zero_add, Nat.reduceAdd, Nat.reduceSub, List.reduceReplicate, List.cons_append, List.nil_append, x_seq, x_if, x_bin, x_var, x_c, List.getElem?_cons_zero, List.getElem?_cons_succ, ofO_some, RD.bind_ok, o_is_n, o_is_b, tst_ok, hn.1, hn.2.1, hn.2.2, decide_false, Bool.false_eq_true, if_false, x_next, seq_nx, x_isi, ti, ts, x_and, x_not]
  have hf : gFor (fiRg [eArgs bLen [eVar 1]]) (tName 2) (gIf (eNot (eArgs F [(eBin dIx (eVar 0) (eVar 2)), (eBin dIx (eVar 1) (eVar 2))])) (gRet (eC (.bl false))) gNext) [some a, some b, none] h = .nx [some a, some b, x2'] h := by
    rw [for_ok (fi_rg (h1 := h) (j := (xs.length : Int)) (by simp only [x_args, evR_cons, evR_nil, x_var, List.getElem?_cons_zero, List.getElem?_cons_succ, ofO_some, RD.bind_ok, lb]) (by omega) (by omega)), Int.toNat_natCast, List.range_eq_range', e]
  rcases tt with ⟨t1, t2, t3⟩ | ⟨t1, t2, t3⟩
  · simp only [t1, t2, t3, x_seq, x_if, x_and, x_isi, x_not, tb_ok, if_true, Bool.not_true, tst_ok, Bool.false_eq_true, if_false, x_next, seq_nx, x_args, evR_cons, evR_nil, x_bin, x_var, List.getElem?_cons_zero, List.getElem?_cons_succ, ofO_some, RD.bind_ok, la, lb, nq_int, decide_true, hf, x_ret, x_c, RD.st_ok, out_rt]
  · simp only [t1, t2, t3, x_seq, x_if, x_and, x_isi, x_not, tb_ok, if_true, Bool.not_true, tst_ok, Bool.false_eq_true, if_false, x_next, seq_nx, x_args, evR_cons, evR_nil, x_bin, x_var, List.getElem?_cons_zero, List.getElem?_cons_succ, ofO_some, RD.bind_ok, la, lb, nq_int, decide_true, hf, x_ret, x_c, RD.st_ok, out_rt]
theorem x_same : ∀ (n : Nat) (d : D) (h : Hm), pureD n d = true → m__law_same (n + 1) [d, d] h = .ok (.bl true) h
  | n, .non, h, _ => by simp [m__law_same, x_run, g__law_same]
  | n, .bl true, h, _ => by simp [m__law_same, x_run, g__law_same]
  | n, .bl false, h, _ => by simp [m__law_same, x_run, g__law_same]
  | n, .int i, h, _ => by simp [m__law_same, x_run, g__law_same, kit_table]
  | n, .str i, h, _ => by simp [m__law_same, x_run, g__law_same, kit_table]
  | 0, .tup ds, h, p => by simp [pureD] at p
  | n + 1, .tup ds, h, p => by
    simp only [pureD, Bool.and_eq_true, decide_eq_true_eq] at p
    exact same_tail (xs := ds) ⟨by simp, by simp, by simp⟩ (by simp [kit_table]) (by simp [kit_table]) (.inl ⟨by simp [kit_table], by simp [kit_table], by simp [kit_table]⟩) rfl rfl p.2 (fun x hx => x_same n x h (pureL_all p.1 x hx)) (fun k x e => ix_tup e) (fun k x e => ix_tup e)
  | n, .ref k, h, p => by cases n <;> simp [pureD] at p
  | n, .scl k, h, p => by cases n <;> simp [pureD] at p
theorem x_sameL {n a b : Nat} {xs : List D} {h : Hm} (ha : h[a]? = some (.lst xs)) (hb : h[b]? = some (.lst xs)) (p : pureL n xs = true) (hl : xs.length < 1000000) : m__law_same (n + 2) [.ref a, .ref b] h = .ok (.bl true) h :=
  same_tail (xs := xs) ⟨by simp, by simp, by simp⟩ (by rw [t_lst hb]; simp [kit_table]) (by rw [t_lst hb]; simp [kit_table]) (.inr ⟨by rw [t_lst hb]; simp [kit_table], by rw [t_lst hb]; simp [kit_table], by rw [t_lst ha]; simp [kit_table]⟩) (len_ref ha) (len_ref hb) hl (fun x hx => x_same n x h (pureL_all p x hx)) (fun k x e => ix_ref ha e) (fun k x e => ix_ref hb e)
end Sh.k07
/-! from Q03n -/
set_option linter.all false
set_option maxRecDepth 100000
namespace Sh.k07
open PySem L2 PyProof.Rows Sh
section
variable {S : Sd} {pages : Nat} {h : Hm} {p : Nat}
theorem put_due {k : Int} (hp : h[p]? = some (stO S)) (hd : S.due = some k) (d : D) : m_Stand_put [.ref p, d] h = .exc "NotAtRest" [] h := by
  have e : eMeth "Stand" "asked" m_Stand_asked (eVar 0) [] [some (.ref p), some d] h = .ok (.int k) h := by
    rw [meth_okv (S := S) (p := p) (h1 := h) rfl hp (by decide), evR_nil, x_asked hp, hd]
    rfl
  simp only [m_Stand_put, x_run, g_Stand_put, List.map_cons, List.map_nil, List.length_cons, List.length_nil, Nat.zero_add, Nat.reduceAdd, Nat.reduceSub, List.replicate_zero, List.append_nil, x_seq, x_if, x_bin, e, RD.bind_ok, x_c, o_isN_n]
  simp [gRaise]
theorem is_key_eval {d : D} {b : Bool} {s : DS} (hp : h[p]? = some (stO S)) (hk : m_is_key [d, .int S.keys] h = .ok (.bl b) h) : (eArgs m_is_key [(eVar 1), (eMeth "Stand" "many" m_Stand_many (eVar 0) [])]) (some (.ref p) :: some d :: s) h = .ok (.bl b) h := by
  have e : eMeth "Stand" "many" m_Stand_many (eVar 0) [] (some (.ref p) :: some d :: s) h = .ok (.int S.keys) h := by
    rw [meth_okv (S := S) (p := p) (h1 := h) rfl hp (by decide), evR_nil, x_many hp]
  simp only [x_args, evR_cons, evR_nil, x_var, List.getElem?_cons_zero, List.getElem?_cons_succ, ofO_some, RD.bind_ok, e, hk]
theorem put_bad (hp : h[p]? = some (stO S)) (hd : S.due = none) {d : D} (hk : m_is_key [d, .int S.keys] h = .ok (.bl false) h) : m_Stand_put [.ref p, d] h = .exc "NoKey" [] h := by
  have e : eMeth "Stand" "asked" m_Stand_asked (eVar 0) [] [some (.ref p), some d] h = .ok .non h := by
    rw [meth_okv (S := S) (p := p) (h1 := h) rfl hp (by decide), evR_nil, x_asked hp, hd]
    rfl
  have e2 := is_key_eval (s := []) hp hk
  simp only [m_Stand_put, x_run, g_Stand_put, List.map_cons, List.map_nil, List.length_cons, List.length_nil, Nat.zero_add, Nat.reduceAdd, Nat.reduceSub, List.replicate_zero, List.append_nil, x_seq, x_if, x_bin, e, RD.bind_ok, x_c, o_isN_n, decide_true, Bool.not_true, tst_ok, Bool.false_eq_true, if_false, x_next, seq_nx, x_not, e2, tb_ok, Bool.not_false, if_true]
  rfl
theorem put_good (o : SdOk S pages) (hp : h[p]? = some (stO S)) (hd : S.due = none) {k : Int} (hk : 0 ≤ k ∧ k < S.keys) : ∃ (q : Nat) (t : Hm), m_Stand_put [.ref p, .int k] h = .ok (.ref q) (h ++ t) ∧ (h ++ t)[q]? = some (stO { S with due := some k }) := by
  obtain ⟨q, t, e1, e2, _⟩ := x_standof (put_ok o hk) h
  refine ⟨q, t, ?_, e2⟩
  have e : eMeth "Stand" "asked" m_Stand_asked (eVar 0) [] [some (.ref p), some (.int k)] h = .ok .non h := by
    rw [meth_okv (S := S) (p := p) (h1 := h) rfl hp (by decide), evR_nil, x_asked hp, hd]
    rfl
  have hk1 : 0 ≤ k ∧ k ≤ S.keys - 1 := ⟨hk.1, by omega⟩
  have e3 := is_key_eval (s := []) hp (show m_is_key [.int k, .int S.keys] h = .ok (.bl true) h by rw [x_ik, decide_eq_true hk1])
  have ef : eFld "Stand" "_shape" (eVar 0) [some (.ref p), some (.int k)] h = .ok S.enc h := fld_ok rfl hp
  simp only [m_Stand_put, x_run, g_Stand_put, List.map_cons, List.map_nil, List.length_cons, List.length_nil, Nat.zero_add, Nat.reduceAdd, Nat.reduceSub, List.replicate_zero, List.append_nil, x_seq, x_if, x_bin, e, RD.bind_ok, x_c, o_isN_n, decide_true, Bool.not_true, tst_ok, Bool.false_eq_true, if_false, x_next, seq_nx, x_not, e3, tb_ok, x_ret]
  have ea : (eArgs m_stand_of [(eArgs m_shape_asked [(eFld "Stand" "_shape" (eVar 0)), (eVar 1)])]) [some (.ref p), some (.int k)] h = .ok (.ref q) (h ++ t) := by
    rw [x_args, evR_cons, x_args, evR_cons, ef]
    simp only [RD.bind_ok, evR_cons, evR_nil, x_var, List.getElem?_cons_zero, List.getElem?_cons_succ, ofO_some, x_shapeasked, e1]
  rw [ea]
  rfl
end
end Sh.k07
/-! from Q03o -/
set_option linter.all false
set_option maxRecDepth 100000
namespace Sh.k07
open PySem L2 PyProof.Rows Sh
/-! ### places -/
def plP (b : Nat) : Nat → List Pg → List (Int × Nat × Nat)
  | _, [] => []
  | p, .key k :: r => (k, b, p) :: plP b (p + 1) r
  | p, _ :: r => plP b (p + 1) r
def plB : Nat → List (Lf × List Pg) → List (Int × Nat × Nat)
  | _, [] => []
  | b, x :: r => plP b 0 x.2 ++ plB (b + 1) r
def kvT (t : Int × Nat × Nat) : Key × D := (.inl t.1, .tup [.int (t.2.1 : Nat), .int (t.2.2 : Nat)])
theorem plP_keys (b : Nat) : ∀ (p : Nat) (ps : List Pg), (plP b p ps).map (·.1) = keysOf ps
  | _, [] => rfl
  | p, .key k :: r => by simp [plP, keysOf, plP_keys b (p + 1) r]
  | p, .free :: r => by simp [plP, keysOf, plP_keys b (p + 1) r]
  | p, .old :: r => by simp [plP, keysOf, plP_keys b (p + 1) r]
theorem plB_keys : ∀ (b : Nat) (bs : List (Lf × List Pg)), (plB b bs).map (·.1) = allKeys bs
  | _, [] => rfl
  | b, x :: r => by
    have e : allKeys (x :: r) = keysOf x.2 ++ allKeys r := by simp [allKeys]
    rw [e, plB, List.map_append, plP_keys, plB_keys (b + 1) r]
theorem put_new {L : List (Int × Nat × Nat)} {k : Int} {v : D} (hn : k ∉ L.map (·.1)) : putKD (L.map kvT) (.inl k) v = L.map kvT ++ [(.inl k, v)] := by
  unfold putKD
  have : ((L.map kvT).any fun kv => decide (kv.1 = .inl k)) = false := by
    rw [List.any_eq_false]
    intro x hx
    obtain ⟨t, ht, rfl⟩ := List.mem_map.mp hx
    simp only [kvT, decide_eq_true_eq, Sum.inl.injEq]
    rintro rfl
    exact hn (List.mem_map.mpr ⟨t, ht, rfl⟩)
  rw [this]
  exact if_neg Bool.false_ne_true
abbrev bodyI : FS := (gIf (eNot (eIsi "str" (eVar 6))) (gDput (eVar 1) (eVar 6) (eTup [(eVar 2), (eVar 5)])) gNext)
theorem pl_inner (h : Hm) (a l g : D) (b : Nat) : ∀ (ps : List Pg) (p0 : Nat) (L : List (Int × Nat × Nat)) (x5 x6 : Option D), (L.map (·.1) ++ keysOf ps).Nodup → L.length + ps.length < 1000000 →
    ∃ x5' x6', loopG none (tTup [(tName 5), (tName 6)]) bodyI (enD p0 (ps.map pD)) [some a, some (.ref h.length), some (.int b), some l, some g, x5, x6] (h ++ [.dk (L.map kvT)]) = .nx [some a, some (.ref h.length), some (.int b), some l, some g, x5', x6'] (h ++ [.dk ((L ++ plP b p0 ps).map kvT)])
  | [], p0, L, x5, x6, _, _ => ⟨x5, x6, by
      rw [List.map_nil, enD, loop_nil chk_none]
      simp [plP]⟩
  | p :: ps, p0, L, x5, x6, nd, hl => by
    simp only [List.length_cons] at hl
    rw [List.map_cons, enD, loop_cons chk_none (s1 := [some a, some (.ref h.length), some (.int b), some l, some g, some (.int (p0 : Nat)), some (pD p)]) (h1 := h ++ [.dk (L.map kvT)]) rfl]
    cases p with
    | free =>
      obtain ⟨x5', x6', e⟩ := pl_inner h a l g b ps (p0 + 1) L (some (.int (p0 : Nat))) (some (pD .free)) nd (by omega)
      refine ⟨x5', x6', ?_⟩
      simp only [x_if, x_not, x_isi, x_var, List.getElem?_cons_zero, List.getElem?_cons_succ, ofO_some, RD.bind_ok, pD, t_str, kit_table, tb_ok, Bool.not_true, tst_ok, Bool.false_eq_true, if_false, x_next, lp_nx] at e ⊢
      exact e
    | old =>
      obtain ⟨x5', x6', e⟩ := pl_inner h a l g b ps (p0 + 1) L (some (.int (p0 : Nat))) (some (pD .old)) nd (by omega)
      refine ⟨x5', x6', ?_⟩
      simp only [x_if, x_not, x_isi, x_var, List.getElem?_cons_zero, List.getElem?_cons_succ, ofO_some, RD.bind_ok, pD, t_str, kit_table, tb_ok, Bool.not_true, tst_ok, Bool.false_eq_true, if_false, x_next, lp_nx] at e ⊢
      exact e
    | key k =>
      have hk : k ∉ L.map (·.1) := fun z => by
        have := (List.nodup_append.mp nd).2.2 k z k (List.mem_cons_self ..)
        exact this rfl
      have nd' : ((L ++ [(k, b, p0)]).map (·.1) ++ keysOf ps).Nodup := by
        rw [List.map_append, List.append_assoc]
        exact nd
      obtain ⟨x5', x6', e⟩ := pl_inner h a l g b ps (p0 + 1) (L ++ [(k, b, p0)]) (some (.int (p0 : Nat))) (some (pD (.key k))) nd' (by simp; omega)
      refine ⟨x5', x6', ?_⟩
      have gl : (h ++ [O.dk (L.map kvT)])[h.length]? = some (.dk (L.map kvT)) := get_last
      have hz : (L.map kvT).length < big := by show _ < 1000000; simp; omega
      have dp : (gDput (eVar 1) (eVar 6) (eTup [(eVar 2), (eVar 5)])) [some a, some (.ref h.length), some (.int b), some l, some g, some (.int (p0 : Nat)), some (pD (.key k))] (h ++ [.dk (L.map kvT)]) = .nx [some a, some (.ref h.length), some (.int b), some l, some g, some (.int (p0 : Nat)), some (pD (.key k))] (h ++ [.dk ((L ++ [(k, b, p0)]).map kvT)]) := by
        simp only [gDput, x_tup, evR_cons, evR_nil, x_var, List.getElem?_cons_zero, List.getElem?_cons_succ, ofO_some, RD.bind_ok, RD.st_ok, pD, keyD, gl]
        rw [if_pos hz, put_new hk, set_last, List.map_append]
        rfl
      have ti : isiB "str" (h ++ [O.dk (L.map kvT)]) (pD (.key k)) = some false := by simp [pD, kit_table]
      simp only [x_if, x_not, x_isi, x_var, List.getElem?_cons_zero, List.getElem?_cons_succ, ofO_some, RD.bind_ok, ti, tb_ok, Bool.not_false, tst_ok, if_true, dp, lp_nx]
      rw [e, List.append_assoc]
      rfl
abbrev bodyO : FS := (gFor (fiEn (eVar 4)) (tTup [(tName 5), (tName 6)]) bodyI)
theorem pl_outer (h : Hm) (a : D) : ∀ (bs : List (Lf × List Pg)) (b0 : Nat) (L : List (Int × Nat × Nat)) (x2 x3 x4 x5 x6 : Option D), (L.map (·.1) ++ allKeys bs).Nodup → (∀ b ∈ bs, b.2.length ≤ 6) → L.length + bs.length * 6 < 1000000 →
    ∃ x2' x3' x4' x5' x6', loopG none (tTup [(tName 2), (tTup [(tName 3), (tName 4)])]) bodyO (enD b0 (bs.map bD)) [some a, some (.ref h.length), x2, x3, x4, x5, x6] (h ++ [.dk (L.map kvT)]) = .nx [some a, some (.ref h.length), x2', x3', x4', x5', x6'] (h ++ [.dk ((L ++ plB b0 bs).map kvT)])
  | [], b0, L, x2, x3, x4, x5, x6, _, _, _ => ⟨x2, x3, x4, x5, x6, by
      rw [List.map_nil, enD, loop_nil chk_none]
      simp [plB]⟩
  | x :: bs, b0, L, x2, x3, x4, x5, x6, nd, h6, hl => by
    simp only [List.length_cons, Nat.succ_mul] at hl
    have hx := h6 x (List.mem_cons_self ..)
    have ea : allKeys (x :: bs) = keysOf x.2 ++ allKeys bs := by simp [allKeys]
    rw [ea, ← List.append_assoc] at nd
    obtain ⟨y5, y6, e1⟩ := pl_inner h a (lD x.1) (.tup (x.2.map pD)) b0 x.2 0 L x5 x6 (List.nodup_append.mp nd).1 (by omega)
    have lp : (plP b0 0 x.2).length ≤ x.2.length := by
      have := congrArg List.length (plP_keys b0 0 x.2)
      rw [List.length_map] at this
      rw [this]
      have key : ∀ (ps : List Pg), (keysOf ps).length ≤ ps.length := by
        intro ps
        induction ps with
        | nil => exact Nat.le_refl _
        | cons p ps ih => cases p <;> simp [keysOf] <;> omega
      exact key _
    obtain ⟨z2, z3, z4, z5, z6, e2⟩ := pl_outer h a bs (b0 + 1) (L ++ plP b0 0 x.2) (some (.int (b0 : Nat))) (some (lD x.1)) (some (.tup (x.2.map pD))) y5 y6 (by rw [List.map_append, plP_keys]; exact nd) (fun b hb => h6 b (List.mem_cons_of_mem _ hb)) (by rw [List.length_append]; omega)
    refine ⟨z2, z3, z4, z5, z6, ?_⟩
    rw [List.map_cons, enD, loop_cons chk_none (s1 := [some a, some (.ref h.length), some (.int (b0 : Nat)), some (lD x.1), some (.tup (x.2.map pD)), x5, x6]) (h1 := h ++ [.dk (L.map kvT)]) rfl]
    have ef : fiEn (eVar 4) [some a, some (.ref h.length), some (.int (b0 : Nat)), some (lD x.1), some (.tup (x.2.map pD)), x5, x6] (h ++ [O.dk (L.map kvT)]) = .ok (enD 0 (x.2.map pD)) none (h ++ [.dk (L.map kvT)]) := rfl
    have eo := (for_ok (gt := (tTup [(tName 5), (tName 6)])) (gb := bodyI) ef).trans e1
    show (RT.lp (gFor (fiEn (eVar 4)) (tTup [(tName 5), (tName 6)]) bodyI _ _) _) = _
    rw [eo, lp_nx, e2, List.append_assoc]
    rfl
theorem x_places {bs : List (Lf × List Pg)} (nd : (allKeys bs).Nodup) (h6 : ∀ b ∈ bs, b.2.length ≤ 6) (hl : bs.length ≤ 9) (h : Hm) : m_places [.tup (bs.map bD)] h = .ok (.ref h.length) (h ++ [.dk ((plB 0 bs).map kvT)]) := by
  obtain ⟨z2, z3, z4, z5, z6, e⟩ := pl_outer h (.tup (bs.map bD)) bs 0 [] none none none none none (by simpa using nd) h6 (by simp; omega)
  simp only [m_places, x_run, g_places]
  simp only [List.map_cons, List.map_nil, List.length_cons, List.length_nil, Nat.zero_add, Nat.reduceAdd, Nat.reduceSub, List.reduceReplicate, List.cons_append, List.nil_append, x_seq, x_set, eDnew, RD.st_ok, List.set_cons_succ, List.set_cons_zero, seq_nx]
  have ef : fiEn (eVar 0) [some (.tup (bs.map bD)), some (.ref h.length), none, none, none, none, none] (h ++ [O.dk []]) = .ok (enD 0 (bs.map bD)) none (h ++ [.dk []]) := rfl
  simp only [List.map_nil, List.nil_append] at e
  rw [for_ok ef, e]
  rfl
end Sh.k07
/-! from Q03p -/
set_option linter.all false
set_option maxRecDepth 100000
namespace Sh.k07
open PySem L2 PyProof.Rows Sh
def plF (L : List (Int × Nat × Nat)) (k : Int) : Option (Nat × Nat) := (L.find? fun t => decide (t.1 = k)).map (·.2)
def plD : Option (Nat × Nat) → D
  | none => .non
  | some (b, p) => .tup [.int (b : Nat), .int (p : Nat)]
theorem plF_cons (t : Int × Nat × Nat) (L : List (Int × Nat × Nat)) (k : Int) : plF (t :: L) k = if t.1 = k then some t.2 else plF L k := by
  unfold plF
  rw [List.find?_cons]
  by_cases h : t.1 = k
  · simp [h]
  · simp [h]
theorem plF_app (L M : List (Int × Nat × Nat)) (k : Int) : plF (L ++ M) k = match plF L k with
    | some x => some x
    | none => plF M k := by
  induction L with
  | nil => rfl
  | cons t L ih =>
    rw [List.cons_append, plF_cons, plF_cons, ih]
    by_cases h : t.1 = k <;> simp [h]
theorem valD_pl : ∀ (L : List (Int × Nat × Nat)) (k : Int), (valD (L.map kvT) (.inl k)).getD .non = plD (plF L k)
  | [], k => rfl
  | t :: L, k => by
    have ih := valD_pl L k
    rw [plF_cons]
    unfold valD at ih ⊢
    rw [List.map_cons, List.find?_cons]
    by_cases h : t.1 = k
    · have : decide ((kvT t).1 = Sum.inl k) = true := by simp [kvT, h]
      rw [this, if_pos h]
      rfl
    · have : decide ((kvT t).1 = Sum.inl k) = false := by simp [kvT, h]
      rw [this, if_neg h]
      exact ih
section
variable {S : Sd} {pages : Nat} {h : Hm} {p : Nat}
theorem where_bad (hp : h[p]? = some (stO S)) {d : D} (hk : m_is_key [d, .int S.keys] h = .ok (.bl false) h) : m_Stand_where [.ref p, d] h = .exc "NoKey" [] h := by
  have e2 := is_key_eval (s := []) hp hk
  simp only [m_Stand_where, x_run, g_Stand_where, List.map_cons, List.map_nil, List.length_cons, List.length_nil, Nat.zero_add, Nat.reduceAdd, Nat.reduceSub, List.replicate_zero, List.append_nil, x_seq, x_if, x_not, e2, tb_ok, Bool.not_false, tst_ok, if_true]
  rfl
theorem where_good (o : SdOk S pages) (hp : h[p]? = some (stO S)) {k : Int} (hk : 0 ≤ k ∧ k < S.keys) : m_Stand_where [.ref p, .int k] h = .ok (plD (plF (plB 0 S.blocks) k)) (h ++ [.dk ((plB 0 S.blocks).map kvT)]) := by
  have hk1 : 0 ≤ k ∧ k ≤ S.keys - 1 := ⟨hk.1, by omega⟩
  have e3 := is_key_eval (s := []) hp (show m_is_key [.int k, .int S.keys] h = .ok (.bl true) h by rw [x_ik, decide_eq_true hk1])
  have ef : eFld "Stand" "_shape" (eVar 0) [some (.ref p), some (.int k)] h = .ok S.enc h := fld_ok rfl hp
  have j1 : dIx S.enc (.int 1) h = .ok (.tup (S.blocks.map bD)) h := ix_tup (k := 1) rfl
  have epl := x_places o.nd (fun b hb => by rw [(o.bk b hb).2.1]; exact o.p2) o.b2 h
  have gl : (h ++ [O.dk ((plB 0 S.blocks).map kvT)])[h.length]? = some (.dk ((plB 0 S.blocks).map kvT)) := get_last
  have di : isDk (.ref h.length) (h ++ [O.dk ((plB 0 S.blocks).map kvT)]) = true := by simp only [isDk, gl]
  have dh : dHas (.ref h.length) (.int k) (h ++ [O.dk ((plB 0 S.blocks).map kvT)]) = some (valD ((plB 0 S.blocks).map kvT) (.inl k)) := by simp only [dHas, keyD, gl]
  simp only [m_Stand_where, x_run, g_Stand_where, List.map_cons, List.map_nil, List.length_cons, List.length_nil, Nat.zero_add, Nat.reduceAdd, Nat.reduceSub, List.replicate_zero, List.append_nil, x_seq, x_if, x_not, e3, tb_ok, Bool.not_true, tst_ok, Bool.false_eq_true, if_false, x_next, seq_nx, x_ret, eDget1]
  have ea : (eArgs m_places [(eBin dIx (eFld "Stand" "_shape" (eVar 0)) (eC (.int 1)))]) [some (.ref p), some (.int k)] h = .ok (.ref h.length) (h ++ [O.dk ((plB 0 S.blocks).map kvT)]) := by
    simp only [x_args, evR_cons, evR_nil, x_bin, ef, RD.bind_ok, x_c, j1, epl]
  rw [ea]
  simp only [RD.bind_ok]
  rw [if_pos di]
  simp only [x_var, List.getElem?_cons_zero, List.getElem?_cons_succ, ofO_some, RD.bind_ok, dh, valD_pl, RD.st_ok, out_rt]
end
end Sh.k07
/-! from Q03q -/
set_option linter.all false
set_option maxRecDepth 100000
namespace Sh.k07
open PySem L2 PyProof.Rows Sh
abbrev bodyK : FS := (gIf (eBin dEq (eBin dIx (eVar 3) (eVar 4)) (eVar 1)) (gRet (eTup [(eVar 2), (eVar 4)])) gNext)
theorem lp_inner (h : Hm) (a : D) (k : Int) (b : Nat) (all : List Pg) : ∀ (ps pre : List Pg) (x4 : Option D), all = pre ++ ps →
    (∃ bp, plF (plP b pre.length ps) k = some bp ∧ loopG none (tName 4) bodyK ((List.range' pre.length ps.length).map fun i => D.int (i : Nat)) [some a, some (.int k), some (.int (b : Nat)), some (.tup (all.map pD)), x4] h = .rt (plD (some bp)) h) ∨
    (plF (plP b pre.length ps) k = none ∧ ∃ x4', loopG none (tName 4) bodyK ((List.range' pre.length ps.length).map fun i => D.int (i : Nat)) [some a, some (.int k), some (.int (b : Nat)), some (.tup (all.map pD)), x4] h = .nx [some a, some (.int k), some (.int (b : Nat)), some (.tup (all.map pD)), x4'] h)
  | [], pre, x4, _ => .inr ⟨rfl, x4, by rw [List.length_nil, List.range'_zero, List.map_nil, loop_nil chk_none]⟩
  | q :: ps, pre, x4, ha => by
    have ih := lp_inner h a k b all ps (pre ++ [q]) (some (.int (pre.length : Nat))) (by rw [ha, List.append_assoc]; rfl)
    have el : (pre ++ [q]).length = pre.length + 1 := by simp
    rw [el] at ih
    rw [List.length_cons, List.range'_succ, List.map_cons, loop_cons chk_none (s1 := [some a, some (.int k), some (.int (b : Nat)), some (.tup (all.map pD)), some (.int (pre.length : Nat))]) (h1 := h) rfl]
    have ei : dIx (.tup (all.map pD)) (.int (pre.length : Nat)) h = .ok (pD q) h := ix_tup (k := pre.length) (by rw [ha]; simp)
    cases q with
    | free =>
      have eb : bodyK [some a, some (.int k), some (.int (b : Nat)), some (.tup (all.map pD)), some (.int (pre.length : Nat))] h = .nx [some a, some (.int k), some (.int (b : Nat)), some (.tup (all.map pD)), some (.int (pre.length : Nat))] h := by
        simp only [bodyK, x_if, x_bin, x_var, List.getElem?_cons_zero, List.getElem?_cons_succ, ofO_some, RD.bind_ok, ei, pD, q_si, tst_ok, Bool.false_eq_true, if_false, x_next]
      rw [eb, lp_nx]
      exact ih
    | old =>
      have eb : bodyK [some a, some (.int k), some (.int (b : Nat)), some (.tup (all.map pD)), some (.int (pre.length : Nat))] h = .nx [some a, some (.int k), some (.int (b : Nat)), some (.tup (all.map pD)), some (.int (pre.length : Nat))] h := by
        simp only [bodyK, x_if, x_bin, x_var, List.getElem?_cons_zero, List.getElem?_cons_succ, ofO_some, RD.bind_ok, ei, pD, q_si, tst_ok, Bool.false_eq_true, if_false, x_next]
      rw [eb, lp_nx]
      exact ih
    | key j =>
      by_cases hj : j = k
      · have eb : bodyK [some a, some (.int k), some (.int (b : Nat)), some (.tup (all.map pD)), some (.int (pre.length : Nat))] h = .rt (plD (some (b, pre.length))) h := by
          simp only [bodyK, x_if, x_bin, x_var, List.getElem?_cons_zero, List.getElem?_cons_succ, ofO_some, RD.bind_ok, ei, pD, q_int, hj, decide_true, tst_ok, if_true, x_ret, x_tup, evR_cons, evR_nil, RD.st_ok, plD]
        refine .inl ⟨(b, pre.length), ?_, by rw [eb, lp_rt]⟩
        show plF ((j, b, pre.length) :: plP b (pre.length + 1) ps) k = _
        rw [plF_cons, if_pos hj]
      · have eb : bodyK [some a, some (.int k), some (.int (b : Nat)), some (.tup (all.map pD)), some (.int (pre.length : Nat))] h = .nx [some a, some (.int k), some (.int (b : Nat)), some (.tup (all.map pD)), some (.int (pre.length : Nat))] h := by
          simp only [bodyK, x_if, x_bin, x_var, List.getElem?_cons_zero, List.getElem?_cons_succ, ofO_some, RD.bind_ok, ei, pD, q_int, hj, decide_false, tst_ok, Bool.false_eq_true, if_false, x_next]
        rw [eb, lp_nx]
        have e : plF (plP b pre.length (.key j :: ps)) k = plF (plP b (pre.length + 1) ps) k := by
          show plF ((j, b, pre.length) :: plP b (pre.length + 1) ps) k = _
          rw [plF_cons, if_neg hj]
        rw [e]
        exact ih
abbrev bodyB : FS := (gSeq (gSet 3 (eBin dIx (eBin dIx (eBin dIx (eVar 0) (eC (.int 1))) (eVar 2)) (eC (.int 1)))) (gFor (fiRg [(eArgs bLen [(eVar 3)])]) (tName 4) bodyK))
theorem bodyB_eval {a bs q ps : D} {k i : Int} {x3 x4 : Option D} {h : Hm} (j1 : dIx a (.int 1) h = .ok bs h) (j2 : dIx bs (.int i) h = .ok q h) (j3 : dIx q (.int 1) h = .ok ps h) :
    bodyB [some a, some (.int k), some (.int i), x3, x4] h = gFor (fiRg [(eArgs bLen [(eVar 3)])]) (tName 4) bodyK [some a, some (.int k), some (.int i), some ps, x4] h := by
  simp only [bodyB, x_seq, x_set, x_bin, x_var, x_c, List.getElem?_cons_zero, List.getElem?_cons_succ, ofO_some, RD.bind_ok, j1, j2, j3, RD.st_ok, List.set_cons_succ, List.set_cons_zero, seq_nx]
theorem len3_eval {a c : D} {k n : Int} {ds : List D} {x4 : Option D} {h : Hm} (hn : bLen [.tup ds] h = .ok (.int n) h) : (eArgs bLen [(eVar 3)]) [some a, some (.int k), some c, some (.tup ds), x4] h = .ok (.int n) h := by
  simp only [x_args, evR_cons, evR_nil, x_var, List.getElem?_cons_zero, List.getElem?_cons_succ, ofO_some, RD.bind_ok, hn]
theorem lp_outer (S : Sd) (h : Hm) (k : Int) (h6 : ∀ b ∈ S.blocks, b.2.length ≤ 6) : ∀ (bs pre : List (Lf × List Pg)) (x2 x3 x4 : Option D), S.blocks = pre ++ bs →
    (∃ bp, plF (plB pre.length bs) k = some bp ∧ loopG none (tName 2) bodyB ((List.range' pre.length bs.length).map fun i => D.int (i : Nat)) [some S.enc, some (.int k), x2, x3, x4] h = .rt (plD (some bp)) h) ∨
    (plF (plB pre.length bs) k = none ∧ ∃ x2' x3' x4', loopG none (tName 2) bodyB ((List.range' pre.length bs.length).map fun i => D.int (i : Nat)) [some S.enc, some (.int k), x2, x3, x4] h = .nx [some S.enc, some (.int k), x2', x3', x4'] h)
  | [], pre, x2, x3, x4, _ => .inr ⟨rfl, x2, x3, x4, by rw [List.length_nil, List.range'_zero, List.map_nil, loop_nil chk_none]⟩
  | q :: bs, pre, x2, x3, x4, ha => by
    have hq : q ∈ S.blocks := by rw [ha]; simp
    have el : (pre ++ [q]).length = pre.length + 1 := by simp
    rw [List.length_cons, List.range'_succ, List.map_cons, loop_cons chk_none (s1 := [some S.enc, some (.int k), some (.int (pre.length : Nat)), x3, x4]) (h1 := h) rfl]
    have j1 : dIx S.enc (.int 1) h = .ok (.tup (S.blocks.map bD)) h := ix_tup (k := 1) rfl
    have j2 : dIx (.tup (S.blocks.map bD)) (.int (pre.length : Nat)) h = .ok (bD q) h := ix_tup (k := pre.length) (by rw [ha]; simp)
    have j3 : dIx (bD q) (.int 1) h = .ok (.tup (q.2.map pD)) h := ix_tup (k := 1) rfl
    have ef : fiRg [(eArgs bLen [(eVar 3)])] [some S.enc, some (.int k), some (.int (pre.length : Nat)), some (.tup (q.2.map pD)), x4] h = .ok ((List.range (q.2.length : Int).toNat).map fun i => .int (i : Nat)) none h :=
      fi_rg (len3_eval (by rw [o_len_t, List.length_map])) (Int.natCast_nonneg _) (by have := h6 q hq; omega)
    have eb : bodyB [some S.enc, some (.int k), some (.int (pre.length : Nat)), x3, x4] h = loopG none (tName 4) bodyK ((List.range' 0 q.2.length).map fun i => D.int (i : Nat)) [some S.enc, some (.int k), some (.int (pre.length : Nat)), some (.tup (q.2.map pD)), x4] h := by
      rw [bodyB_eval j1 j2 j3, for_ok ef, Int.toNat_natCast, List.range_eq_range']
    rcases lp_inner h S.enc k pre.length q.2 q.2 [] x4 rfl with ⟨bp, e1, e2⟩ | ⟨e1, x4', e2⟩
    · refine .inl ⟨bp, ?_, ?_⟩
      · rw [plB, plF_app]
        rw [List.length_nil] at e1
        rw [e1]
      · rw [List.length_nil] at e2
        rw [eb, e2, lp_rt]
    · have ih := lp_outer S h k h6 bs (pre ++ [q]) (some (.int (pre.length : Nat))) (some (.tup (q.2.map pD))) x4' (by rw [ha, List.append_assoc]; rfl)
      rw [el] at ih
      rw [List.length_nil] at e1 e2
      rw [eb, e2, lp_nx, plB, plF_app, e1]
      exact ih
theorem x_place {S : Sd} {pages : Nat} (o : SdOk S pages) (k : Int) (h : Hm) : m__law_place [S.enc, .int k] h = .ok (plD (plF (plB 0 S.blocks) k)) h := by
  have j1 : dIx S.enc (.int 1) h = .ok (.tup (S.blocks.map bD)) h := ix_tup (k := 1) rfl
  have ef : fiRg [(eArgs bLen [(eBin dIx (eVar 0) (eC (.int 1)))])] [some S.enc, some (.int k), none, none, none] h = .ok ((List.range (S.blocks.length : Int).toNat).map fun i => .int (i : Nat)) none h :=
    fi_rg (by simp only [x_args, evR_cons, evR_nil, x_bin, x_var, x_c, List.getElem?_cons_zero, ofO_some, RD.bind_ok, j1, o_len_t, List.length_map]) (by omega) (by have := o.b2; omega)
  simp only [m__law_place, x_run, g__law_place]
  simp only [List.map_cons, List.map_nil, List.length_cons, List.length_nil, Nat.zero_add, Nat.reduceAdd, Nat.reduceSub, List.reduceReplicate, List.cons_append, List.nil_append, x_seq]
  rw [for_ok ef, Int.toNat_natCast, List.range_eq_range']
  rcases lp_outer S h k (fun b hb => by rw [(o.bk b hb).2.1]; exact o.p2) S.blocks [] none none none rfl with ⟨bp, e1, e2⟩ | ⟨e1, x2', x3', x4', e2⟩
  · rw [List.length_nil] at e1 e2
    rw [e1]
    exact congrArg (fun r => (RT.seq r _).out) e2
  · rw [List.length_nil] at e1 e2
    rw [e1]
    exact congrArg (fun r => (RT.seq r _).out) e2
end Sh.k07
/-! from Q03r -/
set_option linter.all false
set_option maxRecDepth 100000
namespace Sh.k07
open PySem L2 PyProof.Rows Sh
def oddL (n : Nat) : List D := [.non, .bl true, .bl false, .int (-1), .int 9, .int 10000000000000000000000000, .str "", .str "0", .str "free", .tup [], .tup [.int 0], .ref n, .ref (n + 1), .tup [.str "write", .int 0], .str "ever", .int 100]
theorem odd_list (d : Int) (h : Hm) : (eLst [(eC .non), (eC (.bl true)), (eC (.bl false)), (eNeg (eC (.int 1))), (eC (.int 9)), (eBin dPow (eC (.int 10)) (eC (.int 25))), (eC (.str "")), (eC (.str "0")), (eC (.str "free")), (eTup []), (eTup [(eC (.int 0))]), (eLst []), (eLst [(eC (.int 0))]), (eTup [(eC (.str "write")), (eC (.int 0))]), (eC (.str "ever")), (eC (.int 100))]) [some (.int d), none] h =
    .ok (.ref (h.length + 2)) (h ++ [.lst [], .lst [.int 0], .lst (oddL h.length)]) := by
  have e1 : (h ++ [O.lst []]).length = h.length + 1 := by simp
  have e2 : (h ++ [O.lst []] ++ [O.lst [D.int 0]]).length = h.length + 2 := by simp
  simp only [x_lst, evR_cons, evR_nil, x_c, RD.bind_ok, x_neg, x_bin, o_pow25, x_tup, e1, e2]
  rw [List.append_assoc, List.append_assoc]
  rfl
end Sh.k07
/-! from Q03s -/
set_option linter.all false
set_option maxRecDepth 100000
namespace Sh.k07
open PySem L2 PyProof.Rows Sh
theorem pure_pages (n : Nat) : ∀ ps : List Pg, pureL n (ps.map pD) = true
  | [] => by simp [pureL]
  | p :: ps => by
    rw [List.map_cons, pureL, pure_pages n ps, Bool.and_true]
    cases p <;> cases n <;> rfl
theorem pure_lD (n : Nat) (l : Lf) : pureD n (lD l) = true := by cases l <;> cases n <;> rfl
theorem pure_dD (n : Nat) (d : Option Int) : pureD n (dueD d) = true := by cases d <;> cases n <;> rfl
theorem pure_int (n : Nat) (i : Int) : pureD n (.int i) = true := by cases n <;> rfl
theorem pure_str (n : Nat) (i : Str) : pureD n (.str i) = true := by cases n <;> rfl
theorem pure_plD (n : Nat) (o : Option (Nat × Nat)) : pureD (n + 1) (plD o) = true := by
  cases o with
  | none => rfl
  | some x => simp [plD, pureD, pureL, pure_int]
theorem pure_bD (n : Nat) (b : Lf × List Pg) (h6 : b.2.length ≤ 6) : pureD (n + 2) (bD b) = true := by
  have : b.2.length < 1000000 := by omega
  simp [bD, pureD, pureL, pure_lD, pure_pages, this]
theorem pure_blocks (n : Nat) : ∀ bs : List (Lf × List Pg), (∀ b ∈ bs, b.2.length ≤ 6) → pureL (n + 2) (bs.map bD) = true
  | [], _ => by simp [pureL]
  | b :: bs, h => by
    rw [List.map_cons, pureL, pure_bD n b (h b (List.mem_cons_self ..)), pure_blocks n bs fun c hc => h c (List.mem_cons_of_mem _ hc)]
    rfl
theorem pure_enc {S : Sd} {pages : Nat} (o : SdOk S pages) (n : Nat) : pureD (n + 4) S.enc = true := by
  have h6 : ∀ b ∈ S.blocks, b.2.length ≤ 6 := fun b hb => by rw [(o.bk b hb).2.1]; exact o.p2
  have hl : S.blocks.length < 1000000 := by have := o.b2; omega
  have e : pureD (n + 3) (.tup (S.blocks.map bD)) = true := by simp [pureD, pure_blocks n S.blocks h6, hl]
  have : pureD (n + 4) S.enc = (pureL (n + 3) [.int S.keys, .tup (S.blocks.map bD), .int S.fails, .int S.cuts, dueD S.due] && decide (5 < 1000000)) := rfl
  rw [this]
  simp [pureL, pure_int, e, pure_dD]
section
variable {S : Sd} {pages : Nat} {h : Hm} {p : Nat}
theorem x_put (k : Int) (h : Hm) : m__law_put [S.enc, .int k] h = .ok (Sd.enc { S with due := some k }) h := by
  have j0 : dIx S.enc (.int 0) h = .ok (.int S.keys) h := ix_tup (k := 0) rfl
  have j1 : dIx S.enc (.int 1) h = .ok (.tup (S.blocks.map bD)) h := ix_tup (k := 1) rfl
  have j2 : dIx S.enc (.int 2) h = .ok (.int S.fails) h := ix_tup (k := 2) rfl
  have j3 : dIx S.enc (.int 3) h = .ok (.int S.cuts) h := ix_tup (k := 3) rfl
  simp only [m__law_put, x_run, g__law_put, List.map_cons, List.map_nil, List.length_cons, List.length_nil, Nat.zero_add, Nat.reduceAdd, Nat.reduceSub, List.replicate_zero, List.append_nil, x_ret, x_tup, evR_cons, evR_nil, x_bin, x_var, x_c, List.getElem?_cons_zero, List.getElem?_cons_succ, ofO_some, RD.bind_ok, j0, j1, j2, j3, RD.st_ok, out_rt]
  rfl
theorem st_rt_out {X : RD} {s : DS} {k : FS} : ((X.st s fun d h1 => RT.rt d h1).seq k).out = (X.st s fun d h1 => RT.rt d h1).out := by cases X <;> rfl
end
end Sh.k07
/-! from Q03t -/
set_option linter.all false
set_option maxRecDepth 100000
namespace Sh.k07
open PySem L2 PyProof.Rows Sh
section
variable {S : Sd} {pages : Nat} {h : Hm} {p : Nat}
end
end Sh.k07

set_option linter.all false
set_option maxRecDepth 100000
namespace Sh.k07
open PySem L2 PyProof.Rows Sh
def rm (b : Lf × List Pg) : Bool := b.2.any isFree
theorem free_in (ps : List Pg) (h : Hm) : dIn (.str "free") (.tup (ps.map pD)) h = .ok (.bl (ps.any isFree)) h := by
  have hf : flatD (.str "free") = true ∧ (ps.map pD).all flatD = true := ⟨rfl, pD_flat ps⟩
  have e : inB h (.str "free") (.tup (ps.map pD)) = some (ps.any isFree) := by
    simp only [inB]
    rw [if_pos hf, List.any_map]
    congr 2
    funext p
    exact eqF_free p
  simp only [dIn, e]
theorem x_hasroom (b : Lf × List Pg) (h : Hm) : m_has_room [bD b] h = .ok (.bl (rm b)) h := by
  have j : dIx (bD b) (.int 1) h = .ok (.tup (b.2.map pD)) h := ix_tup (k := 1) rfl
  simp only [m_has_room, x_run, g_has_room, List.map_cons, List.map_nil, List.length_cons, List.length_nil, Nat.zero_add, Nat.reduceAdd, Nat.reduceSub, List.replicate_zero, List.append_nil, x_ret, x_bin, x_c, x_var, List.getElem?_cons_zero, ofO_some, RD.bind_ok, j, free_in, RD.st_ok, out_rt]
  rfl
def noKey : Pg → Bool
  | .key _ => false
  | _ => true
def er (b : Lf × List Pg) : Bool := (match b.1 with
  | .bad => false
  | .num n => !decide (n = 0)
  | .ever => true) && (b.2.any fun p => !isFree p) && b.2.all noKey
theorem held_ok (b : Lf × List Pg) (h : Hm) (hl : b.2.length < 1000) : ∃ t2, m_held [bD b] h = .ok (.ref h.length) (h ++ .lst (((b.2.map pD).filter fun x => match x with | .int _ => true | _ => false).map id) :: t2) := by
  have j : ∀ h : Hm, dIx (bD b) (.int 1) h = .ok (.tup (b.2.map pD)) h := fun h => ix_tup (k := 1) rfl
  obtain ⟨t2, r⟩ := elc_ok (fi := fiSeq (eBin dIx (eVar 0) (eC (.int 1)))) (gt := tName 1) (ft := eNot (eIsi "str" (eVar 1))) (fe := eVar 1) (own := [1]) (s := [some (bD b), none]) (h := h) (ck := none) (xs := b.2.map pD) (val := id) (tt := fun x => match x with | .int _ => true | _ => false)
    (fi_tup (by simp only [x_bin, x_var, x_c, List.getElem?_cons_zero, ofO_some, RD.bind_ok, j])) (fun _ => rfl) (fun x hx u => by
      obtain ⟨p, hp, rfl⟩ := List.mem_map.mp hx
      refine ⟨[some (bD b), some (pD p)], [], rfl, ?_, fun _ => by rw [List.append_nil]; rfl⟩
      cases p <;> simp [pD, kit_table]) (by simp; omega)
  refine ⟨t2, ?_⟩
  have e : m_held [bD b] h = ((gRet (eLc (fiSeq (eBin dIx (eVar 0) (eC (.int 1)))) (tName 1) (eNot (eIsi "str" (eVar 1))) (eVar 1) [1])) [some (bD b), none] h).out := by
    rw [m_held, x_run]
    rfl
  rw [e, x_ret, r]
  rfl
theorem held_tru (ps : List Pg) : (((ps.map pD).filter fun x => match x with | .int _ => true | _ => false).map id).isEmpty = ps.all noKey := by
  induction ps with
  | nil => rfl
  | cons p ps ih =>
    rw [List.map_cons, List.all_cons]
    cases p with
    | free => exact ih
    | old => exact ih
    | key k => rfl
theorem cnt_all (ps : List Pg) : (ps.countP isFree = ps.length) ↔ (ps.any fun p => !isFree p) = false := by
  rw [List.countP_eq_length]
  simp
def lfc (l : Lf) (v : Bool) : Bool := match l with
  | .bad => true
  | .num n => decide (n = 0) || v
  | .ever => v
theorem cond_ok (l : Lf) {s : DS} {h : Hm} {g : FE} {v : Bool} (hs : s[1]? = some (some (lD l))) (cq : g s h = .ok (.bl v) h) : (eOr (eBin dIs (eVar 1) (eC .non)) (eOr (eBin dEq (eVar 1) (eC (.int 0))) g)) s h = .ok (.bl (lfc l v)) h := by
  simp only [x_or, x_bin, x_var, x_c, hs, ofO_some, RD.bind_ok, o_is_n, tb_ok]
  cases l with
  | bad => simp [lD, lfc]
  | ever => simp [lD, lfc, cq]
  | num n =>
    by_cases hn : n = 0 <;> simp [lD, lfc, cq, hn]
theorem x_canerase (b : Lf × List Pg) (h6 : b.2.length ≤ 6) (h : Hm) : ∃ t, m_can_be_erased [bD b] h = .ok (.bl (er b)) (h ++ t) := by
  obtain ⟨l, ps⟩ := b
  dsimp only at h6
  obtain ⟨t2, r⟩ := held_ok (l, ps) h (by show ps.length < 1000; omega)
  dsimp only at r
  have hT := held_tru ps
  generalize (((ps.map pD).filter fun x => match x with | .int _ => true | _ => false).map id) = ks at r hT
  have asg : gAsg (eVar 0) (tTup [tName 1, tName 2]) [some (bD (l, ps)), none, none] h = .nx [some (bD (l, ps)), some (lD l), some (.tup (ps.map pD))] h := rfl
  have tm : eTm tCount (eVar 2) [eC (.str "free")] [some (bD (l, ps)), some (lD l), some (.tup (ps.map pD))] h = .ok (.int (ps.countP isFree : Nat)) h := by
    have : flatD (.str "free") = true ∧ (ps.map pD).all flatD = true := ⟨rfl, pD_flat ps⟩
    have e : tCount (ps.map pD) [.str "free"] h = .ok (.int (ps.countP isFree : Nat)) h := by
      simp only [tCount]
      rw [if_pos this, count_free]
    rw [← e]
    rfl
  have ln : (eArgs bLen [(eVar 2)]) [some (bD (l, ps)), some (lD l), some (.tup (ps.map pD))] h = .ok (.int ps.length) h := by
    simp only [x_args, evR_cons, evR_nil, x_var, List.getElem?_cons_zero, List.getElem?_cons_succ, ofO_some, RD.bind_ok, o_len_t, List.length_map]
  have cq : (eBin dEq (eTm tCount (eVar 2) [(eC (.str "free"))]) (eArgs bLen [(eVar 2)])) [some (bD (l, ps)), some (lD l), some (.tup (ps.map pD))] h = .ok (.bl (!(ps.any fun p => !isFree p))) h := by
    rw [x_bin, tm, RD.bind_ok, ln, RD.bind_ok, q_int]
    congr 2
    have := cnt_all ps
    cases q : (ps.any fun p => !isFree p) with
    | false => simp [this.mpr q]
    | true =>
      have hn : ¬ ps.countP isFree = ps.length := fun z => by rw [this.mp z] at q; cases q
      simp
      omega
  have tr : truB (h ++ .lst ks :: t2) (.ref h.length) = some (!(ps.all noKey)) := by
    have e : (h ++ O.lst ks :: t2)[h.length]? = some (.lst ks) := by simp
    simp only [truB, e, hT]
  have fin : (gRet (eNot (eTru (eArgs m_held [(eVar 0)])))) [some (bD (l, ps)), some (lD l), some (.tup (ps.map pD))] h = .rt (.bl (ps.all noKey)) (h ++ .lst ks :: t2) := by
    have e1 : (eTru (eArgs m_held [(eVar 0)])) [some (bD (l, ps)), some (lD l), some (.tup (ps.map pD))] h = .ok (.bl (!(ps.all noKey))) (h ++ .lst ks :: t2) := by
      simp only [eTru, x_args, evR_cons, evR_nil, x_var, List.getElem?_cons_zero, ofO_some, RD.bind_ok, r, tr]
    rw [x_ret, x_not, e1, tb_ok, Bool.not_not, RD.st_ok]
  have cond : ∃ c : Bool, (eOr (eBin dIs (eVar 1) (eC .non)) (eOr (eBin dEq (eVar 1) (eC (.int 0))) (eBin dEq (eTm tCount (eVar 2) [(eC (.str "free"))]) (eArgs bLen [(eVar 2)])))) [some (bD (l, ps)), some (lD l), some (.tup (ps.map pD))] h = .ok (.bl c) h ∧ er (l, ps) = (!c && ps.all noKey) := by
    refine ⟨lfc l (!(ps.any fun p => !isFree p)), cond_ok l rfl cq, ?_⟩
    cases l <;> simp [er, lfc]
  obtain ⟨c, ec, eer⟩ := cond
  have run : m_can_be_erased [bD (l, ps)] h = ((if c = true then RT.rt (.bl false) h else .rt (.bl (ps.all noKey)) (h ++ .lst ks :: t2))).out := by
    rw [m_can_be_erased, x_run]
    show ((gSeq _ _) [some (bD (l, ps)), none, none] h).out = _
    rw [x_seq, asg, seq_nx, x_seq, x_if, ec, tst_ok]
    cases c with
    | true => rfl
    | false => rw [if_neg Bool.false_ne_true, if_neg Bool.false_ne_true, x_next, seq_nx, fin]
  cases c with
  | true => exact ⟨[], by rw [run, eer]; simp⟩
  | false => exact ⟨.lst ks :: t2, by rw [run, eer]; simp⟩
end Sh.k07

set_option linter.all false
set_option maxRecDepth 100000
namespace Sh.k07
open PySem L2 PyProof.Rows Sh
def pP : Pg → PyData
  | .free => .str "free" | .old => .str "old" | .key k => .int k
theorem mapO_pages (n : Nat) (h : Hm) : ∀ ps : List Pg, mapO (toPy n h) (ps.map pD) = some (ps.map pP)
  | [] => rfl
  | p :: ps => by
    have e : toPy n h (pD p) = some (pP p) := by cases p <;> cases n <;> rfl
    simp only [List.map_cons, mapO, e, mapO_pages n h ps]
theorem toPy_pages {n : Nat} {h : Hm} {ps : List Pg} (e : h[n]? = some (.lst (ps.map pD))) : toPy 20 h (.ref n) = some (.list (ps.map pP)) := by
  show (match h[n]? with
    | some (.lst ds) => (mapO (toPy 19 h) ds).map PyData.list
    | some (.scr ds) => (mapO (toPy 19 h) ds).map PyData.list
    | _ => none) = _
  rw [e]
  dsimp only
  rw [mapO_pages]
  rfl
theorem lay_pages : ∀ ps : List Pg, PyData.canLayAll0 (ps.map pP) = true
  | [] => rfl
  | p :: ps => by
    rw [List.map_cons, PyData.canLayAll0, lay_pages ps, Bool.and_true]
    cases p with
    | free => decide +kernel
    | old => decide +kernel
    | key k => rfl
theorem dep_pages : ∀ ps : List Pg, PyData.depthAll (ps.map pP) = 0
  | [] => rfl
  | p :: ps => by
    rw [List.map_cons, PyData.depthAll, dep_pages ps]
    cases p <;> rfl
theorem shaped_pages (ps : List Pg) : SeqAt.shaped (.list (ps.map pP)) = true := by
  have e1 : PyData.canLay0 (.list (ps.map pP)) = true := lay_pages ps
  have e2 : PyData.depth (.list (ps.map pP)) = 1 := by
    show PyData.depthAll (ps.map pP) + 1 = 1
    rw [dep_pages]
  simp only [SeqAt.shaped, e1, e2]
  decide
theorem eqv_old : ∀ ps : List Pg, (∀ p ∈ ps, p ≠ .free) → PyData.eqvAll (ps.map pP) ((List.replicate ps.length Pg.old).map pP) = ps.all noKey
  | [], _ => rfl
  | p :: ps, h => by
    rw [List.length_cons, List.replicate_succ, List.map_cons, List.map_cons, PyData.eqvAll, eqv_old ps fun q hq => h q (List.mem_cons_of_mem _ hq), List.all_cons]
    congr 1
    cases p with
    | free => exact absurd rfl (h .free (List.mem_cons_self ..))
    | old => decide +kernel
    | key k => rfl
theorem eq_old {a b : Nat} {h : Hm} {ps : List Pg} (ea : h[a]? = some (.lst (ps.map pD))) (eb : h[b]? = some (.lst (List.replicate ps.length (.str "old")))) (hf : ∀ p ∈ ps, p ≠ .free) : dEq (.ref a) (.ref b) h = .ok (.bl (ps.all noKey)) h := by
  have eb' : h[b]? = some (.lst ((List.replicate ps.length Pg.old).map pD)) := by rw [eb, List.map_replicate]; rfl
  have e : eqB h (.ref a) (.ref b) = some (ps.all noKey) := by
    have h1 := toPy_pages ea
    have h2 := toPy_pages eb'
    have h3 : SeqAt.shaped (.list (ps.map pP)) = true ∧ SeqAt.shaped (.list ((List.replicate ps.length Pg.old).map pP)) = true := ⟨shaped_pages _, shaped_pages _⟩
    unfold eqB
    simp only [eqSc, h1, h2]
    rw [if_pos h3]
    show some (PyData.eqvAll _ _) = _
    rw [eqv_old ps hf]
  simp only [dEq, e]
end Sh.k07
namespace Sh.k07
open PySem L2 PyProof.Rows Sh
def usedP (ps : List Pg) : List Pg := ps.filter fun p => !isFree p
theorem used_ok (a l : D) (ps : List Pg) (h : Hm) (hl : ps.length < 1000) : ∃ t2, eLc (fiSeq (eVar 2)) (tName 4) (eBin dNe (eVar 4) (eC (.str "free"))) (eVar 4) [4] [some a, some l, some (.tup (ps.map pD)), none, none] h = .ok (.ref h.length) (h ++ .lst ((usedP ps).map pD) :: t2) := by
  obtain ⟨t2, r⟩ := elc_ok (fi := fiSeq (eVar 2)) (gt := tName 4) (ft := eBin dNe (eVar 4) (eC (.str "free"))) (fe := eVar 4) (own := [4]) (s := [some a, some l, some (.tup (ps.map pD)), none, none]) (h := h) (ck := none) (xs := ps.map pD) (val := id) (tt := fun x => !eqF x (.str "free"))
    (fi_tup rfl) (fun _ => rfl) (fun x hx u => by
      obtain ⟨p, hp, rfl⟩ := List.mem_map.mp hx
      refine ⟨[some a, some l, some (.tup (ps.map pD)), none, some (pD p)], [], rfl, ?_, fun _ => by rw [List.append_nil]; rfl⟩
      rw [eqF_free]
      cases p with
      | free => simp [pD, isFree]
      | old =>
        have : decide (Str.ofString "old" = Str.ofString "free") = false := by decide
        simp [pD, isFree]
        decide
      | key k => simp [pD, isFree]) (by simp; omega)
  refine ⟨t2, ?_⟩
  rw [r, List.map_id, List.filter_map]
  congr 5
  unfold usedP
  congr 1
  funext p
  simp only [Function.comp_apply, eqF_free]
theorem used_len (ps : List Pg) : decide (0 < (usedP ps).length) = ps.any fun p => !isFree p := by
  cases q : ps.any fun p => !isFree p with
  | true =>
    obtain ⟨p, hp, e⟩ := List.any_eq_true.mp q
    have : p ∈ usedP ps := List.mem_filter.mpr ⟨hp, e⟩
    exact decide_eq_true (List.length_pos_of_mem this)
  | false =>
    have : usedP ps = [] := by
      rw [usedP, List.filter_eq_nil_iff]
      intro p hp z
      have := (List.any_eq_false.mp q) p hp
      exact this z
    rw [this]
    rfl
theorem used_all : ∀ ps : List Pg, (usedP ps).all noKey = ps.all noKey
  | [] => rfl
  | p :: ps => by
    have ih := used_all ps
    cases p with
    | free => simpa [usedP, isFree, noKey] using ih
    | old => simpa [usedP, isFree, noKey] using ih
    | key k => simp [usedP, isFree, noKey]
theorem cond2_ok (l : Lf) {s : DS} {h : Hm} (hs : s[1]? = some (some (lD l))) : (eOr (eBin dIs (eVar 1) (eC .non)) (eBin dEq (eVar 1) (eC (.int 0)))) s h = .ok (.bl (lfc l false)) h := by
  simp only [x_or, x_bin, x_var, x_c, hs, ofO_some, RD.bind_ok, o_is_n, tb_ok]
  cases l with
  | bad => simp [lD, lfc]
  | ever => simp [lD, lfc]
  | num n => by_cases hn : n = 0 <;> simp [lD, lfc, hn]
theorem x_lawerase (b : Lf × List Pg) (h6 : b.2.length ≤ 6) (h : Hm) : ∃ t, m__law_erasable [bD b] h = .ok (.bl (er b)) (h ++ t) := by
  obtain ⟨l, ps⟩ := b
  dsimp only at h6
  obtain ⟨t2, r⟩ := used_ok (bD (l, ps)) (lD l) ps h (by omega)
  obtain ⟨h1, eh1⟩ : ∃ h1 : Hm, h1 = h ++ .lst ((usedP ps).map pD) :: t2 := ⟨_, rfl⟩
  rw [← eh1] at r
  have g1 : h1[h.length]? = some (.lst ((usedP ps).map pD)) := by rw [eh1]; simp
  have ul : (usedP ps).length ≤ 6 := Nat.le_trans (List.length_filter_le ..) h6
  have asg : gAsg (eVar 0) (tTup [tName 1, tName 2]) [some (bD (l, ps)), none, none, none, none] h = .nx [some (bD (l, ps)), some (lD l), some (.tup (ps.map pD)), none, none] h := rfl
  have st : (gSet 3 (eLc (fiSeq (eVar 2)) (tName 4) (eBin dNe (eVar 4) (eC (.str "free"))) (eVar 4) [4])) [some (bD (l, ps)), some (lD l), some (.tup (ps.map pD)), none, none] h = .nx [some (bD (l, ps)), some (lD l), some (.tup (ps.map pD)), some (.ref h.length), none] h1 := by
    rw [x_set, r]
    rfl
  have ln : bLen [.ref h.length] h1 = .ok (.int (usedP ps).length) h1 := by rw [len_ref g1, List.length_map]
  -- ['old'] * len(used)
  let h2 : Hm := h1 ++ [.lst [.str "old"]] ++ [.lst (List.replicate (usedP ps).length (.str "old"))]
  have ml : (eBin dMul (eLst [(eC (.str "old"))]) (eArgs bLen [(eVar 3)])) [some (bD (l, ps)), some (lD l), some (.tup (ps.map pD)), some (.ref h.length), none] h1 = .ok (.ref (h1.length + 1)) h2 := by
    have g1' : (h1 ++ [O.lst [.str "old"]])[h.length]? = some (.lst ((usedP ps).map pD)) := by rw [get_old (lt_of_get g1)]; exact g1
    have gl : (h1 ++ [O.lst [D.str "old"]])[h1.length]? = some (.lst [.str "old"]) := get_last
    rw [x_bin, x_lst, evR_cons, x_c, RD.bind_ok, evR_nil, RD.bind_ok, x_args, evR_cons, x_var]
    show RD.bind (RD.bind (.ok (.ref h.length) _) _) _ = _
    rw [RD.bind_ok, evR_nil, len_ref g1', RD.bind_ok, List.length_map, mulL gl (Int.natCast_nonneg _) (by omega) (by simp), flat_rep, Int.toNat_natCast]
    simp [h2]
  have gU : h2[h.length]? = some (.lst ((usedP ps).map pD)) := by
    show (h1 ++ [O.lst [.str "old"]] ++ [_])[h.length]? = _
    have := lt_of_get g1
    rw [get_old (by simp; omega), get_old this]
    exact g1
  have gO : h2[h1.length + 1]? = some (.lst (List.replicate (usedP ps).length (.str "old"))) := by simp [h2]
  have eq := eq_old gU gO (fun p hp z => by
    have := (List.mem_filter.mp hp).2
    rw [z] at this
    cases this)
  have rt : (gRet (eAnd (eBin (dCmp fun i j => decide (j < i)) (eArgs bLen [(eVar 3)]) (eC (.int 0))) (eBin dEq (eVar 3) (eBin dMul (eLst [(eC (.str "old"))]) (eArgs bLen [(eVar 3)]))))) [some (bD (l, ps)), some (lD l), some (.tup (ps.map pD)), some (.ref h.length), none] h1 =
      if 0 < (usedP ps).length then .rt (.bl ((usedP ps).all noKey)) h2 else .rt (.bl false) h1 := by
    have e1 : (eBin (dCmp fun i j => decide (j < i)) (eArgs bLen [(eVar 3)]) (eC (.int 0))) [some (bD (l, ps)), some (lD l), some (.tup (ps.map pD)), some (.ref h.length), none] h1 = .ok (.bl (decide ((0 : Int) < (usedP ps).length))) h1 := by
      rw [x_bin, x_args, evR_cons, x_var]
      show RD.bind (RD.bind (.ok (.ref h.length) _) _) _ = _
      rw [RD.bind_ok, evR_nil, ln, RD.bind_ok, x_c, RD.bind_ok, o_cmp]
    have e2 : (eBin dEq (eVar 3) (eBin dMul (eLst [(eC (.str "old"))]) (eArgs bLen [(eVar 3)]))) [some (bD (l, ps)), some (lD l), some (.tup (ps.map pD)), some (.ref h.length), none] h1 = .ok (.bl ((usedP ps).all noKey)) h2 := by
      rw [x_bin, x_var]
      show RD.bind (.ok (.ref h.length) h1) _ = _
      rw [RD.bind_ok, ml, RD.bind_ok, eq]
    rw [x_ret, x_and, e1, tb_ok]
    by_cases hp : 0 < (usedP ps).length
    · have hp' : (0 : Int) < (usedP ps).length := by omega
      rw [if_pos hp, if_pos (decide_eq_true hp'), e2]
      rfl
    · have hp' : ¬ (0 : Int) < (usedP ps).length := by omega
      rw [if_neg hp, if_neg (by rw [decide_eq_false hp']; exact Bool.false_ne_true)]
      rfl
  have run : m__law_erasable [bD (l, ps)] h = (if lfc l false = true then RT.rt (.bl false) h else if 0 < (usedP ps).length then .rt (.bl ((usedP ps).all noKey)) h2 else .rt (.bl false) h1).out := by
    rw [m__law_erasable, x_run]
    show ((gSeq _ _) [some (bD (l, ps)), none, none, none, none] h).out = _
    rw [x_seq, asg, seq_nx, x_seq, x_if, cond2_ok l rfl, tst_ok]
    by_cases hc : lfc l false = true
    · rw [if_pos hc, if_pos hc]
      rfl
    · rw [if_neg hc, if_neg hc, x_next, seq_nx, x_seq, st, seq_nx, rt]
  have ee : er (l, ps) = (!lfc l false && decide (0 < (usedP ps).length) && (usedP ps).all noKey) := by
    rw [used_len, used_all]
    cases l <;> simp [er, lfc]
  rw [run, ee]
  by_cases hc : lfc l false = true
  · exact ⟨[], by rw [if_pos hc, hc]; simp⟩
  · have hc' : lfc l false = false := by simpa using hc
    by_cases hp : 0 < (usedP ps).length
    · refine ⟨.lst ((usedP ps).map pD) :: t2 ++ [.lst [.str "old"]] ++ [.lst (List.replicate (usedP ps).length (.str "old"))], ?_⟩
      rw [if_neg hc, if_pos hp, hc', decide_eq_true hp]
      simp [h2, eh1]
    · refine ⟨.lst ((usedP ps).map pD) :: t2, ?_⟩
      rw [if_neg hc, if_neg hp, hc', decide_eq_false hp, eh1]
      simp
end Sh.k07

set_option linter.all false
set_option maxRecDepth 100000
namespace Sh.k07
open PySem L2 PyProof.Rows Sh
def roomsL : Nat → List (Lf × List Pg) → List Nat
  | _, [] => []
  | k, b :: bs => if rm b then k :: roomsL (k + 1) bs else roomsL (k + 1) bs
theorem any_free {b : Lf × List Pg} {pages w : Nat} (hl : b.2.length = pages) (hw : w ≤ pages) (hf : ∀ i p, b.2[i]? = some p → (w ≤ i ↔ p = .free)) : rm b = decide (w < pages) := by
  by_cases h : w < pages
  · have hi : w < b.2.length := by omega
    have := (hf w _ (List.getElem?_eq_getElem hi)).mp (Nat.le_refl _)
    have hm : b.2[w] ∈ b.2 := List.getElem_mem hi
    rw [this] at hm
    rw [decide_eq_true h]
    exact List.any_eq_true.mpr ⟨_, hm, rfl⟩
  · rw [decide_eq_false h]
    refine List.any_eq_false.mpr fun p hp z => ?_
    obtain ⟨i, hi⟩ := List.mem_iff_getElem?.mp hp
    have hlt := (List.getElem?_eq_some_iff.mp hi).1
    cases p with
    | free =>
      have := (hf i .free hi).mpr rfl
      omega
    | old => cases z
    | key k => cases z
theorem room_cond {b : Lf × List Pg} {pages : Nat} (o : BkOk pages b) (p1 : 1 ≤ pages) : ∃ q, b.2[pages - 1]? = some q ∧ rm b = ((!decide (lD b.1 = .non)) && isFree q) := by
  obtain ⟨_, hl, w, hw, hbad, hf⟩ := o
  have hi : pages - 1 < b.2.length := by omega
  refine ⟨b.2[pages - 1], List.getElem?_eq_getElem hi, ?_⟩
  have h1 := hf (pages - 1) _ (List.getElem?_eq_getElem hi)
  rw [any_free hl hw hf]
  by_cases hb : b.1 = .bad
  · have := hbad hb
    have e : ¬ w < pages := by omega
    rw [decide_eq_false e, decide_eq_true ((lD_non b.1).mpr hb)]
    rfl
  · rw [decide_eq_false fun z => hb ((lD_non b.1).mp z)]
    generalize b.2[pages - 1] = q at h1
    by_cases e : w < pages
    · have := h1.mp (by omega)
      rw [decide_eq_true e, this]
      rfl
    · have hn : ¬ q = .free := fun z => by
        have := h1.mpr z
        omega
      rw [decide_eq_false e]
      cases q with
      | free => exact absurd rfl hn
      | old => rfl
      | key k => rfl
abbrev bodyRm : FS := (gSeq (gAsg (eBin dIx (eBin dIx (eVar 0) (eC (.int 1))) (eVar 2)) (tTup [(tName 3), (tName 4)]))
    (gIf (eAnd (eBin dIsNot (eVar 3) (eC .non)) (eBin dEq (eBin dIx (eVar 4) (eBin dSub (eArgs bLen [(eVar 4)]) (eC (.int 1)))) (eC (.str "free")))) (gDrop (eLm lAppend (eVar 1) [(eVar 2)])) gNext))
theorem eq_free (q : Pg) (h : Hm) : dEq (pD q) (.str "free") h = .ok (.bl (isFree q)) h := by
  cases q with
  | free => simp [pD, isFree]
  | old =>
    simp [pD, isFree]
    decide
  | key k => simp [pD, isFree]
theorem rm_asg {a bs l ps rf : D} {i : Int} {x3 x4 : Option D} {h : Hm} (j1 : dIx a (.int 1) h = .ok bs h) (j2 : dIx bs (.int i) h = .ok (.tup [l, ps]) h) : gAsg (eBin dIx (eBin dIx (eVar 0) (eC (.int 1))) (eVar 2)) (tTup [tName 3, tName 4]) [some a, some rf, some (.int i), x3, x4] h = .nx [some a, some rf, some (.int i), some l, some ps] h := by
  have e : (eBin dIx (eBin dIx (eVar 0) (eC (.int 1))) (eVar 2)) [some a, some rf, some (.int i), x3, x4] h = .ok (.tup [l, ps]) h := by
    simp only [x_bin, x_var, x_c, List.getElem?_cons_zero, List.getElem?_cons_succ, ofO_some, RD.bind_ok, j1, j2]
  unfold gAsg
  rw [e]
  rfl
theorem rm_test {a l q rf : D} {i n : Int} {ds : List D} {h : Hm} {b2 : Bool} (hl : bLen [.tup ds] h = .ok (.int n) h) (hi : dIx (.tup ds) (.int (n - 1)) h = .ok q h) (hq : dEq q (.str "free") h = .ok (.bl b2) h) :
    (eAnd (eBin dIsNot (eVar 3) (eC .non)) (eBin dEq (eBin dIx (eVar 4) (eBin dSub (eArgs bLen [(eVar 4)]) (eC (.int 1)))) (eC (.str "free")))) [some a, some rf, some (.int i), some l, some (.tup ds)] h = .ok (.bl ((!decide (l = .non)) && b2)) h := by
  have e1 : (eBin dIsNot (eVar 3) (eC .non)) [some a, some rf, some (.int i), some l, some (.tup ds)] h = .ok (.bl (!decide (l = .non))) h := by
    simp only [x_bin, x_var, x_c, List.getElem?_cons_zero, List.getElem?_cons_succ, ofO_some, RD.bind_ok, o_isN_n]
  have e2 : (eBin dEq (eBin dIx (eVar 4) (eBin dSub (eArgs bLen [(eVar 4)]) (eC (.int 1)))) (eC (.str "free"))) [some a, some rf, some (.int i), some l, some (.tup ds)] h = .ok (.bl b2) h := by
    simp only [x_bin, x_args, evR_cons, evR_nil, x_var, x_c, List.getElem?_cons_zero, List.getElem?_cons_succ, ofO_some, RD.bind_ok, hl, o_sub, hi, hq]
  rw [x_and, e1, tb_ok, e2]
  cases (!decide (l = .non)) <;> cases b2 <;> rfl
theorem rooms_loop2 {S : Sd} {pages : Nat} (o : SdOk S pages) (h : Hm) : ∀ (bs pre : List (Lf × List Pg)) (acc : List Nat) (x2 x3 x4 : Option D), S.blocks = pre ++ bs → acc.length ≤ pre.length →
    ∃ x2' x3' x4', loopG none (tName 2) bodyRm ((List.range' pre.length bs.length).map fun i => D.int (i : Nat)) [some S.enc, some (.ref h.length), x2, x3, x4] (h ++ [.lst (acc.map fun i => D.int (i : Nat))]) = .nx [some S.enc, some (.ref h.length), x2', x3', x4'] (h ++ [.lst ((acc ++ roomsL pre.length bs).map fun i => D.int (i : Nat))])
  | [], pre, acc, x2, x3, x4, _, _ => ⟨x2, x3, x4, by rw [List.length_nil, List.range'_zero, List.map_nil, loop_nil chk_none, roomsL, List.append_nil]⟩
  | b :: bs, pre, acc, x2, x3, x4, ha, hl => by
    have hb : b ∈ S.blocks := by rw [ha]; simp
    have el : (pre ++ [b]).length = pre.length + 1 := by simp
    have hlen : acc.length < 1000 := by
      have := congrArg List.length ha
      have h9 := o.b2
      simp at this
      omega
    have ob := o.bk b hb
    obtain ⟨q, hq1, hq2⟩ := room_cond ob o.p1
    obtain ⟨H, eH⟩ : ∃ H : Hm, H = h ++ [.lst (acc.map fun i => D.int (i : Nat))] := ⟨_, rfl⟩
    have j1 : dIx S.enc (.int 1) H = .ok (.tup (S.blocks.map bD)) H := ix_tup (k := 1) rfl
    have j2 : dIx (.tup (S.blocks.map bD)) (.int (pre.length : Nat)) H = .ok (bD b) H := ix_tup (k := pre.length) (by rw [ha]; simp)
    have hp : ((pages : Int) - 1) = ((pages - 1 : Nat) : Int) := by have := o.p1; omega
    have lenb : bLen [.tup (b.2.map pD)] H = .ok (.int pages) H := by rw [o_len_t, List.length_map, ob.2.1]
    have ixq : dIx (.tup (b.2.map pD)) (.int ((pages : Int) - 1)) H = .ok (pD q) H := by
      rw [hp]
      exact ix_tup (k := pages - 1) (by rw [List.getElem?_map, hq1]; rfl)
    have tst := rm_test (a := S.enc) (l := lD b.1) (rf := .ref h.length) (i := (pre.length : Nat)) lenb ixq (eq_free q H)
    rw [← hq2] at tst
    have asg := rm_asg (rf := .ref h.length) (x3 := x3) (x4 := x4) (l := lD b.1) (ps := .tup (b.2.map pD)) j1 j2
    rw [List.length_cons, List.range'_succ, List.map_cons, loop_cons chk_none (s1 := [some S.enc, some (.ref h.length), some (.int (pre.length : Nat)), x3, x4]) (h1 := h ++ [.lst (acc.map fun i => D.int (i : Nat))]) rfl, ← eH]
    by_cases hr : rm b = true
    · obtain ⟨y2, y3, y4, e⟩ := rooms_loop2 o h bs (pre ++ [b]) (acc ++ [pre.length]) (some (.int (pre.length : Nat))) (some (lD b.1)) (some (.tup (b.2.map pD))) (by rw [ha, List.append_assoc]; rfl) (by simp; omega)
      rw [el] at e
      refine ⟨y2, y3, y4, ?_⟩
      have eb : bodyRm [some S.enc, some (.ref h.length), some (.int (pre.length : Nat)), x3, x4] H = .nx [some S.enc, some (.ref h.length), some (.int (pre.length : Nat)), some (lD b.1), some (.tup (b.2.map pD))] (h ++ [.lst ((acc ++ [pre.length]).map fun i => D.int (i : Nat))]) := by
        unfold bodyRm
        rw [x_seq, asg, seq_nx, x_if, tst, tst_ok, if_pos hr, eH, x_drop, app_last (d := .int (pre.length : Nat)) rfl rfl (by simp; omega), List.map_append]
        rfl
      rw [eb, lp_nx, e, roomsL, if_pos hr, List.append_assoc]
      rfl
    · obtain ⟨y2, y3, y4, e⟩ := rooms_loop2 o h bs (pre ++ [b]) acc (some (.int (pre.length : Nat))) (some (lD b.1)) (some (.tup (b.2.map pD))) (by rw [ha, List.append_assoc]; rfl) (by simp; omega)
      rw [el] at e
      refine ⟨y2, y3, y4, ?_⟩
      have eb : bodyRm [some S.enc, some (.ref h.length), some (.int (pre.length : Nat)), x3, x4] H = .nx [some S.enc, some (.ref h.length), some (.int (pre.length : Nat)), some (lD b.1), some (.tup (b.2.map pD))] H := by
        unfold bodyRm
        rw [x_seq, asg, seq_nx, x_if, tst, tst_ok, if_neg hr, x_next]
      rw [eb, lp_nx, eH, e, roomsL, if_neg hr]
theorem x_rooms {S : Sd} {pages : Nat} (o : SdOk S pages) (h : Hm) : m__law_rooms [S.enc] h = .ok (.ref h.length) (h ++ [.lst ((roomsL 0 S.blocks).map fun i => D.int (i : Nat))]) := by
  obtain ⟨y2, y3, y4, e⟩ := rooms_loop2 o h S.blocks [] [] none none none rfl (Nat.le_refl _)
  have j1 : dIx S.enc (.int 1) (h ++ [O.lst []]) = .ok (.tup (S.blocks.map bD)) (h ++ [O.lst []]) := ix_tup (k := 1) rfl
  have e0 : (gSet 1 (eLst [])) [some S.enc, none, none, none, none] h = .nx [some S.enc, some (.ref h.length), none, none, none] (h ++ [.lst []]) := rfl
  have el : (eArgs bLen [(eBin dIx (eVar 0) (eC (.int 1)))]) [some S.enc, some (.ref h.length), none, none, none] (h ++ [O.lst []]) = .ok (.int S.blocks.length) (h ++ [O.lst []]) := by
    simp only [x_args, evR_cons, evR_nil, x_bin, x_var, x_c, List.getElem?_cons_zero, ofO_some, RD.bind_ok, j1, o_len_t, List.length_map]
  have ef := fi_rg el (Int.natCast_nonneg _) (by have := o.b2; omega)
  rw [Int.toNat_natCast, List.range_eq_range'] at ef
  rw [m__law_rooms, x_run]
  show ((gSeq _ _) [some S.enc, none, none, none, none] h).out = _
  rw [x_seq, e0, seq_nx, x_seq, for_ok ef]
  show (RT.seq (loopG none (tName 2) bodyRm _ _ _) _).out = _
  rw [List.length_nil, List.map_nil] at e
  rw [e, seq_nx]
  rfl
end Sh.k07

set_option linter.all false
set_option maxRecDepth 100000
namespace Sh.k07
open PySem L2 PyProof.Rows Sh
def cpD (key : Int) (b : Nat) : D := .tup [.str "copy", .int key, .int (b : Nat)]
def cpL (key : Int) (pl : Option (Nat × Nat)) (R : List Nat) : List D := match pl with
  | none => []
  | some (home, _) => (R.filter fun b => !decide (home = b)).map (cpD key)
def cpC (pl : Option (Nat × Nat)) (b : Nat) : Bool := match pl with
  | none => false
  | some x => !decide (x.1 = b)
abbrev bodyC : FS := (gIf (eAnd (eBin dIsNot (eVar 4) (eC .non)) (eBin dNe (eBin dIx (eVar 4) (eC (.int 0))) (eVar 5))) (gDrop (eLm lAppend (eVar 2) [(eTup [(eC (.str "copy")), (eVar 3), (eVar 5)])])) gNext)
theorem cp_test {a r1 r2 : D} {key : Int} {b : Nat} (pl : Option (Nat × Nat)) (h : Hm) : (eAnd (eBin dIsNot (eVar 4) (eC .non)) (eBin dNe (eBin dIx (eVar 4) (eC (.int 0))) (eVar 5))) [some a, some r1, some r2, some (.int key), some (plD pl), some (.int (b : Nat))] h = .ok (.bl (cpC pl b)) h := by
  have e1 : (eBin dIsNot (eVar 4) (eC .non)) [some a, some r1, some r2, some (.int key), some (plD pl), some (.int (b : Nat))] h = .ok (.bl (!decide (plD pl = .non))) h := by
    simp only [x_bin, x_var, x_c, List.getElem?_cons_zero, List.getElem?_cons_succ, ofO_some, RD.bind_ok, o_isN_n]
  rw [x_and, e1, tb_ok]
  cases pl with
  | none => rfl
  | some x =>
    obtain ⟨hm, q⟩ := x
    have e2 : (eBin dNe (eBin dIx (eVar 4) (eC (.int 0))) (eVar 5)) [some a, some r1, some r2, some (.int key), some (plD (some (hm, q))), some (.int (b : Nat))] h = .ok (.bl (!decide ((hm : Int) = (b : Int)))) h := by
      have i0 : dIx (plD (some (hm, q))) (.int 0) h = .ok (.int (hm : Nat)) h := ix_tup (k := 0) rfl
      simp only [x_bin, x_var, x_c, List.getElem?_cons_zero, List.getElem?_cons_succ, ofO_some, RD.bind_ok, i0, nq_int]
    have : decide (plD (some (hm, q)) = .non) = false := by simp [plD]
    rw [this, if_pos (by rfl), e2]
    congr 3
    exact decide_eq_decide.mpr Int.ofNat_inj
theorem cp_app {a r1 : D} {n2 : Nat} {key : Int} {b : Nat} {pl : D} {H : Hm} {acc : List D} (h2 : n2 < H.length) (hl : acc.length < 1000000) :
    (gDrop (eLm lAppend (eVar 2) [(eTup [(eC (.str "copy")), (eVar 3), (eVar 5)])])) [some a, some r1, some (.ref n2), some (.int key), some pl, some (.int (b : Nat))] (H.set n2 (.lst acc)) =
      .nx [some a, some r1, some (.ref n2), some (.int key), some pl, some (.int (b : Nat))] (H.set n2 (.lst (acc ++ [cpD key b]))) := by
  have g : (H.set n2 (.lst acc))[n2]? = some (.lst acc) := List.getElem?_set_self h2
  simp only [x_drop, x_lm, x_var, List.getElem?_cons_zero, List.getElem?_cons_succ, ofO_some, RD.bind_ok, lmB_ref (gl := lAppend) g, evR_cons, evR_nil, x_tup, x_c, lmC_ok (gl := lAppend) g, app_ok hl, RD.st_ok, List.set_set]
  rfl
theorem cp_inner {a : D} {n1 n2 : Nat} {key : Int} (pl : Option (Nat × Nat)) {H : Hm} {all : List D} (h1 : H[n1]? = some (.lst all)) (h2 : n2 < H.length) (hne : n1 ≠ n2) : ∀ (R : List Nat) (acc : List D) (x5 : Option D), acc.length + R.length < 1000000 →
    ∃ x5', loopG (some (n1, all)) (tName 5) bodyC (R.map fun i => D.int (i : Nat)) [some a, some (.ref n1), some (.ref n2), some (.int key), some (plD pl), x5] (H.set n2 (.lst acc)) = .nx [some a, some (.ref n1), some (.ref n2), some (.int key), some (plD pl), x5'] (H.set n2 (.lst (acc ++ cpL key pl R)))
  | [], acc, x5, _ => ⟨x5, by
      have g : (H.set n2 (.lst acc))[n1]? = some (.lst all) := by rw [List.getElem?_set_ne (Ne.symm hne)]; exact h1
      rw [List.map_nil, loop_nil (chk_ref g)]
      cases pl with
      | none => simp [cpL]
      | some x => simp [cpL]⟩
  | b :: R, acc, x5, hl => by
    simp only [List.length_cons] at hl
    have g : (H.set n2 (.lst acc))[n1]? = some (.lst all) := by rw [List.getElem?_set_ne (Ne.symm hne)]; exact h1
    rw [List.map_cons, loop_cons (chk_ref g) (s1 := [some a, some (.ref n1), some (.ref n2), some (.int key), some (plD pl), some (.int (b : Nat))]) (h1 := H.set n2 (.lst acc)) rfl]
    have tst := cp_test (a := a) (r1 := .ref n1) (r2 := .ref n2) (key := key) (b := b) pl (H.set n2 (.lst acc))
    have keep : ∀ (hc : cpC pl b = false), cpL key pl (b :: R) = cpL key pl R := by
      intro hc
      cases pl with
      | none => rfl
      | some x =>
        show ((b :: R).filter _).map _ = _
        rw [List.filter_cons_of_neg (by have hc' : (!decide (x.1 = b)) = false := hc; rw [hc']; exact Bool.false_ne_true)]
        rfl
    have more : ∀ (hc : cpC pl b = true), cpL key pl (b :: R) = cpD key b :: cpL key pl R := by
      intro hc
      cases pl with
      | none => cases hc
      | some x =>
        show ((b :: R).filter _).map _ = _
        rw [List.filter_cons_of_pos (p := fun b => !decide (x.1 = b)) (show (!decide (x.1 = b)) = true from hc)]
        rfl
    generalize cpC pl b = c at tst keep more
    cases c with
    | false =>
      obtain ⟨x5', e⟩ := cp_inner pl h1 h2 hne R acc (some (.int (b : Nat))) (by omega)
      refine ⟨x5', ?_⟩
      have eb : bodyC [some a, some (.ref n1), some (.ref n2), some (.int key), some (plD pl), some (.int (b : Nat))] (H.set n2 (.lst acc)) = .nx [some a, some (.ref n1), some (.ref n2), some (.int key), some (plD pl), some (.int (b : Nat))] (H.set n2 (.lst acc)) := by
        unfold bodyC
        rw [x_if, tst, tst_ok, if_neg Bool.false_ne_true, x_next]
      rw [eb, lp_nx, e, keep rfl]
    | true =>
      obtain ⟨x5', e⟩ := cp_inner pl h1 h2 hne R (acc ++ [cpD key b]) (some (.int (b : Nat))) (by simp; omega)
      refine ⟨x5', ?_⟩
      have eb : bodyC [some a, some (.ref n1), some (.ref n2), some (.int key), some (plD pl), some (.int (b : Nat))] (H.set n2 (.lst acc)) = .nx [some a, some (.ref n1), some (.ref n2), some (.int key), some (plD pl), some (.int (b : Nat))] (H.set n2 (.lst (acc ++ [cpD key b]))) := by
        unfold bodyC
        rw [x_if, tst, tst_ok, if_pos rfl, cp_app h2 (by omega)]
      rw [eb, lp_nx, e, more rfl, List.append_assoc]
      rfl
end Sh.k07

set_option linter.all false
set_option maxRecDepth 100000
namespace Sh.k07
open PySem L2 PyProof.Rows Sh
def cpsL (S : Sd) : Nat → Nat → List D
  | 0, _ => []
  | j + 1, k => cpL (k : Nat) (plF (plB 0 S.blocks) (k : Nat)) (roomsL 0 S.blocks) ++ cpsL S j (k + 1)
theorem roomsL_len : ∀ (k : Nat) (bs : List (Lf × List Pg)), (roomsL k bs).length ≤ bs.length
  | _, [] => Nat.le_refl _
  | k, b :: bs => by
    have := roomsL_len (k + 1) bs
    unfold roomsL
    split <;> simp <;> omega
theorem cpL_len (key : Int) (pl : Option (Nat × Nat)) (R : List Nat) : (cpL key pl R).length ≤ R.length := by
  cases pl with
  | none => exact Nat.zero_le _
  | some x =>
    show ((R.filter _).map _).length ≤ _
    rw [List.length_map]
    exact List.length_filter_le ..
abbrev bodyCs : FS := (gSeq (gSet 4 (eArgs m__law_place [(eVar 0), (eVar 3)])) (gFor (fiSeq (eVar 1)) (tName 5) bodyC))
theorem cp_outer {S : Sd} {pages : Nat} (o : SdOk S pages) {n1 n2 : Nat} {H : Hm} (h1 : H[n1]? = some (.lst ((roomsL 0 S.blocks).map fun i => D.int (i : Nat)))) (h2 : n2 < H.length) (hne : n1 ≠ n2) : ∀ (j k : Nat) (acc : List D) (x3 x4 x5 : Option D), acc.length + j * 9 < 1000000 →
    ∃ x3' x4' x5', loopG none (tName 3) bodyCs ((List.range' k j).map fun i => D.int (i : Nat)) [some S.enc, some (.ref n1), some (.ref n2), x3, x4, x5] (H.set n2 (.lst acc)) = .nx [some S.enc, some (.ref n1), some (.ref n2), x3', x4', x5'] (H.set n2 (.lst (acc ++ cpsL S j k)))
  | 0, k, acc, x3, x4, x5, _ => ⟨x3, x4, x5, by rw [List.range'_zero, List.map_nil, loop_nil chk_none, cpsL, List.append_nil]⟩
  | j + 1, k, acc, x3, x4, x5, hl => by
    rw [Nat.succ_mul] at hl
    have l9 : (roomsL 0 S.blocks).length ≤ 9 := Nat.le_trans (roomsL_len 0 S.blocks) o.b2
    have l1 := cpL_len (k : Nat) (plF (plB 0 S.blocks) (k : Nat)) (roomsL 0 S.blocks)
    obtain ⟨y5, e1⟩ := cp_inner (a := S.enc) (key := (k : Nat)) (plF (plB 0 S.blocks) (k : Nat)) h1 h2 hne (roomsL 0 S.blocks) acc x5 (by omega)
    obtain ⟨z3, z4, z5, e2⟩ := cp_outer o h1 h2 hne j (k + 1) (acc ++ cpL (k : Nat) (plF (plB 0 S.blocks) (k : Nat)) (roomsL 0 S.blocks)) (some (.int (k : Nat))) (some (plD (plF (plB 0 S.blocks) (k : Nat)))) y5 (by rw [List.length_append]; omega)
    refine ⟨z3, z4, z5, ?_⟩
    have g : (H.set n2 (.lst acc))[n1]? = some (.lst ((roomsL 0 S.blocks).map fun i => D.int (i : Nat))) := by rw [List.getElem?_set_ne (Ne.symm hne)]; exact h1
    have ep : (gSet 4 (eArgs m__law_place [(eVar 0), (eVar 3)])) [some S.enc, some (.ref n1), some (.ref n2), some (.int (k : Nat)), x4, x5] (H.set n2 (.lst acc)) = .nx [some S.enc, some (.ref n1), some (.ref n2), some (.int (k : Nat)), some (plD (plF (plB 0 S.blocks) (k : Nat))), x5] (H.set n2 (.lst acc)) := by
      have := x_place o (k : Nat) (H.set n2 (.lst acc))
      rw [x_set, x_args, evR_cons, x_var]
      show RD.st (RD.bind (.ok S.enc _) _) _ _ = _
      rw [RD.bind_ok, evR_cons, x_var]
      show RD.st (RD.bind (.ok (.int (k : Nat)) _) _) _ _ = _
      rw [RD.bind_ok, evR_nil, this]
      rfl
    have ef : fiSeq (eVar 1) [some S.enc, some (.ref n1), some (.ref n2), some (.int (k : Nat)), some (plD (plF (plB 0 S.blocks) (k : Nat))), x5] (H.set n2 (.lst acc)) = .ok ((roomsL 0 S.blocks).map fun i => D.int (i : Nat)) (some (n1, (roomsL 0 S.blocks).map fun i => D.int (i : Nat))) (H.set n2 (.lst acc)) := fi_ref rfl g
    rw [List.range'_succ, List.map_cons, loop_cons chk_none (s1 := [some S.enc, some (.ref n1), some (.ref n2), some (.int (k : Nat)), x4, x5]) (h1 := H.set n2 (.lst acc)) rfl]
    have eb : bodyCs [some S.enc, some (.ref n1), some (.ref n2), some (.int (k : Nat)), x4, x5] (H.set n2 (.lst acc)) = .nx [some S.enc, some (.ref n1), some (.ref n2), some (.int (k : Nat)), some (plD (plF (plB 0 S.blocks) (k : Nat))), y5] (H.set n2 (.lst (acc ++ cpL (k : Nat) (plF (plB 0 S.blocks) (k : Nat)) (roomsL 0 S.blocks)))) := by
      unfold bodyCs
      rw [x_seq, ep, seq_nx, for_ok ef, e1]
    rw [eb, lp_nx, e2, cpsL, List.append_assoc]
/-! ### erasures -/
def erD (b : Nat) : D := .tup [.str "erase", .int (b : Nat)]
def ersL : Nat → List (Lf × List Pg) → List D
  | _, [] => []
  | k, b :: bs => if er b then erD k :: ersL (k + 1) bs else ersL (k + 1) bs
abbrev bodyEr : FS := (gIf (eArgs m__law_erasable [(eBin dIx (eBin dIx (eVar 0) (eC (.int 1))) (eVar 5))]) (gDrop (eLm lAppend (eVar 2) [(eTup [(eC (.str "erase")), (eVar 5)])])) gNext)
theorem er_loop {S : Sd} {pages : Nat} (o : SdOk S pages) {n2 : Nat} {r1 : D} {x3 x4 : Option D} : ∀ (bs pre : List (Lf × List Pg)) (H : Hm) (acc : List D) (x5 : Option D), S.blocks = pre ++ bs → H[n2]? = some (.lst acc) → acc.length + bs.length < 1000000 →
    ∃ (H' : Hm) (x5' : Option D), H'[n2]? = some (.lst (acc ++ ersL pre.length bs)) ∧ H.length ≤ H'.length ∧ (∀ m, m < H.length → m ≠ n2 → H'[m]? = H[m]?) ∧
      loopG none (tName 5) bodyEr ((List.range' pre.length bs.length).map fun i => D.int (i : Nat)) [some S.enc, some r1, some (.ref n2), x3, x4, x5] H = .nx [some S.enc, some r1, some (.ref n2), x3, x4, x5'] H'
  | [], pre, H, acc, x5, _, hn, _ => ⟨H, x5, by rw [ersL, List.append_nil]; exact hn, Nat.le_refl _, fun _ _ _ => rfl, by rw [List.length_nil, List.range'_zero, List.map_nil, loop_nil chk_none]⟩
  | b :: bs, pre, H, acc, x5, ha, hn, hl => by
    simp only [List.length_cons] at hl
    have hb : b ∈ S.blocks := by rw [ha]; simp
    have el : (pre ++ [b]).length = pre.length + 1 := by simp
    obtain ⟨t, ee⟩ := x_lawerase b (by rw [(o.bk b hb).2.1]; exact o.p2) H
    have j1 : dIx S.enc (.int 1) H = .ok (.tup (S.blocks.map bD)) H := ix_tup (k := 1) rfl
    have j2 : dIx (.tup (S.blocks.map bD)) (.int (pre.length : Nat)) H = .ok (bD b) H := ix_tup (k := pre.length) (by rw [ha]; simp)
    have ev : (eArgs m__law_erasable [(eBin dIx (eBin dIx (eVar 0) (eC (.int 1))) (eVar 5))]) [some S.enc, some r1, some (.ref n2), x3, x4, some (.int (pre.length : Nat))] H = .ok (.bl (er b)) (H ++ t) := by
      have e0 : (eBin dIx (eBin dIx (eVar 0) (eC (.int 1))) (eVar 5)) [some S.enc, some r1, some (.ref n2), x3, x4, some (.int (pre.length : Nat))] H = .ok (bD b) H := by
        simp only [x_bin, x_var, x_c, List.getElem?_cons_zero, List.getElem?_cons_succ, ofO_some, RD.bind_ok, j1, j2]
      rw [x_args, evR_cons, e0, RD.bind_ok, evR_nil, ee]
    have hn1 : (H ++ t)[n2]? = some (.lst acc) := by rw [List.getElem?_append_left (lt_of_get hn)]; exact hn
    have hlt : n2 < (H ++ t).length := lt_of_get hn1
    rw [List.length_cons, List.range'_succ, List.map_cons, loop_cons chk_none (s1 := [some S.enc, some r1, some (.ref n2), x3, x4, some (.int (pre.length : Nat))]) (h1 := H) rfl]
    by_cases hr : er b = true
    · obtain ⟨H', y5, g1, g2, g3, g4⟩ := er_loop o (r1 := r1) (x3 := x3) (x4 := x4) bs (pre ++ [b]) ((H ++ t).set n2 (.lst (acc ++ [erD pre.length]))) (acc ++ [erD pre.length]) (some (.int (pre.length : Nat))) (by rw [ha, List.append_assoc]; rfl) (List.getElem?_set_self hlt) (by simp; omega)
      rw [el] at g1 g4
      refine ⟨H', y5, ?_, ?_, fun m hm hne => ?_, ?_⟩
      · rw [g1, ersL, if_pos hr, List.append_assoc]; rfl
      · simp at g2; omega
      · rw [g3 m (by simp; omega) hne, List.getElem?_set_ne (Ne.symm hne), List.getElem?_append_left hm]
      · have eb : bodyEr [some S.enc, some r1, some (.ref n2), x3, x4, some (.int (pre.length : Nat))] H = .nx [some S.enc, some r1, some (.ref n2), x3, x4, some (.int (pre.length : Nat))] ((H ++ t).set n2 (.lst (acc ++ [erD pre.length]))) := by
          unfold bodyEr
          rw [x_if, ev, tst_ok, if_pos hr]
          simp only [x_drop, x_lm, x_var, List.getElem?_cons_zero, List.getElem?_cons_succ, ofO_some, RD.bind_ok, lmB_ref (gl := lAppend) hn1, evR_cons, evR_nil, x_tup, x_c, lmC_ok (gl := lAppend) hn1]
          rw [app_ok (by omega)]
          rfl
        rw [eb, lp_nx, g4]
    · obtain ⟨H', y5, g1, g2, g3, g4⟩ := er_loop o (r1 := r1) (x3 := x3) (x4 := x4) bs (pre ++ [b]) (H ++ t) acc (some (.int (pre.length : Nat))) (by rw [ha, List.append_assoc]; rfl) hn1 (by omega)
      rw [el] at g1 g4
      refine ⟨H', y5, ?_, ?_, fun m hm hne => ?_, ?_⟩
      · rw [g1, ersL, if_neg hr]
      · simp at g2; omega
      · rw [g3 m (by simp; omega) hne, List.getElem?_append_left hm]
      · have eb : bodyEr [some S.enc, some r1, some (.ref n2), x3, x4, some (.int (pre.length : Nat))] H = .nx [some S.enc, some r1, some (.ref n2), x3, x4, some (.int (pre.length : Nat))] (H ++ t) := by
          unfold bodyEr
          rw [x_if, ev, tst_ok, if_neg hr, x_next]
        rw [eb, lp_nx, g4]
end Sh.k07

set_option linter.all false
set_option maxRecDepth 100000
namespace Sh.k07
open PySem L2 PyProof.Rows Sh
def wrD (b : Nat) : D := .tup [.str "write", .int (b : Nat)]
def actsD (S : Sd) : List D := match S.due with
  | none => []
  | some _ => (roomsL 0 S.blocks).map wrD ++ cpsL S S.keys.toNat 0 ++ ersL 0 S.blocks
structure NewL (r : RD) (h : Hm) (xs : List D) : Prop where
  ex : ∃ (n : Nat) (h' : Hm), r = .ok (.ref n) h' ∧ h'[n]? = some (.lst xs) ∧ h.length ≤ n ∧ h.length ≤ h'.length ∧ ∀ m, m < h.length → h'[m]? = h[m]?
theorem writes_ok {a : D} {n1 : Nat} {R : List Nat} {h : Hm} {s4 s3 s2 : Option D} (h1 : h[n1]? = some (.lst (R.map fun i => D.int (i : Nat)))) (hl : R.length < 1000) : ∃ t2, eLc (fiSeq (eVar 1)) (tName 5) (eC (.bl true)) (eTup [(eC (.str "write")), (eVar 5)]) [5] [some a, some (.ref n1), s2, s3, s4, none] h = .ok (.ref h.length) (h ++ .lst (R.map wrD) :: t2) := by
  obtain ⟨t2, r⟩ := elc_ok (fi := fiSeq (eVar 1)) (gt := tName 5) (ft := eC (.bl true)) (fe := (eTup [(eC (.str "write")), (eVar 5)])) (own := [5]) (s := [some a, some (.ref n1), s2, s3, s4, none]) (h := h) (ck := some (n1, R.map fun i => D.int (i : Nat))) (xs := R.map fun i => D.int (i : Nat)) (val := fun x => .tup [.str "write", x]) (tt := fun _ => true)
    (fi_ref rfl h1) (chk_old h1) (fun x hx u => ⟨[some a, some (.ref n1), s2, s3, s4, some x], [], rfl, rfl, fun _ => by rw [List.append_nil]; rfl⟩) (by simp; omega)
  refine ⟨t2, ?_⟩
  rw [r, List.filter_eq_self.mpr (fun _ _ => rfl), List.map_map]
  rfl
theorem cpsL_len (S : Sd) (h9 : (roomsL 0 S.blocks).length ≤ 9) : ∀ j k, (cpsL S j k).length ≤ j * 9
  | 0, _ => Nat.zero_le _
  | j + 1, k => by
    have h1 := cpL_len (k : Nat) (plF (plB 0 S.blocks) (k : Nat)) (roomsL 0 S.blocks)
    have h2 := cpsL_len S h9 j (k + 1)
    rw [cpsL, List.length_append, Nat.succ_mul]
    omega
theorem x_lawacts {S : Sd} {pages : Nat} (o : SdOk S pages) (h : Hm) : NewL (m__law_acts [S.enc] h) h (actsD S) := by
  have j4 : dIx S.enc (.int 4) h = .ok (dueD S.due) h := ix_tup (k := 4) rfl
  have c4 : (eBin dIs (eBin dIx (eVar 0) (eC (.int 4))) (eC .non)) [some S.enc, none, none, none, none, none] h = .ok (.bl (decide (dueD S.due = .non))) h := by
    simp only [x_bin, x_var, x_c, List.getElem?_cons_zero, ofO_some, RD.bind_ok, j4, o_is_n]
  cases hd : S.due with
  | none =>
    refine ⟨h.length, h ++ [.lst []], ?_, ?_, Nat.le_refl _, by simp, fun m hm => get_old hm⟩
    · rw [m__law_acts, x_run]
      show ((gSeq _ _) [some S.enc, none, none, none, none, none] h).out = _
      rw [x_seq, x_if, c4, tst_ok, if_pos (by rw [hd]; rfl)]
      rfl
    · have : actsD S = [] := by simp [actsD, hd]
      rw [this]
      exact get_last
  | some k0 =>
    have l9 : (roomsL 0 S.blocks).length ≤ 9 := Nat.le_trans (roomsL_len 0 S.blocks) o.b2
    have er := x_rooms o h
    obtain ⟨h1, eh1⟩ : ∃ h1 : Hm, h1 = h ++ [.lst ((roomsL 0 S.blocks).map fun i => D.int (i : Nat))] := ⟨_, rfl⟩
    rw [← eh1] at er
    have g1 : h1[h.length]? = some (.lst ((roomsL 0 S.blocks).map fun i => D.int (i : Nat))) := by rw [eh1]; exact get_last
    have hl1 : h1.length = h.length + 1 := by rw [eh1]; simp
    obtain ⟨t2, ew⟩ := writes_ok (a := S.enc) (s2 := none) (s3 := none) (s4 := none) g1 (by omega)
    obtain ⟨h2, eh2⟩ : ∃ h2 : Hm, h2 = h1 ++ .lst ((roomsL 0 S.blocks).map wrD) :: t2 := ⟨_, rfl⟩
    rw [← eh2] at ew
    have g2 : h2[h1.length]? = some (.lst ((roomsL 0 S.blocks).map wrD)) := by rw [eh2]; simp
    have g21 : h2[h.length]? = some (.lst ((roomsL 0 S.blocks).map fun i => D.int (i : Nat))) := by rw [eh2, List.getElem?_append_left (lt_of_get g1)]; exact g1
    have hself : h2.set h1.length (.lst ((roomsL 0 S.blocks).map wrD)) = h2 := by
      apply List.ext_getElem?
      intro j
      by_cases hj : h1.length = j
      · subst hj
        rw [List.getElem?_set_self (lt_of_get g2), g2]
      · rw [List.getElem?_set_ne hj]
    have hK : S.keys.toNat ≤ 9 := by have := o.k2; omega
    obtain ⟨y3, y4, y5, e3⟩ := cp_outer o g21 (lt_of_get g2) (by omega) S.keys.toNat 0 ((roomsL 0 S.blocks).map wrD) none none none (by simp; omega)
    rw [hself] at e3
    have lc := cpsL_len S l9 S.keys.toNat 0
    have le : ∀ (k : Nat) (bs : List (Lf × List Pg)), (ersL k bs).length ≤ bs.length := by
      intro k bs
      induction bs generalizing k with
      | nil => exact Nat.le_refl _
      | cons b bs ih =>
        have := ih (k + 1)
        unfold ersL
        split <;> simp <;> omega
    obtain ⟨h4, z5, f1, f2, f3, f4⟩ := er_loop o (n2 := h1.length) (r1 := .ref h.length) (x3 := y3) (x4 := y4) S.blocks [] (h2.set h1.length (.lst ((roomsL 0 S.blocks).map wrD ++ cpsL S S.keys.toNat 0))) _ y5 rfl (List.getElem?_set_self (lt_of_get g2)) (by simp; have := o.b2; omega)
    refine ⟨h1.length, h4, ?_, ?_, by omega, ?_, fun m hm => ?_⟩
    · have s1 : (gSet 1 (eArgs m__law_rooms [(eVar 0)])) [some S.enc, none, none, none, none, none] h = .nx [some S.enc, some (.ref h.length), none, none, none, none] h1 := by
        rw [x_set, x_args, evR_cons, x_var]
        show RD.st (RD.bind (.ok S.enc h) _) _ _ = _
        rw [RD.bind_ok, evR_nil, er]
        rfl
      have s2 : (gSet 2 (eLc (fiSeq (eVar 1)) (tName 5) (eC (.bl true)) (eTup [(eC (.str "write")), (eVar 5)]) [5])) [some S.enc, some (.ref h.length), none, none, none, none] h1 = .nx [some S.enc, some (.ref h.length), some (.ref h1.length), none, none, none] h2 := by
        rw [x_set, ew]
        rfl
      have j0 : dIx S.enc (.int 0) h2 = .ok (.int S.keys) h2 := ix_tup (k := 0) rfl
      have ek : (eBin dIx (eVar 0) (eC (.int 0))) [some S.enc, some (.ref h.length), some (.ref h1.length), none, none, none] h2 = .ok (.int S.keys) h2 := by
        simp only [x_bin, x_var, x_c, List.getElem?_cons_zero, ofO_some, RD.bind_ok, j0]
      have f3' := fi_rg ek (by have := o.k1; omega) (by have := o.k2; omega)
      rw [List.range_eq_range'] at f3'
      have s3 : (gFor (fiRg [(eBin dIx (eVar 0) (eC (.int 0)))]) (tName 3) bodyCs) [some S.enc, some (.ref h.length), some (.ref h1.length), none, none, none] h2 = .nx [some S.enc, some (.ref h.length), some (.ref h1.length), y3, y4, y5] (h2.set h1.length (.lst ((roomsL 0 S.blocks).map wrD ++ cpsL S S.keys.toNat 0))) := (for_ok f3').trans e3
      have j1 : ∀ H : Hm, dIx S.enc (.int 1) H = .ok (.tup (S.blocks.map bD)) H := fun H => ix_tup (k := 1) rfl
      have el : ∀ H : Hm, (eArgs bLen [(eBin dIx (eVar 0) (eC (.int 1)))]) [some S.enc, some (.ref h.length), some (.ref h1.length), y3, y4, y5] H = .ok (.int S.blocks.length) H := fun H => by
        simp only [x_args, evR_cons, evR_nil, x_bin, x_var, x_c, List.getElem?_cons_zero, ofO_some, RD.bind_ok, j1, o_len_t, List.length_map]
      have f4' := fi_rg (el (h2.set h1.length (.lst ((roomsL 0 S.blocks).map wrD ++ cpsL S S.keys.toNat 0)))) (Int.natCast_nonneg _) (by have := o.b2; omega)
      rw [Int.toNat_natCast, List.range_eq_range'] at f4'
      have s4 := (for_ok (gt := tName 5) (gb := bodyEr) f4').trans f4
      rw [m__law_acts, x_run]
      show ((gSeq _ _) [some S.enc, none, none, none, none, none] h).out = _
      rw [x_seq, x_if, c4, tst_ok, if_neg (by rw [hd]; simp [dueD]), x_next, seq_nx, x_seq, s1, seq_nx, x_seq, s2, seq_nx, x_seq]
      show (RT.seq ((gFor (fiRg [(eBin dIx (eVar 0) (eC (.int 0)))]) (tName 3) bodyCs) _ _) _).out = _
      rw [s3, seq_nx, x_seq]
      show (RT.seq ((gFor (fiRg [(eArgs bLen [(eBin dIx (eVar 0) (eC (.int 1)))])]) (tName 5) bodyEr) _ _) _).out = _
      rw [s4, seq_nx]
      rfl
    · have : actsD S = (roomsL 0 S.blocks).map wrD ++ cpsL S S.keys.toNat 0 ++ ersL 0 S.blocks := by simp [actsD, hd]
      rw [this]
      exact f1
    · rw [List.length_set] at f2
      have : h2.length ≥ h1.length := by have := lt_of_get g2; omega
      omega
    · have hm2 : m < h2.length := by have := lt_of_get g2; omega
      rw [f3 m (by rw [List.length_set]; exact hm2) (by omega), List.getElem?_set_ne (by omega), eh2, List.getElem?_append_left (by omega), eh1, get_old hm]
end Sh.k07

set_option linter.all false
set_option maxRecDepth 100000
namespace Sh.k07
open PySem L2 PyProof.Rows Sh
open PySem.W (EachIs AllAlike Sortable dataLe)
/-! ### sorted(places.items()) -/
abbrev T3 := Int × Nat × Nat
def pyT (t : T3) : PyData := .tuple [.int t.1, .tuple [.int (t.2.1 : Nat), .int (t.2.2 : Nat)]]
def kdT (t : T3) : KDP := (kvT t, pyT t)
theorem prep_ok (h : Hm) : ∀ L : List T3, prepK h (L.map kvT) = some (L.map kdT)
  | [] => rfl
  | t :: L => by
    have e : toPy 20 h (kvT t).2 = some (.tuple [.int (t.2.1 : Nat), .int (t.2.2 : Nat)]) := rfl
    simp only [List.map_cons, prepK, e, prep_ok h L]
    rfl
theorem le_keys {a b : T3} (hne : a.1 ≠ b.1) : dataLe false pyT a b = decide (a.1 < b.1) := by
  have e1 : PySem.W.keyToks (pyT b) = .inl 1 :: .inl b.1 :: PySem.W.keyToksAll [.tuple [.int (b.2.1 : Nat), .int (b.2.2 : Nat)]] := rfl
  have e2 : PySem.W.keyToks (pyT a) = .inl 1 :: .inl a.1 :: PySem.W.keyToksAll [.tuple [.int (a.2.1 : Nat), .int (a.2.2 : Nat)]] := rfl
  show (!PyProof.Rows.lexLt itemOrd (PySem.W.keyToks (pyT b)) (PySem.W.keyToks (pyT a))) = _
  rw [e1, e2, PyProof.Rows.lex_self (O := itemOrd), PyProof.Rows.lex_diff (O := itemOrd) (show (Sum.inl b.1 : Int ⊕ List Nat) ≠ Sum.inl a.1 from fun z => hne (Sum.inl.inj z).symm)]
  show (!decide (b.1 < a.1)) = _
  by_cases h : a.1 < b.1
  · have : ¬ b.1 < a.1 := by omega
    simp [h, this]
  · have : b.1 < a.1 := by omega
    simp [h, this]
theorem strict_eq : ∀ (A B : List T3), A.Pairwise (fun a b => a.1 < b.1) → B.Pairwise (fun a b => a.1 < b.1) → (∀ t, t ∈ A ↔ t ∈ B) → A = B
  | [], [], _, _, _ => rfl
  | [], b :: B, _, _, h => by
    have := (h b).mpr (List.mem_cons_self ..)
    simp at this
  | a :: A, [], _, _, h => by
    have := (h a).mp (List.mem_cons_self ..)
    simp at this
  | a :: A, b :: B, ha, hb, h => by
    rw [List.pairwise_cons] at ha hb
    have e : a = b := by
      rcases List.mem_cons.mp ((h a).mp (List.mem_cons_self ..)) with e | e
      · exact e
      · rcases List.mem_cons.mp ((h b).mpr (List.mem_cons_self ..)) with e' | e'
        · exact e'.symm
        · have h1 := hb.1 a e
          have h2 := ha.1 b e'
          omega
    subst e
    congr 1
    refine strict_eq A B ha.2 hb.2 fun t => ?_
    constructor
    · intro ht
      rcases List.mem_cons.mp ((h t).mp (List.mem_cons_of_mem _ ht)) with e | e
      · have := ha.1 t ht
        rw [e] at this
        omega
      · exact e
    · intro ht
      rcases List.mem_cons.mp ((h t).mpr (List.mem_cons_of_mem _ ht)) with e | e
      · have := hb.1 t ht
        rw [e] at this
        omega
      · exact e
def ascL (L : List T3) : Nat → Nat → List T3
  | 0, _ => []
  | j + 1, k => match plF L (k : Nat) with
    | some x => ((k : Nat), x) :: ascL L j (k + 1)
    | none => ascL L j (k + 1)
theorem plF_mem : ∀ {L : List T3} {k : Int} {x : Nat × Nat}, (L.map (·.1)).Nodup → (plF L k = some x ↔ (k, x) ∈ L)
  | [], k, x, _ => by simp [plF]
  | t :: L, k, x, nd => by
    rw [List.map_cons, List.nodup_cons] at nd
    rw [plF_cons]
    by_cases h : t.1 = k
    · rw [if_pos h]
      constructor
      · intro e
        cases e
        rw [← h]
        exact List.mem_cons_self ..
      · intro e
        rcases List.mem_cons.mp e with e | e
        · rw [← e]
        · exact absurd (List.mem_map.mpr ⟨_, e, h.symm⟩) nd.1
    · rw [if_neg h, plF_mem nd.2]
      constructor
      · exact fun e => List.mem_cons_of_mem _ e
      · intro e
        rcases List.mem_cons.mp e with e | e
        · exact absurd (by rw [← e]) h
        · exact e
theorem ascL_mem {L : List T3} (nd : (L.map (·.1)).Nodup) : ∀ (j k : Nat) (t : T3), t ∈ ascL L j k ↔ t ∈ L ∧ (k : Int) ≤ t.1 ∧ t.1 < (k + j : Nat)
  | 0, k, t => by
    simp only [ascL, List.not_mem_nil, false_iff]
    omega
  | j + 1, k, t => by
    have ih := ascL_mem nd j (k + 1) t
    unfold ascL
    split
    · rename_i x hx
      rw [List.mem_cons, ih]
      have hm := (plF_mem nd).mp hx
      constructor
      · rintro (rfl | ⟨h1, h2, h3⟩)
        · exact ⟨hm, by simp, by simp; omega⟩
        · exact ⟨h1, by omega, by omega⟩
      · rintro ⟨h1, h2, h3⟩
        by_cases e : t.1 = (k : Nat)
        · left
          obtain ⟨a, b⟩ := t
          dsimp only at e
          subst e
          have := (plF_mem nd).mpr h1
          rw [hx] at this
          cases this
          rfl
        · right
          exact ⟨h1, by omega, by omega⟩
    · rename_i hx
      rw [ih]
      constructor
      · rintro ⟨h1, h2, h3⟩
        exact ⟨h1, by omega, by omega⟩
      · rintro ⟨h1, h2, h3⟩
        refine ⟨h1, ?_, by omega⟩
        by_cases e : t.1 = (k : Nat)
        · obtain ⟨a, b⟩ := t
          dsimp only at e
          subst e
          have := (plF_mem nd).mpr h1
          rw [hx] at this
          cases this
        · omega
theorem ascL_sorted {L : List T3} (nd : (L.map (·.1)).Nodup) : ∀ (j k : Nat), (ascL L j k).Pairwise (fun a b => a.1 < b.1)
  | 0, k => .nil
  | j + 1, k => by
    unfold ascL
    split
    · rename_i x hx
      refine List.Pairwise.cons (fun t ht => ?_) (ascL_sorted nd j (k + 1))
      have := ((ascL_mem nd j (k + 1) t).mp ht).2.1
      show (k : Int) < t.1
      omega
    · exact ascL_sorted nd j (k + 1)
theorem le_total : PySem.W.TotalLe (dataLe false pyT) := PySem.W.sortLe_total (listOrd itemOrd) false fun b => PySem.W.keyToks (pyT b)
theorem sort_asc {L : List T3} {K : Nat} (nd : (L.map (·.1)).Nodup) (hk : ∀ t ∈ L, 0 ≤ t.1 ∧ t.1 < (K : Nat)) : L.mergeSort (dataLe false pyT) = ascL L K 0 := by
  have hp := List.mergeSort_perm L (dataLe false pyT)
  have hs : (L.mergeSort (dataLe false pyT)).Pairwise fun a b => dataLe false pyT a b = true := List.pairwise_mergeSort (fun a b c => le_total.trans a b c) (fun a b => by rw [Bool.or_eq_true]; exact le_total.total a b) L
  have nd2 : ((L.mergeSort (dataLe false pyT)).map (·.1)).Nodup := (hp.map (·.1)).symm.nodup nd
  refine strict_eq _ _ ?_ (ascL_sorted nd K 0) fun t => ?_
  · have nd3 : (L.mergeSort (dataLe false pyT)).Pairwise fun a b => a.1 ≠ b.1 := List.pairwise_map.mp nd2
    refine (hs.and nd3).imp ?_
    rintro a b ⟨h1, h2⟩
    rw [le_keys h2] at h1
    exact of_decide_eq_true h1
  · rw [hp.mem_iff, ascL_mem nd]
    constructor
    · intro h
      have := hk t h
      exact ⟨h, by simpa using this.1, by simpa using this.2⟩
    · exact fun h => h.1
theorem alike_pyT (a b : T3) : PySem.W.alike (pyT a) (pyT b) = true := rfl
theorem depth_pyT (a : T3) : (pyT a).depth = 2 := rfl
theorem sortIt_ok {L : List T3} {K : Nat} {n : Nat} {h : Hm} (e : h[n]? = some (.dk (L.map kvT))) (nd : (L.map (·.1)).Nodup) (hk : ∀ t ∈ L, 0 ≤ t.1 ∧ t.1 < (K : Nat)) (hl : L.length < 1000000) :
    dSortIt (.ref n) h = .ok (.ref h.length) (h ++ [.lst ((ascL L K 0).map fun t => .tup [.int t.1, .tup [.int (t.2.1 : Nat), .int (t.2.2 : Nat)]])]) := by
  have so : sortOk (L.map kdT) = true := by
    unfold sortOk
    simp only [Bool.and_eq_true, decide_eq_true_eq, List.all_eq_true, List.length_map]
    refine ⟨⟨show L.length ≤ 1000000 by omega, fun x hx => ?_⟩, fun x hx y hy => ?_⟩
    · obtain ⟨t, _, rfl⟩ := List.mem_map.mp hx
      show (pyT t).depth ≤ 50
      rw [depth_pyT]
      omega
    · obtain ⟨t, _, rfl⟩ := List.mem_map.mp hx
      obtain ⟨u, _, rfl⟩ := List.mem_map.mp hy
      exact alike_pyT t u
  have ms : (L.map kdT).mergeSort (dataLe false (·.2)) = (L.mergeSort (dataLe false pyT)).map kdT := (List.map_mergeSort (f := kdT) (r := dataLe false pyT) (fun _ _ _ _ => rfl)).symm
  simp only [dSortIt, e, prep_ok]
  rw [if_pos so, ms, sort_asc nd hk, List.map_map]
  rfl
end Sh.k07

set_option linter.all false
set_option maxRecDepth 100000
namespace Sh.k07
open PySem L2 PyProof.Rows Sh
def isRoomD : D → Bool
  | .tup [_, .tup [_, .tup ps]] => ps.any fun z => eqF z (.str "free")
  | _ => false
def fstD : D → D
  | .tup [i, _] => i
  | _ => .non
theorem isRoom_bD (i : D) (b : Lf × List Pg) : isRoomD (.tup [i, bD b]) = rm b := by
  show (b.2.map pD).any _ = _
  rw [List.any_map]
  unfold rm
  congr 1
  funext p
  exact eqF_free p
theorem enD_mem : ∀ {bs : List (Lf × List Pg)} {k : Nat} {x : D}, x ∈ enD k (bs.map bD) → ∃ (i : Nat) (b : Lf × List Pg), b ∈ bs ∧ x = .tup [.int (i : Nat), bD b]
  | [], k, x, h => by simp [enD] at h
  | b :: bs, k, x, h => by
    rw [List.map_cons, enD] at h
    rcases List.mem_cons.mp h with rfl | h
    · exact ⟨k, b, List.mem_cons_self .., rfl⟩
    · obtain ⟨i, c, hc, e⟩ := enD_mem h
      exact ⟨i, c, List.mem_cons_of_mem _ hc, e⟩
theorem rooms_enD : ∀ (bs : List (Lf × List Pg)) (k : Nat), ((enD k (bs.map bD)).filter isRoomD).map fstD = (roomsL k bs).map fun i => D.int (i : Nat)
  | [], k => rfl
  | b :: bs, k => by
    have ih := rooms_enD bs (k + 1)
    rw [List.map_cons, enD, roomsL]
    by_cases h : rm b = true
    · rw [List.filter_cons_of_pos (by rw [isRoom_bD]; exact h), if_pos h, List.map_cons, ih]
      rfl
    · rw [List.filter_cons_of_neg (by rw [isRoom_bD]; exact h), if_neg h, ih]
theorem enD_len (bs : List (Lf × List Pg)) (k : Nat) : (enD k (bs.map bD)).length = bs.length := by rw [enD_length, List.length_map]
theorem roomy_ok {bs : List (Lf × List Pg)} (hl : bs.length ≤ 9) (h : Hm) (s1 s2 s3 s4 s5 : Option D) : ∃ t2, eLc (fiEn (eVar 0)) (tTup [(tName 6), (tName 7)]) (eArgs m_has_room [(eVar 7)]) (eVar 6) [6, 7] [some (.tup (bs.map bD)), s1, s2, s3, s4, s5, none, none] h = .ok (.ref h.length) (h ++ .lst ((roomsL 0 bs).map fun i => D.int (i : Nat)) :: t2) := by
  obtain ⟨t2, r⟩ := elc_ok (fi := fiEn (eVar 0)) (gt := tTup [(tName 6), (tName 7)]) (ft := eArgs m_has_room [(eVar 7)]) (fe := eVar 6) (own := [6, 7]) (s := [some (.tup (bs.map bD)), s1, s2, s3, s4, s5, none, none]) (h := h) (ck := none) (xs := enD 0 (bs.map bD)) (val := fstD) (tt := isRoomD)
    rfl (fun _ => rfl) (fun x hx u => by
      obtain ⟨i, b, hb, rfl⟩ := enD_mem hx
      refine ⟨[some (.tup (bs.map bD)), s1, s2, s3, s4, s5, some (.int (i : Nat)), some (bD b)], [], rfl, ?_, fun _ => by rw [List.append_nil]; rfl⟩
      rw [isRoom_bD, x_args, evR_cons, x_var]
      show RD.bind (.ok (bD b) _) _ = _
      rw [RD.bind_ok, evR_nil, x_hasroom]) (by rw [enD_len]; omega)
  exact ⟨t2, by rw [r, rooms_enD]⟩
theorem writes_ok2 {a : D} {n1 : Nat} {R : List Nat} {h : Hm} {s2 s3 s4 s5 : Option D} (h1 : h[n1]? = some (.lst (R.map fun i => D.int (i : Nat)))) (hl : R.length < 1000) : ∃ t2, eLc (fiSeq (eVar 1)) (tName 6) (eC (.bl true)) (eTup [(eC (.str "write")), (eVar 6)]) [6] [some a, some (.ref n1), s2, s3, s4, s5, none, none] h = .ok (.ref h.length) (h ++ .lst (R.map wrD) :: t2) := by
  obtain ⟨t2, r⟩ := elc_ok (fi := fiSeq (eVar 1)) (gt := tName 6) (ft := eC (.bl true)) (fe := (eTup [(eC (.str "write")), (eVar 6)])) (own := [6]) (s := [some a, some (.ref n1), s2, s3, s4, s5, none, none]) (h := h) (ck := some (n1, R.map fun i => D.int (i : Nat))) (xs := R.map fun i => D.int (i : Nat)) (val := fun x => .tup [.str "write", x]) (tt := fun _ => true)
    (fi_ref rfl h1) (chk_old h1) (fun x hx u => ⟨[some a, some (.ref n1), s2, s3, s4, s5, some x, none], [], rfl, rfl, fun _ => by rw [List.append_nil]; rfl⟩) (by simp; omega)
  refine ⟨t2, ?_⟩
  rw [r, List.filter_eq_self.mpr (fun _ _ => rfl), List.map_map]
  rfl
theorem ext_ok {n k : Nat} {xs ys : List D} {h : Hm} (e : h[k]? = some (.lst ys)) (hl : xs.length + ys.length ≤ 1000000) : lExtend n xs [.ref k] h = .ok .non (h.set n (.lst (xs ++ ys))) := by
  have hl' : xs.length + ys.length ≤ big := hl
  simp [lExtend, e, hl']
theorem copies_ok {a : D} {n1 : Nat} {R : List Nat} {h : Hm} {s2 s5 : Option D} {key : Int} {home q : Nat} (h1 : h[n1]? = some (.lst (R.map fun i => D.int (i : Nat)))) (hl : R.length < 1000) : ∃ t2, eLc (fiSeq (eVar 1)) (tName 6) (eBin dNe (eVar 6) (eVar 4)) (eTup [(eC (.str "copy")), (eVar 3), (eVar 6)]) [6] [some a, some (.ref n1), s2, some (.int key), some (.int (home : Nat)), s5, none, none] h = .ok (.ref h.length) (h ++ .lst (cpL key (some (home, q)) R) :: t2) := by
  obtain ⟨t2, r⟩ := elc_ok (fi := fiSeq (eVar 1)) (gt := tName 6) (ft := (eBin dNe (eVar 6) (eVar 4))) (fe := (eTup [(eC (.str "copy")), (eVar 3), (eVar 6)])) (own := [6]) (s := [some a, some (.ref n1), s2, some (.int key), some (.int (home : Nat)), s5, none, none]) (h := h) (ck := some (n1, R.map fun i => D.int (i : Nat))) (xs := R.map fun i => D.int (i : Nat)) (val := fun x => .tup [.str "copy", .int key, x]) (tt := fun x => match x with | .int i => !decide (i = (home : Int)) | _ => false)
    (fi_ref rfl h1) (chk_old h1) (fun x hx u => by
      obtain ⟨i, hi, rfl⟩ := List.mem_map.mp hx
      exact ⟨[some a, some (.ref n1), s2, some (.int key), some (.int (home : Nat)), s5, some (.int (i : Nat)), none], [], rfl, by simp only [x_bin, x_var, List.getElem?_cons_zero, List.getElem?_cons_succ, ofO_some, RD.bind_ok, nq_int], fun _ => by rw [List.append_nil]; rfl⟩) (by simp; omega)
  refine ⟨t2, ?_⟩
  rw [r, List.filter_map, List.map_map]
  have e : (R.filter ((fun x => match x with | .int i => !decide (i = (home : Int)) | _ => false) ∘ fun i : Nat => D.int (i : Nat))) = R.filter fun b => !decide (home = b) := by
    congr 1
    funext b
    show (!decide ((b : Int) = (home : Int))) = (!decide (home = b))
    congr 1
    exact decide_eq_decide.mpr ⟨fun z => (Int.ofNat.inj z).symm, fun z => by rw [z]⟩
  rw [e]
  rfl
def isErD (f : D → Bool) : D → Bool
  | .tup [_, b] => f b
  | _ => false
end Sh.k07

set_option linter.all false
set_option maxRecDepth 100000
namespace Sh.k07
open PySem L2 PyProof.Rows Sh
def notInt : D → Bool
  | .int _ => false
  | _ => true
def lfB : D → Bool
  | .non => false
  | .int n => !decide (n = 0)
  | _ => true
def erF : D → Bool
  | .tup [_, .tup [l, .tup ps]] => lfB l && (ps.any fun z => !eqF z (.str "free")) && ps.all notInt
  | _ => false
theorem erF_bD (i : D) (b : Lf × List Pg) : erF (.tup [i, bD b]) = er b := by
  show (lfB (lD b.1) && ((b.2.map pD).any fun z => !eqF z (.str "free")) && (b.2.map pD).all notInt) = _
  rw [List.any_map, List.all_map]
  unfold er
  congr 1
  · congr 1
    · cases b.1 <;> rfl
    · congr 1
      funext p
      show (!eqF (pD p) _) = _
      rw [eqF_free]
  · congr 1
    funext p
    cases p <;> rfl
theorem ers_enD : ∀ (bs : List (Lf × List Pg)) (k : Nat), ((enD k (bs.map bD)).filter erF).map (fun x => D.tup [.str "erase", fstD x]) = ersL k bs
  | [], k => rfl
  | b :: bs, k => by
    have ih := ers_enD bs (k + 1)
    rw [List.map_cons, enD, ersL]
    by_cases h : er b = true
    · rw [List.filter_cons_of_pos (by rw [erF_bD]; exact h), if_pos h, List.map_cons, ih]
      rfl
    · rw [List.filter_cons_of_neg (by rw [erF_bD]; exact h), if_neg h, ih]
theorem erases_ok {bs : List (Lf × List Pg)} (hl : bs.length ≤ 9) (h6 : ∀ b ∈ bs, b.2.length ≤ 6) (h : Hm) (s1 s2 s3 s4 s5 : Option D) : ∃ t2, eLc (fiEn (eVar 0)) (tTup [(tName 6), (tName 7)]) (eArgs m_can_be_erased [(eVar 7)]) (eTup [(eC (.str "erase")), (eVar 6)]) [6, 7] [some (.tup (bs.map bD)), s1, s2, s3, s4, s5, none, none] h = .ok (.ref h.length) (h ++ .lst (ersL 0 bs) :: t2) := by
  have main : ∀ (xs acc : List D) (t : Hm), (∀ x ∈ xs, ∃ (i : Nat) (b : Lf × List Pg), b.2.length ≤ 6 ∧ x = .tup [.int (i : Nat), bD b]) → acc.length + xs.length < 1000000 →
      ∃ t2, lcLoop none (tTup [(tName 6), (tName 7)]) (eArgs m_can_be_erased [(eVar 7)]) (eTup [(eC (.str "erase")), (eVar 6)]) h.length [some (.tup (bs.map bD)), s1, s2, s3, s4, s5, none, none] xs (h ++ .lst acc :: t) = .ok (.ref h.length) (h ++ .lst (acc ++ (xs.filter erF).map (fun x => D.tup [.str "erase", fstD x])) :: t2) := by
    intro xs
    induction xs with
    | nil =>
      intro acc t _ _
      exact ⟨t, by unfold lcLoop; rw [if_pos chk_none]; simp⟩
    | cons x xs ih =>
      intro acc t k hl
      simp only [List.length_cons] at hl
      obtain ⟨i, b, hb, rfl⟩ := k x (List.mem_cons_self ..)
      obtain ⟨u, eu⟩ := x_canerase b hb (h ++ .lst acc :: t)
      have et : (eArgs m_can_be_erased [(eVar 7)]) [some (.tup (bs.map bD)), s1, s2, s3, s4, s5, some (.int (i : Nat)), some (bD b)] (h ++ .lst acc :: t) = .ok (.bl (er b)) (h ++ .lst acc :: t ++ u) := by
        rw [x_args, evR_cons, x_var]
        show RD.bind (.ok (bD b) _) _ = _
        rw [RD.bind_ok, evR_nil, eu]
      have eg : (tTup [(tName 6), (tName 7)]) (.tup [.int (i : Nat), bD b]) [some (.tup (bs.map bD)), s1, s2, s3, s4, s5, none, none] (h ++ .lst acc :: t) = .nx [some (.tup (bs.map bD)), s1, s2, s3, s4, s5, some (.int (i : Nat)), some (bD b)] (h ++ .lst acc :: t) := rfl
      have as : h ++ O.lst acc :: t ++ u = h ++ .lst acc :: (t ++ u) := by simp
      unfold lcLoop
      rw [if_pos chk_none, eg]
      dsimp only
      rw [et]
      by_cases hr : er b = true
      · obtain ⟨t2, r⟩ := ih (acc ++ [.tup [.str "erase", .int (i : Nat)]]) (t ++ u) (fun y hy => k y (List.mem_cons_of_mem _ hy)) (by simp; omega)
        refine ⟨t2, ?_⟩
        rw [hr]
        dsimp only
        have ee : (eTup [(eC (.str "erase")), (eVar 6)]) [some (.tup (bs.map bD)), s1, s2, s3, s4, s5, some (.int (i : Nat)), some (bD b)] (h ++ .lst acc :: t ++ u) = .ok (.tup [.str "erase", .int (i : Nat)]) (h ++ .lst acc :: t ++ u) := rfl
        rw [ee]
        dsimp only
        have g : (h ++ O.lst acc :: t ++ u)[h.length]? = some (.lst acc) := by simp
        rw [g]
        dsimp only
        have hbg : acc.length < big := by show acc.length < 1000000; omega
        rw [if_pos hbg]
        have es : (h ++ O.lst acc :: t ++ u).set h.length (.lst (acc ++ [.tup [.str "erase", .int (i : Nat)]])) = h ++ .lst (acc ++ [.tup [.str "erase", .int (i : Nat)]]) :: (t ++ u) := by simp
        rw [es, r, List.filter_cons_of_pos (by rw [erF_bD]; exact hr), List.map_cons, List.append_assoc]
        rfl
      · have hr' : er b = false := by simpa using hr
        obtain ⟨t2, r⟩ := ih acc (t ++ u) (fun y hy => k y (List.mem_cons_of_mem _ hy)) (by omega)
        refine ⟨t2, ?_⟩
        rw [hr']
        dsimp only
        rw [as, r, List.filter_cons_of_neg (by rw [erF_bD]; exact hr)]
  obtain ⟨t2, r⟩ := main (enD 0 (bs.map bD)) [] [] (fun x hx => by
    obtain ⟨i, b, hb, e⟩ := enD_mem hx
    exact ⟨i, b, h6 b hb, e⟩) (by simp [enD_len]; omega)
  refine ⟨t2, ?_⟩
  have ef : fiEn (eVar 0) [some (.tup (bs.map bD)), s1, s2, s3, s4, s5, none, none] h = .ok (enD 0 (bs.map bD)) none h := rfl
  unfold eLc
  rw [ef]
  dsimp only
  show lcLoop none _ _ _ h.length [some (.tup (bs.map bD)), s1, s2, s3, s4, s5, none, none] _ _ = _
  rw [r, ers_enD, List.nil_append]
end Sh.k07

set_option linter.all false
set_option maxRecDepth 100000
namespace Sh.k07
open PySem L2 PyProof.Rows Sh
def tD (t : T3) : D := .tup [.int t.1, .tup [.int (t.2.1 : Nat), .int (t.2.2 : Nat)]]
def cpAll (R : List Nat) (ts : List T3) : List D := (ts.map fun t => cpL t.1 (some t.2) R).flatten
abbrev bodyS : FS := (gDrop (eLm lExtend (eVar 2) [(eLc (fiSeq (eVar 1)) (tName 6) (eBin dNe (eVar 6) (eVar 4)) (eTup [(eC (.str "copy")), (eVar 3), (eVar 6)]) [6])]))
theorem s_loop {a : D} {n1 n2 nP : Nat} {R : List Nat} {all : List D} (hR : R.length ≤ 9) (d1 : n1 ≠ n2) (d2 : nP ≠ n2) : ∀ (ts : List T3) (H : Hm) (acc : List D) (x3 x4 x5 : Option D), H[n1]? = some (.lst (R.map fun i => D.int (i : Nat))) → H[n2]? = some (.lst acc) → H[nP]? = some (.lst all) → acc.length + ts.length * 9 < 1000000 →
    ∃ (H' : Hm) (x3' x4' x5' : Option D), H'[n2]? = some (.lst (acc ++ cpAll R ts)) ∧ H.length ≤ H'.length ∧ (∀ m, m < H.length → m ≠ n2 → H'[m]? = H[m]?) ∧
      loopG (some (nP, all)) (tTup [(tName 3), (tTup [(tName 4), (tName 5)])]) bodyS (ts.map tD) [some a, some (.ref n1), some (.ref n2), x3, x4, x5, none, none] H = .nx [some a, some (.ref n1), some (.ref n2), x3', x4', x5', none, none] H'
  | [], H, acc, x3, x4, x5, _, h2, hP, _ => ⟨H, x3, x4, x5, by rw [h2]; simp [cpAll], Nat.le_refl _, fun _ _ _ => rfl, by rw [List.map_nil, loop_nil (chk_ref hP)]⟩
  | t :: ts, H, acc, x3, x4, x5, h1, h2, hP, hl => by
    simp only [List.length_cons, Nat.succ_mul] at hl
    obtain ⟨key, home, q⟩ := t
    obtain ⟨t2, ec⟩ := copies_ok (a := a) (s2 := some (.ref n2)) (s5 := some (.int (q : Nat))) (key := key) (home := home) (q := q) h1 (by omega)
    have lc := cpL_len key (some (home, q)) R
    obtain ⟨G, eG⟩ : ∃ G : Hm, G = H ++ .lst (cpL key (some (home, q)) R) :: t2 := ⟨_, rfl⟩
    rw [← eG] at ec
    have oldG : ∀ m, m < H.length → G[m]? = H[m]? := fun m hm => by rw [eG, List.getElem?_append_left hm]
    have gC : G[H.length]? = some (.lst (cpL key (some (home, q)) R)) := by rw [eG]; simp
    have g2 : G[n2]? = some (.lst acc) := by rw [oldG n2 (lt_of_get h2)]; exact h2
    have lG : H.length ≤ G.length := by rw [eG]; simp
    have eb : bodyS [some a, some (.ref n1), some (.ref n2), some (.int key), some (.int (home : Nat)), some (.int (q : Nat)), none, none] H = .nx [some a, some (.ref n1), some (.ref n2), some (.int key), some (.int (home : Nat)), some (.int (q : Nat)), none, none] (G.set n2 (.lst (acc ++ cpL key (some (home, q)) R))) := by
      unfold bodyS
      rw [x_drop, x_lm, x_var]
      show RD.st (RD.bind (.ok (.ref n2) H) _) _ _ = _
      rw [RD.bind_ok, lmB_ref (gl := lExtend) h2, evR_cons, ec, RD.bind_ok, evR_nil, lmC_ok (gl := lExtend) g2, ext_ok gC (by omega)]
      rfl
    obtain ⟨H', y3, y4, y5, k1, k2, k3, k4⟩ := s_loop hR d1 d2 ts (G.set n2 (.lst (acc ++ cpL key (some (home, q)) R))) (acc ++ cpL key (some (home, q)) R) (some (.int key)) (some (.int (home : Nat))) (some (.int (q : Nat)))
      (by rw [List.getElem?_set_ne (Ne.symm d1), oldG n1 (lt_of_get h1)]; exact h1) (List.getElem?_set_self (lt_of_get g2)) (by rw [List.getElem?_set_ne (Ne.symm d2), oldG nP (lt_of_get hP)]; exact hP) (by rw [List.length_append]; omega)
    refine ⟨H', y3, y4, y5, ?_, ?_, fun m hm hne => ?_, ?_⟩
    · rw [k1, List.append_assoc]
      rfl
    · rw [List.length_set] at k2; omega
    · rw [k3 m (by rw [List.length_set]; omega) hne, List.getElem?_set_ne (Ne.symm hne), oldG m hm]
    · rw [List.map_cons, loop_cons (chk_ref hP) (s1 := [some a, some (.ref n1), some (.ref n2), some (.int key), some (.int (home : Nat)), some (.int (q : Nat)), none, none]) (h1 := H) rfl, eb, lp_nx, k4]
theorem cps_asc (S : Sd) : ∀ (j k : Nat), cpAll (roomsL 0 S.blocks) (ascL (plB 0 S.blocks) j k) = cpsL S j k
  | 0, k => rfl
  | j + 1, k => by
    have ih := cps_asc S j (k + 1)
    unfold ascL cpsL
    cases h : plF (plB 0 S.blocks) (k : Nat) with
    | none =>
      dsimp only
      rw [ih]
      rfl
    | some x =>
      dsimp only
      rw [← ih]
      rfl
theorem ascL_len (L : List T3) : ∀ (j k : Nat), (ascL L j k).length ≤ j
  | 0, k => Nat.le_refl _
  | j + 1, k => by
    have := ascL_len L j (k + 1)
    unfold ascL
    split <;> simp <;> omega
end Sh.k07

set_option linter.all false
set_option maxRecDepth 100000
namespace Sh.k07
open PySem L2 PyProof.Rows Sh
theorem ersL_len : ∀ (k : Nat) (bs : List (Lf × List Pg)), (ersL k bs).length ≤ bs.length
  | _, [] => Nat.le_refl _
  | k, b :: bs => by
    have := ersL_len (k + 1) bs
    unfold ersL
    split <;> simp <;> omega
theorem x_actson {S : Sd} {pages : Nat} (o : SdOk S pages) (h : Hm) : NewL (m_acts_on [.tup (S.blocks.map bD)] h) h ((roomsL 0 S.blocks).map wrD ++ cpsL S S.keys.toNat 0 ++ ersL 0 S.blocks) := by
  have l9 : (roomsL 0 S.blocks).length ≤ 9 := Nat.le_trans (roomsL_len 0 S.blocks) o.b2
  have h6 : ∀ b ∈ S.blocks, b.2.length ≤ 6 := fun b hb => by rw [(o.bk b hb).2.1]; exact o.p2
  obtain ⟨t1, e1⟩ := roomy_ok o.b2 h none none none none none
  obtain ⟨h1, eh1⟩ : ∃ h1 : Hm, h1 = h ++ .lst ((roomsL 0 S.blocks).map fun i => D.int (i : Nat)) :: t1 := ⟨_, rfl⟩
  rw [← eh1] at e1
  have g1 : h1[h.length]? = some (.lst ((roomsL 0 S.blocks).map fun i => D.int (i : Nat))) := by rw [eh1]; simp
  obtain ⟨t2, e2⟩ := writes_ok2 (a := .tup (S.blocks.map bD)) (s2 := none) (s3 := none) (s4 := none) (s5 := none) g1 (by omega)
  obtain ⟨h2, eh2⟩ : ∃ h2 : Hm, h2 = h1 ++ .lst ((roomsL 0 S.blocks).map wrD) :: t2 := ⟨_, rfl⟩
  rw [← eh2] at e2
  have g2 : h2[h1.length]? = some (.lst ((roomsL 0 S.blocks).map wrD)) := by rw [eh2]; simp
  have g21 : h2[h.length]? = some (.lst ((roomsL 0 S.blocks).map fun i => D.int (i : Nat))) := by rw [eh2, List.getElem?_append_left (lt_of_get g1)]; exact g1
  have e3 := x_places o.nd h6 o.b2 h2
  have ndk : ((plB 0 S.blocks).map (·.1)).Nodup := by rw [plB_keys]; exact o.nd
  have kr : ∀ t ∈ plB 0 S.blocks, 0 ≤ t.1 ∧ t.1 < (S.keys.toNat : Nat) := fun t ht => by
    have := o.kr t.1 (by rw [← plB_keys 0]; exact List.mem_map.mpr ⟨t, ht, rfl⟩)
    have := o.k1
    omega
  have lp : (plB 0 S.blocks).length < 1000000 := by
    have := keys_len o.bs
    rw [← plB_keys 0, List.length_map] at this
    omega
  have gd : (h2 ++ [O.dk ((plB 0 S.blocks).map kvT)])[h2.length]? = some (.dk ((plB 0 S.blocks).map kvT)) := get_last
  have e4 := sortIt_ok (K := S.keys.toNat) gd ndk kr lp
  obtain ⟨h3, eh3⟩ : ∃ h3 : Hm, h3 = h2 ++ [O.dk ((plB 0 S.blocks).map kvT)] := ⟨_, rfl⟩
  rw [← eh3] at e3 e4
  obtain ⟨h4, eh4⟩ : ∃ h4 : Hm, h4 = h3 ++ [.lst ((ascL (plB 0 S.blocks) S.keys.toNat 0).map tD)] := ⟨_, rfl⟩
  have e4' : dSortIt (.ref h2.length) h3 = .ok (.ref h3.length) h4 := by rw [eh4]; exact e4
  have old4 : ∀ m, m < h2.length → h4[m]? = h2[m]? := fun m hm => by rw [eh4, get_old (by rw [eh3]; simp; omega), eh3, get_old hm]
  have gP : h4[h3.length]? = some (.lst ((ascL (plB 0 S.blocks) S.keys.toNat 0).map tD)) := by rw [eh4]; exact get_last
  have l32 : h3.length = h2.length + 1 := by rw [eh3]; simp
  have hl21 := lt_of_get g2
  have hl1 := lt_of_get g1
  have hK : S.keys.toNat ≤ 9 := by have := o.k2; omega
  have la := ascL_len (plB 0 S.blocks) S.keys.toNat 0
  obtain ⟨h5, y3, y4, y5, k1, k2, k3, k4⟩ := s_loop (a := .tup (S.blocks.map bD)) (n1 := h.length) (n2 := h1.length) (nP := h3.length) l9 (by omega) (by omega) (ascL (plB 0 S.blocks) S.keys.toNat 0) h4 _ none none none (by rw [old4 _ (by omega)]; exact g21) (by rw [old4 _ hl21]; exact g2) gP (by simp; omega)
  rw [cps_asc] at k1
  obtain ⟨t6, e6⟩ := erases_ok o.b2 h6 h5 (some (.ref h.length)) (some (.ref h1.length)) y3 y4 y5
  obtain ⟨h6', eh6⟩ : ∃ h6' : Hm, h6' = h5 ++ .lst (ersL 0 S.blocks) :: t6 := ⟨_, rfl⟩
  rw [← eh6] at e6
  have gE : h6'[h5.length]? = some (.lst (ersL 0 S.blocks)) := by rw [eh6]; simp
  have g62 : h6'[h1.length]? = some (.lst ((roomsL 0 S.blocks).map wrD ++ cpsL S S.keys.toNat 0)) := by rw [eh6, List.getElem?_append_left (lt_of_get k1)]; exact k1
  have lE := ersL_len 0 S.blocks
  have lC := cpsL_len S l9 S.keys.toNat 0
  refine ⟨h1.length, h6'.set h1.length (.lst ((roomsL 0 S.blocks).map wrD ++ cpsL S S.keys.toNat 0 ++ ersL 0 S.blocks)), ?_, List.getElem?_set_self (lt_of_get g62), by omega, ?_, fun m hm => ?_⟩
  · have s1 : (gSet 1 (eLc (fiEn (eVar 0)) (tTup [(tName 6), (tName 7)]) (eArgs m_has_room [(eVar 7)]) (eVar 6) [6, 7])) [some (.tup (S.blocks.map bD)), none, none, none, none, none, none, none] h = .nx [some (.tup (S.blocks.map bD)), some (.ref h.length), none, none, none, none, none, none] h1 := by
      rw [x_set, e1]
      rfl
    have s2 : (gSet 2 (eLc (fiSeq (eVar 1)) (tName 6) (eC (.bl true)) (eTup [(eC (.str "write")), (eVar 6)]) [6])) [some (.tup (S.blocks.map bD)), some (.ref h.length), none, none, none, none, none, none] h1 = .nx [some (.tup (S.blocks.map bD)), some (.ref h.length), some (.ref h1.length), none, none, none, none, none] h2 := by
      rw [x_set, e2]
      rfl
    have ep : (eSortIt (eArgs m_places [(eVar 0)])) [some (.tup (S.blocks.map bD)), some (.ref h.length), some (.ref h1.length), none, none, none, none, none] h2 = .ok (.ref h3.length) h4 := by
      have : (eArgs m_places [(eVar 0)]) [some (.tup (S.blocks.map bD)), some (.ref h.length), some (.ref h1.length), none, none, none, none, none] h2 = .ok (.ref h2.length) h3 := by
        rw [x_args, evR_cons, x_var]
        show RD.bind (.ok (.tup (S.blocks.map bD)) h2) _ = _
        rw [RD.bind_ok, evR_nil, e3]
      unfold eSortIt
      rw [this, RD.bind_ok, e4']
    have s3 := (for_ok (gt := (tTup [(tName 3), (tTup [(tName 4), (tName 5)])])) (gb := bodyS) (fi_ref ep gP)).trans k4
    have s4 : (gDrop (eLm lExtend (eVar 2) [(eLc (fiEn (eVar 0)) (tTup [(tName 6), (tName 7)]) (eArgs m_can_be_erased [(eVar 7)]) (eTup [(eC (.str "erase")), (eVar 6)]) [6, 7])])) [some (.tup (S.blocks.map bD)), some (.ref h.length), some (.ref h1.length), y3, y4, y5, none, none] h5 = .nx [some (.tup (S.blocks.map bD)), some (.ref h.length), some (.ref h1.length), y3, y4, y5, none, none] (h6'.set h1.length (.lst ((roomsL 0 S.blocks).map wrD ++ cpsL S S.keys.toNat 0 ++ ersL 0 S.blocks))) := by
      rw [x_drop, x_lm, x_var]
      show RD.st (RD.bind (.ok (.ref h1.length) h5) _) _ _ = _
      rw [RD.bind_ok, lmB_ref (gl := lExtend) k1, evR_cons, e6, RD.bind_ok, evR_nil, lmC_ok (gl := lExtend) g62, ext_ok gE (by simp; have := o.b2; omega)]
      rfl
    rw [m_acts_on, x_run]
    show ((gSeq _ _) [some (.tup (S.blocks.map bD)), none, none, none, none, none, none, none] h).out = _
    rw [x_seq, s1, seq_nx, x_seq, s2, seq_nx, x_seq]
    show (RT.seq ((gFor (fiSeq (eSortIt (eArgs m_places [(eVar 0)]))) (tTup [(tName 3), (tTup [(tName 4), (tName 5)])]) bodyS) _ _) _).out = _
    rw [s3, seq_nx, x_seq, s4, seq_nx]
    rfl
  · rw [List.length_set]
    have : h5.length ≤ h6'.length := by rw [eh6]; simp
    have : h2.length ≤ h4.length := by rw [eh4, eh3]; simp
    omega
  · have : h2.length ≤ h4.length := by rw [eh4, eh3]; simp
    rw [List.getElem?_set_ne (by omega), eh6, List.getElem?_append_left (by omega), k3 m (by omega) (by omega), old4 m (by omega), eh2, List.getElem?_append_left (by omega), eh1, List.getElem?_append_left hm]
theorem x_acts {S : Sd} {pages : Nat} (o : SdOk S pages) {h : Hm} {p : Nat} (hp : h[p]? = some (stO S)) : NewL (m_Stand_acts [.ref p] h) h (actsD S) := by
  have ef : eFld "Stand" "_shape" (eVar 0) [some (.ref p)] h = .ok S.enc h := fld_ok rfl hp
  have j4 : dIx S.enc (.int 4) h = .ok (dueD S.due) h := ix_tup (k := 4) rfl
  have j1 : dIx S.enc (.int 1) h = .ok (.tup (S.blocks.map bD)) h := ix_tup (k := 1) rfl
  have run : m_Stand_acts [.ref p] h = m_shape_acts [S.enc] h := by
    rw [m_Stand_acts, x_run]
    show ((gRet (eArgs m_shape_acts [(eFld "Stand" "_shape" (eVar 0))])) [some (.ref p)] h).out = _
    rw [x_ret, x_args, evR_cons, ef, RD.bind_ok, evR_nil]
    cases m_shape_acts [S.enc] h <;> rfl
  have c4 : (eBin dIs (eBin dIx (eVar 0) (eC (.int 4))) (eC .non)) [some S.enc] h = .ok (.bl (decide (dueD S.due = .non))) h := by
    simp only [x_bin, x_var, x_c, List.getElem?_cons_zero, ofO_some, RD.bind_ok, j4, o_is_n]
  rw [run]
  cases hd : S.due with
  | none =>
    refine ⟨h.length, h ++ [.lst []], ?_, ?_, Nat.le_refl _, by simp, fun m hm => get_old hm⟩
    · rw [m_shape_acts, x_run]
      show ((gSeq _ _) [some S.enc] h).out = _
      rw [x_seq, x_if, c4, tst_ok, if_pos (by rw [hd]; rfl)]
      rfl
    · have : actsD S = [] := by simp [actsD, hd]
      rw [this]
      exact get_last
  | some k0 =>
    have ea : actsD S = (roomsL 0 S.blocks).map wrD ++ cpsL S S.keys.toNat 0 ++ ersL 0 S.blocks := by simp [actsD, hd]
    have e : m_shape_acts [S.enc] h = m_acts_on [.tup (S.blocks.map bD)] h := by
      rw [m_shape_acts, x_run]
      show ((gSeq _ _) [some S.enc] h).out = _
      rw [x_seq, x_if, c4, tst_ok, if_neg (by rw [hd]; simp [dueD]), x_next, seq_nx, x_ret, x_args, evR_cons]
      have ei : (eBin dIx (eVar 0) (eC (.int 1))) [some S.enc] h = .ok (.tup (S.blocks.map bD)) h := by
        simp only [x_bin, x_var, x_c, List.getElem?_cons_zero, ofO_some, RD.bind_ok, j1]
      rw [ei, RD.bind_ok, evR_nil]
      cases m_acts_on [.tup (S.blocks.map bD)] h <;> rfl
    rw [e, ea]
    exact x_actson o h
end Sh.k07

set_option linter.all false
set_option maxRecDepth 100000
namespace Sh.k07
open PySem L2 PyProof.Rows Sh
theorem pure_app (n : Nat) : ∀ A B : List D, pureL n A = true → pureL n B = true → pureL n (A ++ B) = true
  | [], B, _, hb => hb
  | a :: A, B, ha, hb => by
    simp only [pureL, Bool.and_eq_true] at ha
    simp only [List.cons_append, pureL, ha.1, pure_app n A B ha.2 hb, Bool.and_self]
theorem pure_of (n : Nat) : ∀ A : List D, (∀ a ∈ A, pureD n a = true) → pureL n A = true
  | [], _ => by simp [pureL]
  | a :: A, h => by
    simp only [pureL, h a (List.mem_cons_self ..), pure_of n A fun b hb => h b (List.mem_cons_of_mem _ hb), Bool.and_self]
theorem pure_cpL (key : Int) (pl : Option (Nat × Nat)) (R : List Nat) : pureL 6 (cpL key pl R) = true := by
  refine pure_of 6 _ fun a ha => ?_
  cases pl with
  | none => simp [cpL] at ha
  | some x =>
    obtain ⟨b, _, rfl⟩ := List.mem_map.mp (show a ∈ (R.filter _).map (cpD key) from ha)
    rfl
theorem pure_cps (S : Sd) : ∀ j k, pureL 6 (cpsL S j k) = true
  | 0, _ => rfl
  | j + 1, k => pure_app 6 _ _ (pure_cpL _ _ _) (pure_cps S j (k + 1))
theorem pure_ers : ∀ (k : Nat) (bs : List (Lf × List Pg)), pureL 6 (ersL k bs) = true
  | _, [] => rfl
  | k, b :: bs => by
    unfold ersL
    split
    · simp only [pureL, pure_ers (k + 1) bs, Bool.and_true]
      rfl
    · exact pure_ers (k + 1) bs
theorem pure_acts (S : Sd) : pureL 6 (actsD S) = true := by
  unfold actsD
  split
  · rfl
  · refine pure_app 6 _ _ (pure_app 6 _ _ (pure_of 6 _ fun a ha => ?_) (pure_cps S _ _)) (pure_ers 0 _)
    obtain ⟨b, _, rfl⟩ := List.mem_map.mp ha
    rfl
theorem acts_len {S : Sd} {pages : Nat} (o : SdOk S pages) : (actsD S).length < 1000000 := by
  have l9 : (roomsL 0 S.blocks).length ≤ 9 := Nat.le_trans (roomsL_len 0 S.blocks) o.b2
  have h1 := cpsL_len S l9 S.keys.toNat 0
  have h2 := ersL_len 0 S.blocks
  have := o.b2
  have := o.k2
  unfold actsD
  split
  · simp
  · simp
    omega
theorem acts_same {S : Sd} {pages : Nat} (o : SdOk S pages) {h : Hm} {p : Nat} (hp : h[p]? = some (stO S)) : ∃ (n m : Nat) (h1 h2 : Hm), m_Stand_acts [.ref p] h = .ok (.ref n) h1 ∧ m__law_acts [S.enc] h1 = .ok (.ref m) h2 ∧ m__law_same 8 [.ref n, .ref m] h2 = .ok (.bl true) h2 ∧ h2[n]? = some (.lst (actsD S)) ∧ h2[p]? = some (stO S) ∧ p ≠ n ∧ h1[p]? = some (stO S) := by
  obtain ⟨n, h1, e1, g1, l1, l1', o1⟩ := (x_acts o hp).ex
  obtain ⟨m, h2, e2, g2, l2, l2', o2⟩ := (x_lawacts o h1).ex
  have gn : h2[n]? = some (.lst (actsD S)) := by rw [o2 n (lt_of_get g1)]; exact g1
  have hlt := lt_of_get hp
  have p1 : h1[p]? = some (stO S) := by rw [o1 p hlt]; exact hp
  exact ⟨n, m, h1, h2, e1, e2, x_sameL gn g2 (pure_acts S) (acts_len o), gn, by rw [o2 p (lt_of_get p1)]; exact p1, by omega, p1⟩
end Sh.k07

set_option linter.all false
set_option maxRecDepth 100000
namespace Sh.k07
open PySem L2 PyProof.Rows Sh
theorem same_enc {S : Sd} {pages : Nat} (o : SdOk S pages) (h : Hm) : m__law_same 8 [S.enc, S.enc] h = .ok (.bl true) h := x_same 7 S.enc h (pure_enc o 3)
end Sh.k07

set_option linter.all false
set_option maxRecDepth 100000
namespace Sh.k07
open PySem L2 PyProof.Rows Sh
end Sh.k07

set_option linter.all false
set_option maxRecDepth 100000
namespace Sh.k07
open PySem L2 PyProof.Rows Sh
def fillP : List Pg → Pg → List Pg
  | [], _ => []
  | .free :: r, x => x :: r
  | p :: r, x => p :: fillP r x
def ageK (k : Int) : Pg → Pg
  | .key j => if j = k then .old else .key j
  | p => p
def ageB (k : Int) (b : Lf × List Pg) : Lf × List Pg := (b.1, b.2.map (ageK k))
def fillB (b : Lf × List Pg) (x : Pg) : Lf × List Pg := (b.1, fillP b.2 x)
def badP : Pg → Pg
  | .free => .old
  | p => p
def badB (b : Lf × List Pg) : Lf × List Pg := (.bad, b.2.map badP)
def wear : Lf → Lf
  | .num n => .num (n - 1)
  | l => l
def eraB (b : Lf × List Pg) (x : Pg) : Lf × List Pg := (wear b.1, List.replicate b.2.length x)
def cpB (bs : List (Lf × List Pg)) (k : Int) (i : Nat) (b : Lf × List Pg) : List (Lf × List Pg) := (bs.map (ageB k)).set i (fillB (ageB k b) (.key k))
inductive Rp where
  | done | bad | cut | late
  deriving DecidableEq
inductive Ac where
  | wr (b : Nat) | cp (k : Int) (b : Nat) | er (b : Nat)
def Rp.s : Rp → Str
  | .done => "done" | .bad => "bad" | .cut => "cut" | .late => "late"
def acD : Ac → D
  | .wr b => wrD b | .cp k b => cpD k b | .er b => erD b
def Ac.at : Ac → Nat
  | .wr b => b | .cp _ b => b | .er b => b
def behB (S : Sd) (a : Ac) (r : Rp) (b : Lf × List Pg) : List (Lf × List Pg) := match r, a with
  | .bad, a => S.blocks.set a.at (badB b)
  | .cut, .er i => S.blocks.set i (eraB b .old)
  | _, .er i => S.blocks.set i (eraB b .free)
  | .cut, a => S.blocks.set a.at (fillB b .old)
  | _, .wr i => cpB S.blocks (S.due.getD 0) i b
  | _, .cp k i => cpB S.blocks k i b
def beh (S : Sd) (a : Ac) (r : Rp) (b : Lf × List Pg) : Sd := match r with
  | .bad => { S with blocks := behB S a r b, fails := S.fails - 1 }
  | .done => { S with blocks := behB S a r b, due := match a with
    | .wr _ => none
    | _ => S.due }
  | _ => { S with blocks := behB S a r b, cuts := S.cuts - 1, due := none }
structure AcOk (S : Sd) (a : Ac) (b : Lf × List Pg) : Prop where
  at_ : S.blocks[a.at]? = some b
  due : ∃ d, S.due = some d
  room : (∀ i, a ≠ .er i) → rm b = true
  era : ∀ i, a = .er i → er b = true
  key : ∀ k i, a = .cp k i → k ∈ allKeys S.blocks
def RpOk (S : Sd) : Rp → Prop
  | .done => True
  | .bad => 0 < S.fails
  | _ => 0 < S.cuts
theorem fillP_set : ∀ (ps : List Pg) (x : Pg) (w : Nat), ps[w]? = some .free → (∀ i p, i < w → ps[i]? = some p → p ≠ .free) → fillP ps x = ps.set w x
  | [], _, _, e, _ => by simp at e
  | p :: ps, x, 0, e, _ => by
    simp at e
    subst e
    rfl
  | p :: ps, x, w + 1, e, h => by
    have hp : p ≠ .free := h 0 p (by omega) rfl
    have ih := fillP_set ps x w (by simpa using e) fun i q hi hq => h (i + 1) q (by omega) (by simpa using hq)
    cases p with
    | free => exact absurd rfl hp
    | old => simp only [fillP, ih, List.set_cons_succ]
    | key k => simp only [fillP, ih, List.set_cons_succ]
theorem rm_first {pages : Nat} {b : Lf × List Pg} (o : BkOk pages b) (r : rm b = true) : ∃ w, w < pages ∧ b.1 ≠ .bad ∧ b.2[w]? = some .free ∧ (∀ i p, b.2[i]? = some p → (w ≤ i ↔ p = .free)) ∧ ∀ x, fillP b.2 x = b.2.set w x := by
  obtain ⟨_, hl, w, hw, hb, hf⟩ := o
  unfold rm at r
  obtain ⟨p, hp, hq⟩ := List.any_eq_true.mp r
  have hpf : p = .free := by cases p <;> first | rfl | cases hq
  subst hpf
  obtain ⟨i, hi, e⟩ := List.mem_iff_getElem.mp hp
  have h1 := (hf i .free (by rw [List.getElem?_eq_getElem hi, e])).mpr rfl
  have hw2 : w < b.2.length := by omega
  have e2 : b.2[w]? = some .free := by
    have := (hf w b.2[w] (List.getElem?_eq_getElem hw2)).mp (Nat.le_refl _)
    rw [List.getElem?_eq_getElem hw2, this]
  refine ⟨w, by omega, fun z => by have := hb z; omega, e2, hf, fun x => fillP_set _ _ _ e2 fun i p hi hp z => ?_⟩
  have := (hf i p hp).mpr z
  omega
theorem bk_bad {pages : Nat} {b : Lf × List Pg} (o : BkOk pages b) : BkOk pages (badB b) := by
  obtain ⟨_, hl, _⟩ := o
  refine ⟨trivial, by simp [badB, hl], pages, Nat.le_refl _, fun _ => rfl, fun i p hp => ?_⟩
  have hi : i < pages := by
    have := (List.getElem?_eq_some_iff.mp hp).1
    simp [badB] at this
    omega
  refine ⟨fun z => by omega, fun z => ?_⟩
  subst z
  simp only [badB, List.getElem?_map] at hp
  cases q : b.2[i]? with
  | none => rw [q] at hp; cases hp
  | some p' => rw [q] at hp; cases p' <;> simp [badP] at hp
theorem wear_ok {l : Lf} (o : lfOk l) (h : l ≠ .num 0) : lfOk (wear l) := by
  cases l with
  | num n =>
    have h1 : 0 ≤ n ∧ n ≤ 99 := o
    have h2 : n ≠ 0 := fun z => h (by rw [z])
    show 0 ≤ n - 1 ∧ n - 1 ≤ 99
    omega
  | _ => trivial
theorem er_left {b : Lf × List Pg} (h : er b = true) : b.1 ≠ .bad ∧ b.1 ≠ .num 0 ∧ b.2.all noKey = true := by
  obtain ⟨l, ps⟩ := b
  unfold er at h
  simp only [Bool.and_eq_true] at h
  refine ⟨fun z => ?_, fun z => ?_, h.2⟩
  · simp only at z
    subst z
    simp at h
  · simp only at z
    subst z
    simp at h
theorem wear_bad {l : Lf} (h : l ≠ .bad) : wear l ≠ .bad := by cases l <;> simp_all [wear]
theorem bk_era {pages : Nat} {b : Lf × List Pg} (o : BkOk pages b) (h : er b = true) {x : Pg} (hx : x = .free ∨ x = .old) : BkOk pages (eraB b x) := by
  obtain ⟨h1, h2, _⟩ := er_left h
  obtain ⟨ho, hl, _⟩ := o
  have get : ∀ i p, (eraB b x).2[i]? = some p → i < pages ∧ p = x := fun i p hp => by
    simp only [eraB, List.getElem?_replicate] at hp
    split at hp
    · cases hp
      exact ⟨by omega, rfl⟩
    · cases hp
  rcases hx with rfl | rfl
  · refine ⟨wear_ok ho h2, by simp [eraB, hl], 0, by omega, fun z => absurd z (wear_bad h1), fun i p hp => ⟨fun _ => (get i p hp).2, fun _ => by omega⟩⟩
  · refine ⟨wear_ok ho h2, by simp [eraB, hl], pages, Nat.le_refl _, fun _ => rfl, fun i p hp => ?_⟩
    obtain ⟨g1, rfl⟩ := get i p hp
    exact ⟨fun z => by omega, fun z => by cases z⟩
theorem bk_age {pages : Nat} {b : Lf × List Pg} (o : BkOk pages b) (k : Int) : BkOk pages (ageB k b) := by
  obtain ⟨ho, hl, w, hw, hb, hf⟩ := o
  refine ⟨ho, by simp [ageB, hl], w, hw, hb, fun i p hp => ?_⟩
  simp only [ageB, List.getElem?_map] at hp
  cases q : b.2[i]? with
  | none => rw [q] at hp; cases hp
  | some p' =>
    rw [q] at hp
    have := hf i p' q
    cases p' with
    | free => simp [ageK] at hp; subst hp; exact this
    | old => simp [ageK] at hp; subst hp; exact this
    | key j =>
      simp only [Option.map_some, ageK, Option.some.injEq] at hp
      have h3 : ¬ w ≤ i := fun z => by have := this.mp z; cases this
      refine ⟨fun z => absurd z h3, fun z => ?_⟩
      subst z
      split at hp <;> cases hp
theorem rm_age (k : Int) (b : Lf × List Pg) : rm (ageB k b) = rm b := by
  unfold rm ageB
  simp only [List.any_map]
  congr 1
  funext p
  cases p with
  | key j =>
    simp only [Function.comp, ageK]
    split <;> rfl
  | _ => rfl
theorem bk_fill {pages : Nat} {b : Lf × List Pg} (o : BkOk pages b) (r : rm b = true) {x : Pg} (hx : x ≠ .free) : BkOk pages (fillB b x) := by
  obtain ⟨w, hw, hb, e, hf, hset⟩ := rm_first o r
  obtain ⟨ho, hl, _⟩ := o
  refine ⟨ho, by simp [fillB, hset, hl], w + 1, by omega, fun z => absurd z hb, fun i p hp => ?_⟩
  simp only [fillB, hset] at hp
  by_cases hi : i = w
  · subst hi
    rw [List.getElem?_set_self (by omega)] at hp
    cases hp
    exact ⟨fun z => by omega, fun z => absurd z hx⟩
  · rw [List.getElem?_set_ne (fun z => hi z.symm)] at hp
    have := hf i p hp
    rw [← this]
    omega
theorem keys_bad (ps : List Pg) : keysOf (ps.map badP) = keysOf ps := by
  induction ps with
  | nil => rfl
  | cons p ps ih => cases p <;> simp [keysOf, badP, ih]
theorem keys_fill_old (ps : List Pg) : keysOf (fillP ps .old) = keysOf ps := by
  induction ps with
  | nil => rfl
  | cons p ps ih => cases p <;> simp [keysOf, fillP, ih]
theorem keys_fill_key (k : Int) : ∀ ps : List Pg, (∃ p ∈ ps, p = .free) → (keysOf (fillP ps (.key k))).Perm (k :: keysOf ps)
  | [], h => by obtain ⟨p, hp, _⟩ := h; cases hp
  | p :: ps, h => by
    cases p with
    | free => exact .refl _
    | old =>
      have := keys_fill_key k ps (by
        obtain ⟨q, hq, rfl⟩ := h
        rcases List.mem_cons.mp hq with hq | hq
        · cases hq
        · exact ⟨_, hq, rfl⟩)
      simpa [keysOf, fillP] using this
    | key j =>
      have := keys_fill_key k ps (by
        obtain ⟨q, hq, rfl⟩ := h
        rcases List.mem_cons.mp hq with hq | hq
        · cases hq
        · exact ⟨_, hq, rfl⟩)
      simp only [keysOf, fillP]
      exact (this.cons j).trans (.swap _ _ _)
theorem keys_age (k : Int) (ps : List Pg) : keysOf (ps.map (ageK k)) = (keysOf ps).filter fun j => !decide (j = k) := by
  induction ps with
  | nil => rfl
  | cons p ps ih =>
    cases p with
    | free => simpa [keysOf, ageK] using ih
    | old => simpa [keysOf, ageK] using ih
    | key j =>
      by_cases hj : j = k
      · simp [keysOf, ageK, hj, ih]
      · simp [keysOf, ageK, hj, ih]
theorem keys_rep {n : Nat} {x : Pg} (hx : x = .free ∨ x = .old) : keysOf (List.replicate n x) = [] := by
  induction n with
  | zero => rfl
  | succ n ih =>
    rw [List.replicate_succ]
    rcases hx with rfl | rfl <;> exact ih
theorem keys_none {ps : List Pg} (h : ps.all noKey = true) : keysOf ps = [] := by
  induction ps with
  | nil => rfl
  | cons p ps ih =>
    rw [List.all_cons, Bool.and_eq_true] at h
    cases p with
    | key k => cases h.1
    | _ => exact ih h.2
theorem all_set {bs : List (Lf × List Pg)} {i : Nat} {b c : Lf × List Pg} (hb : bs[i]? = some b) (hk : keysOf c.2 = keysOf b.2) : allKeys (bs.set i c) = allKeys bs := by
  unfold allKeys
  congr 1
  apply List.ext_getElem?
  intro j
  rw [List.getElem?_map, List.getElem?_map]
  by_cases hj : i = j
  · subst hj
    rw [List.getElem?_set_self (List.getElem?_eq_some_iff.mp hb).1, hb]
    simp [hk]
  · rw [List.getElem?_set_ne hj]
theorem all_set_key {k : Int} : ∀ {bs : List (Lf × List Pg)} {i : Nat} {b c : Lf × List Pg}, bs[i]? = some b → (keysOf c.2).Perm (k :: keysOf b.2) → (allKeys (bs.set i c)).Perm (k :: allKeys bs)
  | [], _, _, _, e, _ => by simp at e
  | x :: bs, 0, b, c, e, h => by
    simp at e
    subst e
    show (keysOf c.2 ++ allKeys bs).Perm (k :: (keysOf x.2 ++ allKeys bs))
    exact h.append_right _
  | x :: bs, i + 1, b, c, e, h => by
    have ih := all_set_key (bs := bs) (i := i) (b := b) (c := c) (by simpa using e) h
    show (keysOf x.2 ++ allKeys (bs.set i c)).Perm (k :: (keysOf x.2 ++ allKeys bs))
    exact (ih.append_left _).trans List.perm_middle
theorem all_age (k : Int) (bs : List (Lf × List Pg)) : allKeys (bs.map (ageB k)) = (allKeys bs).filter fun j => !decide (j = k) := by
  induction bs with
  | nil => rfl
  | cons b bs ih =>
    show keysOf (b.2.map (ageK k)) ++ allKeys (bs.map (ageB k)) = (keysOf b.2 ++ allKeys bs).filter _
    rw [List.filter_append, keys_age, ih]
theorem cp_keys {bs : List (Lf × List Pg)} {i : Nat} {b : Lf × List Pg} {pages : Nat} (k : Int) (hb : bs[i]? = some b) (o : BkOk pages b) (r : rm b = true) : (allKeys (cpB bs k i b)).Perm (k :: (allKeys bs).filter fun j => !decide (j = k)) := by
  have h1 : (bs.map (ageB k))[i]? = some (ageB k b) := by rw [List.getElem?_map, hb]; rfl
  have h2 := all_set_key (k := k) (c := fillB (ageB k b) (.key k)) h1 (keys_fill_key k _ (by
    have := rm_age k b
    rw [r] at this
    unfold rm at this
    obtain ⟨p, hp, hq⟩ := List.any_eq_true.mp this
    exact ⟨p, hp, by cases p <;> first | rfl | cases hq⟩))
  rw [all_age] at h2
  exact h2
theorem beh_ok {S : Sd} {pages : Nat} {a : Ac} {r : Rp} {b : Lf × List Pg} (o : SdOk S pages) (ha : AcOk S a b) (hr : RpOk S r) : SdOk (beh S a r b) pages := by
  have hbm : b ∈ S.blocks := List.mem_of_getElem? ha.at_
  have ob := o.bk b hbm
  obtain ⟨d, hd⟩ := ha.due
  have hdd := o.d d hd
  -- the blocks
  have main : (∀ c ∈ behB S a r b, BkOk pages c) ∧ (behB S a r b).length = S.blocks.length ∧ (allKeys (behB S a r b)).Nodup ∧ ∀ k ∈ allKeys (behB S a r b), 0 ≤ k ∧ k < S.keys := by
    have one : ∀ c, BkOk pages c → keysOf c.2 = keysOf b.2 → (∀ x ∈ S.blocks.set a.at c, BkOk pages x) ∧ (S.blocks.set a.at c).length = S.blocks.length ∧ (allKeys (S.blocks.set a.at c)).Nodup ∧ ∀ k ∈ allKeys (S.blocks.set a.at c), 0 ≤ k ∧ k < S.keys := by
      intro c hc hk
      refine ⟨fun x hx => ?_, List.length_set .., ?_, ?_⟩
      · rcases List.mem_or_eq_of_mem_set hx with hx | rfl
        · exact o.bk x hx
        · exact hc
      · rw [all_set ha.at_ hk]; exact o.nd
      · rw [all_set ha.at_ hk]; exact o.kr
    have two : ∀ (k : Int) (i : Nat), S.blocks[i]? = some b → rm b = true → (0 ≤ k ∧ k < S.keys) → (∀ x ∈ cpB S.blocks k i b, BkOk pages x) ∧ (cpB S.blocks k i b).length = S.blocks.length ∧ (allKeys (cpB S.blocks k i b)).Nodup ∧ ∀ j ∈ allKeys (cpB S.blocks k i b), 0 ≤ j ∧ j < S.keys := by
      intro k i hb hr hk
      have hp := cp_keys k hb ob hr
      refine ⟨fun x hx => ?_, by simp [cpB], ?_, fun j hj => ?_⟩
      · rcases List.mem_or_eq_of_mem_set hx with hx | rfl
        · obtain ⟨y, hy, rfl⟩ := List.mem_map.mp hx
          exact bk_age (o.bk y hy) k
        · exact bk_fill (bk_age ob k) (by rw [rm_age]; exact hr) (fun z => by cases z)
      · refine hp.nodup_iff.mpr (List.nodup_cons.mpr ⟨fun z => ?_, o.nd.filter _⟩)
        have := (List.mem_filter.mp z).2
        simp at this
      · rcases List.mem_cons.mp (hp.mem_iff.mp hj) with rfl | hj
        · exact hk
        · exact o.kr j (List.mem_filter.mp hj).1
    cases a with
    | er i =>
      have he := ha.era i rfl
      have hk : ∀ x, x = .free ∨ x = .old → keysOf (eraB b x).2 = keysOf b.2 := fun x hx => by
        rw [keys_none (er_left he).2.2]
        exact keys_rep hx
      cases r with
      | bad => exact one _ (bk_bad ob) (keys_bad _)
      | cut => exact one _ (bk_era ob he (.inr rfl)) (hk _ (.inr rfl))
      | done => exact one _ (bk_era ob he (.inl rfl)) (hk _ (.inl rfl))
      | late => exact one _ (bk_era ob he (.inl rfl)) (hk _ (.inl rfl))
    | wr i =>
      have hrm := ha.room fun j z => by cases z
      have h2 := two d i ha.at_ hrm hdd
      have e : S.due.getD 0 = d := by rw [hd]; rfl
      cases r with
      | bad => exact one _ (bk_bad ob) (keys_bad _)
      | cut => exact one _ (bk_fill ob hrm fun z => by cases z) (keys_fill_old _)
      | done => show (∀ c ∈ cpB S.blocks (S.due.getD 0) i b, BkOk pages c) ∧ _; rw [e]; simp only [behB, e]; exact h2
      | late => show (∀ c ∈ cpB S.blocks (S.due.getD 0) i b, BkOk pages c) ∧ _; rw [e]; simp only [behB, e]; exact h2
    | cp k i =>
      have hrm := ha.room fun j z => by cases z
      have h2 := two k i ha.at_ hrm (o.kr k (ha.key k i rfl))
      cases r with
      | bad => exact one _ (bk_bad ob) (keys_bad _)
      | cut => exact one _ (bk_fill ob hrm fun z => by cases z) (keys_fill_old _)
      | done => exact h2
      | late => exact h2
  obtain ⟨m1, m2, m3, m4⟩ := main
  have hf := o.f
  have hc := o.c
  cases r with
  | bad =>
    have hr' : 0 < S.fails := hr
    exact ⟨o.k1, o.k2, by show 1 ≤ (behB S a .bad b).length; rw [m2]; exact o.b1, by show (behB S a .bad b).length ≤ 9; rw [m2]; exact o.b2, o.p1, o.p2, m1, m3, m4, by show 0 ≤ S.fails - 1 ∧ S.fails - 1 ≤ 9; omega, hc, o.d⟩
  | done =>
    refine ⟨o.k1, o.k2, by show 1 ≤ (behB S a .done b).length; rw [m2]; exact o.b1, by show (behB S a .done b).length ≤ 9; rw [m2]; exact o.b2, o.p1, o.p2, m1, m3, m4, hf, hc, fun k hk => ?_⟩
    cases a with
    | wr i => cases hk
    | _ => exact o.d k hk
  | cut =>
    have hr' : 0 < S.cuts := hr
    exact ⟨o.k1, o.k2, by show 1 ≤ (behB S a .cut b).length; rw [m2]; exact o.b1, by show (behB S a .cut b).length ≤ 9; rw [m2]; exact o.b2, o.p1, o.p2, m1, m3, m4, hf, by show 0 ≤ S.cuts - 1 ∧ S.cuts - 1 ≤ 9; omega, fun k hk => by cases hk⟩
  | late =>
    have hr' : 0 < S.cuts := hr
    exact ⟨o.k1, o.k2, by show 1 ≤ (behB S a .late b).length; rw [m2]; exact o.b1, by show (behB S a .late b).length ≤ 9; rw [m2]; exact o.b2, o.p1, o.p2, m1, m3, m4, hf, by show 0 ≤ S.cuts - 1 ∧ S.cuts - 1 ≤ 9; omega, fun k hk => by cases hk⟩
end Sh.k07

set_option linter.all false
set_option maxRecDepth 100000
namespace Sh.k07
open PySem L2 PyProof.Rows Sh
theorem rooms_mem : ∀ {k i : Nat} {bs : List (Lf × List Pg)}, i ∈ roomsL k bs → ∃ j b, i = k + j ∧ bs[j]? = some b ∧ rm b = true
  | k, i, [], h => by cases h
  | k, i, b :: bs, h => by
    unfold roomsL at h
    split at h
    · rename_i hb
      rcases List.mem_cons.mp h with rfl | h
      · exact ⟨0, b, rfl, rfl, hb⟩
      · obtain ⟨j, c, h1, h2, h3⟩ := rooms_mem h
        exact ⟨j + 1, c, by omega, by simpa using h2, h3⟩
    · obtain ⟨j, c, h1, h2, h3⟩ := rooms_mem h
      exact ⟨j + 1, c, by omega, by simpa using h2, h3⟩
theorem ers_mem : ∀ {k : Nat} {bs : List (Lf × List Pg)} {d : D}, d ∈ ersL k bs → ∃ j b, d = erD (k + j) ∧ bs[j]? = some b ∧ er b = true
  | k, [], d, h => by cases h
  | k, b :: bs, d, h => by
    unfold ersL at h
    split at h
    · rename_i hb
      rcases List.mem_cons.mp h with rfl | h
      · exact ⟨0, b, rfl, rfl, hb⟩
      · obtain ⟨j, c, h1, h2, h3⟩ := ers_mem h
        exact ⟨j + 1, c, by rw [h1]; congr 1; omega, by simpa using h2, h3⟩
    · obtain ⟨j, c, h1, h2, h3⟩ := ers_mem h
      exact ⟨j + 1, c, by rw [h1]; congr 1; omega, by simpa using h2, h3⟩
theorem plF_mem' {L : List (Int × Nat × Nat)} {k : Int} {x : Nat × Nat} (h : plF L k = some x) : k ∈ L.map (·.1) := by
  unfold plF at h
  obtain ⟨t, h1, h2⟩ := Option.map_eq_some_iff.mp h
  have h3 := List.find?_some h1
  have h4 := List.mem_of_find?_eq_some h1
  exact List.mem_map.mpr ⟨t, h4, by simpa using h3⟩
theorem cps_mem (S : Sd) : ∀ {j k : Nat} {d : D}, d ∈ cpsL S j k → ∃ (key : Int) (b : Nat), d = cpD key b ∧ key ∈ allKeys S.blocks ∧ b ∈ roomsL 0 S.blocks
  | 0, k, d, h => by cases h
  | j + 1, k, d, h => by
    unfold cpsL at h
    rcases List.mem_append.mp h with h | h
    · cases hp : plF (plB 0 S.blocks) (k : Nat) with
      | none => rw [hp] at h; cases h
      | some x =>
        rw [hp] at h
        obtain ⟨b, hb, rfl⟩ := List.mem_map.mp (show d ∈ ((roomsL 0 S.blocks).filter _).map (cpD (k : Nat)) from h)
        refine ⟨(k : Nat), b, rfl, ?_, (List.mem_filter.mp hb).1⟩
        have := plF_mem' hp
        rw [plB_keys] at this
        exact this
    · exact cps_mem S h
theorem act_of {S : Sd} {d : D} (h : d ∈ actsD S) : ∃ a b, d = acD a ∧ AcOk S a b := by
  unfold actsD at h
  cases hd : S.due with
  | none => rw [hd] at h; cases h
  | some k =>
    rw [hd] at h
    rcases List.mem_append.mp h with h | h
    · rcases List.mem_append.mp h with h | h
      · obtain ⟨i, hi, rfl⟩ := List.mem_map.mp h
        obtain ⟨j, b, h1, h2, h3⟩ := rooms_mem hi
        rw [Nat.zero_add] at h1
        subst h1
        exact ⟨.wr i, b, rfl, h2, ⟨k, hd⟩, fun _ => h3, fun _ z => (by cases z), fun _ _ z => (by cases z)⟩
      · obtain ⟨key, i, rfl, h1, hi⟩ := cps_mem S h
        obtain ⟨j, b, h1', h2, h3⟩ := rooms_mem hi
        rw [Nat.zero_add] at h1'
        subst h1'
        exact ⟨.cp key i, b, rfl, h2, ⟨k, hd⟩, fun _ => h3, fun _ z => (by cases z), fun _ _ z => (by cases z; exact h1)⟩
    · obtain ⟨j, b, rfl, h2, h3⟩ := ers_mem h
      refine ⟨.er (0 + j), b, rfl, by rw [show (Ac.er (0 + j)).at = j from Nat.zero_add j]; exact h2, ⟨k, hd⟩, fun z => absurd rfl (z _), fun _ _ => h3, fun _ _ z => (by cases z)⟩
theorem list_of {P : Ac → Prop} : ∀ (l : List D), (∀ d ∈ l, ∃ a, d = acD a ∧ P a) → ∃ acs : List Ac, l = acs.map acD ∧ ∀ a ∈ acs, P a
  | [], _ => ⟨[], rfl, fun _ h => by cases h⟩
  | d :: l, h => by
    obtain ⟨a, rfl, ha⟩ := h d List.mem_cons_self
    obtain ⟨acs, h1, h2⟩ := list_of l fun x hx => h x (List.mem_cons_of_mem _ hx)
    exact ⟨a :: acs, by rw [h1]; rfl, fun x hx => by rcases List.mem_cons.mp hx with rfl | hx; exact ha; exact h2 x hx⟩
theorem acts_list (S : Sd) : ∃ acs : List Ac, actsD S = acs.map acD ∧ ∀ a ∈ acs, ∃ b, AcOk S a b :=
  list_of _ fun d hd => by
    obtain ⟨a, b, h1, h2⟩ := act_of hd
    exact ⟨a, h1, b, h2⟩
theorem ext_app {h h' : Hm} (hl : h.length ≤ h'.length) (k : ∀ m, m < h.length → h'[m]? = h[m]?) : h' = h ++ h'.drop h.length := by
  apply List.ext_getElem?
  intro m
  by_cases hm : m < h.length
  · rw [List.getElem?_append_left hm, k m hm]
  · rw [List.getElem?_append_right (by omega), List.getElem?_drop]
    congr 1
    omega
theorem NewL.app {r : RD} {h : Hm} {xs : List D} (x : NewL r h xs) : ∃ (n : Nat) (t : Hm), r = .ok (.ref n) (h ++ t) ∧ (h ++ t)[n]? = some (.lst xs) ∧ h.length ≤ n := by
  obtain ⟨n, h', h1, h2, h3, h4, h5⟩ := x.ex
  have e := ext_app h4 h5
  exact ⟨n, h'.drop h.length, by rw [← e]; exact h1, by rw [← e]; exact h2, h3⟩
theorem old {g t : Hm} {n : Nat} {o : O} (e : g[n]? = some o) : (g ++ t)[n]? = some o := by rw [List.getElem?_append_left (lt_of_get e)]; exact e
/-! is_act -/
def acP : Ac → PyData
  | .wr b => .tuple [.str "write", .int b] | .cp k b => .tuple [.str "copy", .int k, .int b] | .er b => .tuple [.str "erase", .int b]
theorem toPy_ac (n : Nat) (h : Hm) (a : Ac) : toPy (n + 1) h (acD a) = some (acP a) := by cases a <;> cases n <;> rfl
theorem mapO_acs (n : Nat) (h : Hm) : ∀ acs : List Ac, mapO (toPy (n + 1) h) (acs.map acD) = some (acs.map acP)
  | [] => rfl
  | a :: acs => by simp only [List.map_cons, mapO, toPy_ac, mapO_acs n h acs]
theorem toPy_acs {n : Nat} {h : Hm} {acs : List Ac} (e : h[n]? = some (.lst (acs.map acD))) : toPy 20 h (.ref n) = some (.list (acs.map acP)) := by
  show (match h[n]? with
    | some (.lst ds) => (mapO (toPy 19 h) ds).map PyData.list
    | some (.scr ds) => (mapO (toPy 19 h) ds).map PyData.list
    | _ => none) = _
  rw [e]
  dsimp only
  rw [mapO_acs]
  rfl
theorem lay_ac (a : Ac) : PyData.canLay0 (acP a) = true := by
  have h1 : PyData.canLay0 (.str "write") = true := by decide +kernel
  have h2 : PyData.canLay0 (.str "copy") = true := by decide +kernel
  have h3 : PyData.canLay0 (.str "erase") = true := by decide +kernel
  cases a with
  | wr b => show (PyData.canLay0 (.str "write") && (PyData.canLay0 (.int b) && true)) = true; rw [h1]; rfl
  | cp k b => show (PyData.canLay0 (.str "copy") && (PyData.canLay0 (.int k) && (PyData.canLay0 (.int b) && true))) = true; rw [h2]; rfl
  | er b => show (PyData.canLay0 (.str "erase") && (PyData.canLay0 (.int b) && true)) = true; rw [h3]; rfl
theorem dep_ac (a : Ac) : PyData.depth (acP a) = 1 := by cases a <;> rfl
theorem lay_acs : ∀ acs : List Ac, PyData.canLayAll0 (acs.map acP) = true
  | [] => rfl
  | a :: acs => by rw [List.map_cons, PyData.canLayAll0, lay_acs acs, lay_ac, Bool.and_true]
theorem dep_acs : ∀ acs : List Ac, PyData.depthAll (acs.map acP) ≤ 1
  | [] => by simp [PyData.depthAll]
  | a :: acs => by
    have := dep_acs acs
    rw [List.map_cons, PyData.depthAll, dep_ac]
    omega
theorem shaped_acs (acs : List Ac) : SeqAt.shaped (.list (acs.map acP)) = true := by
  have e1 : PyData.canLay0 (.list (acs.map acP)) = true := lay_acs acs
  have e2 : PyData.depth (.list (acs.map acP)) ≤ 64 := by
    show PyData.depthAll (acs.map acP) + 1 ≤ 64
    have := dep_acs acs
    omega
  simp only [SeqAt.shaped, e1, Bool.true_and, decide_eq_true_eq]
  exact e2
theorem shaped_ac (a : Ac) : SeqAt.shaped (acP a) = true := by
  simp only [SeqAt.shaped, lay_ac, dep_ac]
  decide
theorem eqv_ac (a : Ac) : PyData.eqv (acP a) (acP a) = true := by
  cases a <;> simp [acP, PyData.eqv, PyData.eqvAll]
theorem in_acs {n : Nat} {h : Hm} {acs : List Ac} {a : Ac} (e : h[n]? = some (.lst (acs.map acD))) (hm : a ∈ acs) : dIn (acD a) (.ref n) h = .ok (.bl true) h := by
  have h1 := toPy_ac 19 h a
  have h2 := toPy_acs e
  have h3 : SeqAt.shaped (acP a) = true ∧ SeqAt.shaped (.list (acs.map acP)) = true := ⟨shaped_ac a, shaped_acs acs⟩
  have e : inB h (acD a) (.ref n) = some true := by
    unfold inB
    simp only [h1, h2]
    rw [if_pos h3]
    congr 1
    exact List.any_eq_true.mpr ⟨acP a, List.mem_map_of_mem hm, eqv_ac a⟩
  simp only [dIn, e]
def acL : Ac → List D
  | .wr b => [.str "write", .int b] | .cp k b => [.str "copy", .int k, .int b] | .er b => [.str "erase", .int b]
theorem acD_eq (a : Ac) : acD a = .tup (acL a) := by cases a <;> rfl
theorem x_isact {n : Nat} {h : Hm} {acs : List Ac} {a : Ac} (e : h[n]? = some (.lst (acs.map acD))) (hm : a ∈ acs) : ∃ t, m_is_act [acD a, .ref n] h = .ok (.bl true) (h ++ t) := by
  obtain ⟨t2, r⟩ := elc_ok (fi := fiSeq (eVar 0)) (gt := tName 2) (ft := eC (.bl true)) (fe := eIsi "bool" (eVar 2)) (own := [2]) (s := [some (acD a), some (.ref n), none]) (h := h) (ck := none) (xs := acL a) (val := fun _ => .bl false) (tt := fun _ => true)
    (fi_tup (by simp only [x_var, List.getElem?_cons_zero, ofO_some, acD_eq])) (fun _ => rfl) (fun x hx u => by
      refine ⟨[some (acD a), some (.ref n), some x], [], rfl, rfl, fun _ => ?_⟩
      cases a <;> simp [acL] at hx <;> rcases hx with rfl | hx <;> first | (simp [kit_table]; done) | (rcases hx with rfl | rfl <;> simp [kit_table]) | (subst hx; simp [kit_table])) (by cases a <;> simp [acL])
  have er : ((acL a).filter fun _ => true).map (fun _ => D.bl false) = (List.replicate (acL a).length false).map D.bl := by
    rw [List.filter_eq_self.mpr (fun _ _ => rfl), List.map_replicate]
    exact List.map_const' ..
  rw [er] at r
  have eq : bAny [.ref h.length] (h ++ .lst ((List.replicate (acL a).length false).map D.bl) :: t2) = .ok (.bl false) (h ++ .lst ((List.replicate (acL a).length false).map D.bl) :: t2) := by
    refine (quant_ok (g := fun bs => bs.any id) (bs := List.replicate (acL a).length false) (by simp)).trans ?_
    cases a <;> rfl
  refine ⟨.lst ((List.replicate (acL a).length false).map D.bl) :: t2, ?_⟩
  rw [m_is_act, x_run]
  show ((gRet _) [some (acD a), some (.ref n), none] h).out = _
  simp only [x_ret, x_and, x_bin, x_var, List.getElem?_cons_zero, List.getElem?_cons_succ, ofO_some, RD.bind_ok, in_acs e hm, tb_ok, if_true, x_not, x_args, evR_cons, evR_nil, r, eq, RD.st_ok, out_rt, Bool.not_false]
/-! replies -/
def repsD (f c : Int) : List D := [.str "done"] ++ ((if 0 < f then [.str "bad"] else []) ++ if 0 < c then [.str "cut", .str "late"] else [])
theorem x_letrep (f c : Int) (h : Hm) : ∃ t, m_let_replies [.int f, .int c] h = .ok (.ref h.length) (h ++ .lst (repsD f c) :: t) := by
  have key : OK (m_let_replies [.int f, .int c] h) fun d h' => d = .ref h.length ∧ ∃ t, h' = h ++ .lst (repsD f c) :: t := by
    refine ok_run ?_
    show NX (g_let_replies [some (.int f), some (.int c), none] h) _ _
    unfold g_let_replies
    refine nx_seq (nx_set ?_)
    simp -implicitDefEqProofs only [ok_ok, ok_bind, ok_tb, bl_bl, x_bin, x_args, evR_cons, evR_nil, x_var, x_c, ofO_some, x_and, x_or, x_not, x_eif, x_chain, x_lst, x_tup, x_isi, List.getElem?_cons_zero, List.getElem?_cons_succ, List.set_cons_zero, List.set_cons_succ, o_cmp, o_sub, o_add, o_int, o_is_n, o_is_b, o_isN_n, o_isN_b, q_int, nq_int]
    refine nx_seq (NX.mono (N := fun s h1 => s = [some (.int f), some (.int c), some (.ref h.length)] ∧ h1 = h ++ [.lst ([.str "done"] ++ if 0 < f then [.str "bad"] else [])]) (T := fun _ _ => False) ?_ ?_ (fun _ _ z => False.elim z))
    · refine nx_ifP (p := 0 < f) (h1 := h ++ [.lst [.str "done"]]) (by simp) (fun hf => ?_) (fun hf => ?_)
      · refine nx_drop (OK.of (app_last rfl rfl (by simp)) ?_)
        simp [hf]
      · refine nx_next ?_
        simp [hf]
    · rintro _ _ ⟨rfl, rfl⟩
      generalize hX : ([D.str "done"] ++ if 0 < f then [D.str "bad"] else []) = X
      have hXl : X.length ≤ 2 := by rw [← hX]; split <;> simp
      refine nx_seq (NX.mono (N := fun s h1 => s[2]? = some (some (.ref h.length)) ∧ ∃ t, h1 = h ++ .lst (repsD f c) :: t) (T := fun _ _ => False) ?_ ?_ (fun _ _ z => False.elim z))
      · refine nx_ifP (p := 0 < c) (h1 := h ++ [.lst X]) (by simp) (fun hc => ?_) (fun hc => ?_)
        · refine nx_drop ?_
          have e1 : (h ++ [O.lst X] ++ [O.lst [.str "cut", .str "late"]])[h.length]? = some (.lst X) := by simp
          have e2 : (h ++ [O.lst X] ++ [O.lst [.str "cut", .str "late"]])[(h ++ [O.lst X]).length]? = some (.lst [.str "cut", .str "late"]) := by simp
          have e0 : (h ++ [O.lst X])[h.length]? = some (.lst X) := by simp
          have hb : X.length + 2 ≤ big := by show X.length + 2 ≤ 1000000; omega
          refine OK.of (d := .non) (h := h ++ .lst (X ++ [.str "cut", .str "late"]) :: [.lst [.str "cut", .str "late"]]) ?_ ⟨rfl, [.lst [.str "cut", .str "late"]], ?_⟩
          · simp only [x_lm, x_var, List.getElem?_cons_zero, List.getElem?_cons_succ, ofO_some, RD.bind_ok, lmB_ref (gl := lExtend) e0, evR_cons, evR_nil, x_lst, x_c, lmC_ok (gl := lExtend) e1, lExtend, e2]
            rw [if_pos (by simpa using hb)]
            simp
          · rw [← hX]
            simp [repsD, hc]
        · refine nx_next ⟨rfl, [], ?_⟩
          rw [← hX]
          simp [repsD, hc]
      · rintro s h1 ⟨e, t, rfl⟩
        refine nx_ret ?_
        rw [x_var, e, ofO_some, ok_ok]
        exact ⟨rfl, t, rfl⟩
  obtain ⟨d, h', e, rfl, t, rfl⟩ := key.get
  exact ⟨t, e⟩
theorem x_fails {S : Sd} {h : Hm} {p : Nat} (hp : h[p]? = some (stO S)) : m_Stand_fails [.ref p] h = .ok (.int S.fails) h := by
  rw [m_Stand_fails, x_run]
  show ((gRet _) [some (.ref p)] h).out = _
  have j : dIx S.enc (.int 2) h = .ok (.int S.fails) h := ix_tup (k := 2) rfl
  have f : eFld "Stand" "_shape" (eVar 0) [some (D.ref p)] h = .ok S.enc h := fld_ok rfl hp
  simp only [x_ret, x_bin, f, RD.bind_ok, x_c, j, RD.st_ok, out_rt]
theorem x_cuts {S : Sd} {h : Hm} {p : Nat} (hp : h[p]? = some (stO S)) : m_Stand_cuts [.ref p] h = .ok (.int S.cuts) h := by
  rw [m_Stand_cuts, x_run]
  show ((gRet _) [some (.ref p)] h).out = _
  have j : dIx S.enc (.int 3) h = .ok (.int S.cuts) h := ix_tup (k := 3) rfl
  have f : eFld "Stand" "_shape" (eVar 0) [some (D.ref p)] h = .ok S.enc h := fld_ok rfl hp
  simp only [x_ret, x_bin, f, RD.bind_ok, x_c, j, RD.st_ok, out_rt]
theorem x_replies {S : Sd} {pages : Nat} (o : SdOk S pages) {h : Hm} {p : Nat} (hp : h[p]? = some (stO S)) {acs : List Ac} (hacs : actsD S = acs.map acD) {a : Ac} (hm : a ∈ acs) : ∃ n t, m_Stand_replies [.ref p, acD a] h = .ok (.ref n) (h ++ t) ∧ (h ++ t)[n]? = some (.lst (repsD S.fails S.cuts)) ∧ h.length ≤ n := by
  obtain ⟨n, t, e1, e2, e3⟩ := (x_acts o hp).app
  rw [hacs] at e2
  obtain ⟨t2, e4⟩ := x_isact e2 hm
  obtain ⟨t3, e5⟩ := x_letrep S.fails S.cuts (h ++ t ++ t2)
  have hp2 : (h ++ t ++ t2)[p]? = some (stO S) := old (old hp)
  have m1 : eMeth "Stand" "acts" m_Stand_acts (eVar 0) [] [some (D.ref p), some (acD a)] h = .ok (.ref n) (h ++ t) := by
    rw [meth_okv rfl hp (by decide), evR_nil, e1]
  have m2 : eMeth "Stand" "fails" m_Stand_fails (eVar 0) [] [some (D.ref p), some (acD a)] (h ++ t ++ t2) = .ok (.int S.fails) (h ++ t ++ t2) := by
    rw [meth_okv rfl hp2 (by decide), evR_nil, x_fails hp2]
  have m3 : eMeth "Stand" "cuts" m_Stand_cuts (eVar 0) [] [some (D.ref p), some (acD a)] (h ++ t ++ t2) = .ok (.int S.cuts) (h ++ t ++ t2) := by
    rw [meth_okv rfl hp2 (by decide), evR_nil, x_cuts hp2]
  refine ⟨(h ++ t ++ t2).length, t ++ t2 ++ .lst (repsD S.fails S.cuts) :: t3, ?_, by simp, by simp⟩
  rw [m_Stand_replies, x_run]
  show ((gSeq _ _) [some (.ref p), some (acD a)] h).out = _
  simp only [x_seq, x_if, x_not, x_args, evR_cons, evR_nil, x_var, List.getElem?_cons_zero, List.getElem?_cons_succ, ofO_some, RD.bind_ok, m1, e4, tb_ok, tst_ok, Bool.not_true]
  rw [if_neg (by decide)]
  simp only [x_next, seq_nx, x_ret, x_args, evR_cons, evR_nil, m2, m3, RD.bind_ok, e5, RD.st_ok, out_rt]
  simp
def letF (bf bc : Bool) : Rp → Bool
  | .done => true
  | .bad => bf
  | _ => bc
def letB (S : Sd) (r : Rp) : Bool := letF (decide (0 < S.fails)) (decide (0 < S.cuts)) r
def repsP (bf bc : Bool) : List PyData := [.str "done"] ++ ((if bf = true then [.str "bad"] else []) ++ if bc = true then [.str "cut", .str "late"] else [])
theorem reps_dec : ∀ (bf bc : Bool) (r : Rp), SeqAt.shaped (.str r.s) = true ∧ SeqAt.shaped (.list (repsP bf bc)) = true ∧ ((repsP bf bc).any fun z => PyData.eqv z (.str r.s)) = letF bf bc r := by
  intro bf bc r
  cases bf <;> cases bc <;> cases r <;> decide +kernel
theorem notin_reps {f c : Int} {r : Rp} {n : Nat} {h : Hm} (e : h[n]? = some (.lst (repsD f c))) : dNotIn (.str r.s) (.ref n) h = .ok (.bl (!(letF (decide (0 < f)) (decide (0 < c)) r))) h := by
  have g : ∀ (k : Nat) (h : Hm) (x : Str), toPy k h (.str x) = some (.str x) := fun k h x => by cases k <;> rfl
  have h1 : toPy 20 h (.str r.s) = some (.str r.s) := g _ _ _
  have h2 : toPy 20 h (.ref n) = some (.list (repsP (decide (0 < f)) (decide (0 < c)))) := by
    show (match h[n]? with
      | some (.lst ds) => (mapO (toPy 19 h) ds).map PyData.list
      | some (.scr ds) => (mapO (toPy 19 h) ds).map PyData.list
      | _ => none) = _
    rw [e]
    dsimp only
    unfold repsD repsP
    by_cases hf : 0 < f <;> by_cases hc : 0 < c <;> simp [hf, hc, mapO, g]
  obtain ⟨d1, d2, d3⟩ := reps_dec (decide (0 < f)) (decide (0 < c)) r
  have inb : inB h (.str r.s) (.ref n) = some (letF (decide (0 < f)) (decide (0 < c)) r) := by
    unfold inB
    simp only [h1, h2]
    rw [if_pos ⟨d1, d2⟩, d3]
  simp only [dNotIn, inb]
end Sh.k07

set_option linter.all false
set_option maxRecDepth 100000
namespace Sh.k07
open PySem L2 PyProof.Rows Sh
theorem rs_eq (r q : Rp) : decide (r.s = q.s) = decide (r = q) := by cases r <;> cases q <;> decide +kernel
theorem rp_test {s : DS} {h : Hm} {i : Nat} {r : Rp} (q : Rp) (hs : s[i]? = some (some (.str r.s))) : eBin dEq (eVar i) (eC (.str q.s)) s h = .ok (.bl (decide (r = q))) h := by
  simp only [x_bin, x_var, x_c, hs, ofO_some, RD.bind_ok, q_str, rs_eq]
theorem eq_key {p : Pg} {k : Int} {h : Hm} : dEq (pD p) (.int k) h = .ok (.bl (decide (p = .key k))) h := by cases p <;> simp [pD]
theorem of_ok {r : RD} {h : Hm} {v : D} (x : OK r fun d h' => d = v ∧ ∃ t, h' = h ++ t) : ∃ t, r = .ok v (h ++ t) := by
  obtain ⟨d, h', e, rfl, t, rfl⟩ := x.get
  exact ⟨t, e⟩
theorem elc_map {fi : FI} {gt : GT} {ck : Option (Nat × List D)} {s : DS} {h : Hm} {ft fe : FE} {own : List Nat} {val : D → D} {xs : List D} (ef : fi s h = .ok xs ck h) (hck : ∀ u : Hm, chkB ck (h ++ u) = true)
    (k : ∀ x ∈ xs, ∀ u : Hm, ∃ (s1 : DS) (t' : Hm), gt x (wipeD s own) (h ++ u) = .nx s1 (h ++ u) ∧ ft s1 (h ++ u) = .ok (.bl true) (h ++ u) ∧ fe s1 (h ++ u) = .ok (val x) (h ++ u ++ t')) (hl : xs.length < 1000000) :
    ∃ t2, eLc fi gt ft fe own s h = .ok (.ref h.length) (h ++ .lst (xs.map val) :: t2) := by
  obtain ⟨t2, r⟩ := elc_ok (val := val) (tt := fun _ => true) ef hck (fun x hx u => by
    obtain ⟨s1, t', e1, e2, e3⟩ := k x hx u
    exact ⟨s1, t', e1, e2, fun _ => e3⟩) hl
  exact ⟨t2, by rw [r, List.filter_eq_self.mpr (fun _ _ => rfl)]⟩
theorem tup_last {h t : Hm} {xs : List D} : bTuple [.ref h.length] (h ++ .lst xs :: t) = .ok (.tup xs) (h ++ .lst xs :: t) := tup_ref (by simp)
theorem set_cutD {α : Type} (l : List α) (b : Nat) (y : α) (hb : b < l.length) : l.take b ++ [y] ++ l.drop (b + 1) = l.set b y := by
  rw [List.set_eq_take_append_cons_drop, if_pos hb, List.append_assoc]
  rfl
theorem slT_to {h : Hm} {k : Nat} {xs : List D} : dSl (.tup xs) none (some (k : Int)) h = .ok (.tup (xs.take k)) h := by
  rw [dSl_tup, ← List.take_eq_take_min]
theorem slT_from {h : Hm} {k : Nat} {i : Int} {xs : List D} (hi : i = (k : Int)) : dSl (.tup xs) (some i) none h = .ok (.tup (xs.drop k)) h := by
  subst hi
  simp only [dSl, cutD, HT.sIx_none, HT.sIx_nat]
  by_cases hk : k ≤ xs.length
  · rw [Nat.min_eq_left hk, List.take_of_length_le (by rw [List.length_drop]; exact Nat.le_refl _)]
  · rw [Nat.min_eq_right (by omega), List.drop_of_length_le (Nat.le_refl _), List.drop_of_length_le (by omega)]
    simp
theorem addT {h : Hm} {xs ys : List D} (hl : xs.length + ys.length ≤ 1000000) : dAdd (.tup xs) (.tup ys) h = .ok (.tup (xs ++ ys)) h := by
  have : xs.length + ys.length ≤ big := hl
  simp only [dAdd, this, if_true]
theorem x_slT {s : DS} {h : Hm} {fa fb : FE} : eSl fa none (some fb) s h = (fa s h).bind fun x h1 => (fb s h1).bind fun d h2 => match d with
  | .int i => dSl x none (some i) h2
  | _ => .bad := by rfl
theorem x_slF {s : DS} {h : Hm} {fa fb : FE} : eSl fa (some fb) none s h = (fa s h).bind fun x h1 => (fb s h1).bind fun d h2 => match d with
  | .int i => dSl x (some i) none h2
  | _ => .bad := by rfl
theorem nxi {s : DS} {h : Hm} {N : DS → Hm → Prop} {T : D → Hm → Prop} (x : N s h) : NX (.nx s h) N T := nx_next (s := s) (h := h) x
theorem x_gonebad (b : Lf × List Pg) (hl : b.2.length ≤ 6) (h : Hm) : ∃ t, m_gone_bad [bD b] h = .ok (bD (badB b)) (h ++ t) := by
  have j : ∀ h : Hm, dIx (bD b) (.int 1) h = .ok (.tup (b.2.map pD)) h := fun h => ix_tup (k := 1) rfl
  obtain ⟨t2, r⟩ := elc_map (fi := fiSeq (eBin dIx (eVar 0) (eC (.int 1)))) (gt := tName 1) (ft := eC (.bl true)) (fe := eIf (eBin dEq (eVar 1) (eC (.str "free"))) (eC (.str "old")) (eVar 1)) (own := [1]) (s := [some (bD b), none]) (h := h) (ck := none) (xs := b.2.map pD) (val := fun x => if eqF x (.str "free") = true then .str "old" else x)
    (fi_tup (by simp only [x_bin, x_var, x_c, List.getElem?_cons_zero, ofO_some, RD.bind_ok, j])) (fun _ => rfl) (fun x hx u => by
      obtain ⟨p, hp, rfl⟩ := List.mem_map.mp hx
      refine ⟨[some (bD b), some (pD p)], [], rfl, rfl, ?_⟩
      rw [List.append_nil, eqF_free]
      simp only [x_eif, x_bin, x_var, x_c, List.getElem?_cons_zero, List.getElem?_cons_succ, ofO_some, RD.bind_ok, eq_free, tb_ok]
      cases isFree p <;> rfl) (by simp; omega)
  have em : (b.2.map pD).map (fun x => if eqF x (.str "free") = true then D.str "old" else x) = (b.2.map badP).map pD := by
    rw [List.map_map, List.map_map]
    apply List.map_congr_left
    intro p _
    simp only [Function.comp, eqF_free]
    cases p <;> rfl
  rw [em] at r
  refine ⟨.lst ((b.2.map badP).map pD) :: t2, ?_⟩
  rw [m_gone_bad, x_run]
  show ((gRet _) [some (bD b), none] h).out = _
  simp only [x_ret, x_tup, evR_cons, evR_nil, x_c, RD.bind_ok, x_args, r, tup_last, RD.st_ok, out_rt]
  rfl
theorem x_filled {pages : Nat} {b : Lf × List Pg} (o : BkOk pages b) (p6 : pages ≤ 6) (r : rm b = true) (x : Pg) (h : Hm) : m_filled [bD b, pD x] h = .ok (bD (fillB b x)) h := by
  obtain ⟨w, hw, _, e, hf, hset⟩ := rm_first o r
  have hl : b.2.length = pages := o.2.1
  have asg : gAsg (eVar 0) (tTup [tName 2, tName 3]) [some (bD b), some (pD x), none, none, none] h = .nx [some (bD b), some (pD x), some (lD b.1), some (.tup (b.2.map pD)), none] h := rfl
  have fx : (b.2.map pD).findIdx? (fun z => eqF z (.str "free")) = some w := by
    rw [List.findIdx?_eq_some_iff_getElem]
    have hwl : w < (b.2.map pD).length := by rw [List.length_map]; omega
    refine ⟨hwl, ?_, fun j hj => ?_⟩
    · obtain ⟨h1, h2⟩ := List.getElem?_eq_some_iff.mp e
      simp only [List.getElem_map, h2]
      rfl
    · have hjl : j < b.2.length := by omega
      have := hf j b.2[j] (List.getElem?_eq_getElem hjl)
      simp only [List.getElem_map, eqF_free]
      cases q : b.2[j] with
      | free =>
        have := this.mpr q
        omega
      | _ => simp [isFree]
  have tm : eTm tIndex (eVar 3) [eC (.str "free")] [some (bD b), some (pD x), some (lD b.1), some (.tup (b.2.map pD)), none] h = .ok (.int (w : Int)) h := by
    have fl : flatD (.str "free") = true ∧ (b.2.map pD).all flatD = true := ⟨rfl, pD_flat b.2⟩
    have e : tIndex (b.2.map pD) [.str "free"] h = .ok (.int (w : Int)) h := by
      simp only [tIndex]
      rw [if_pos fl, fx]
    rw [← e]
    rfl
  rw [m_filled, x_run]
  show ((gSeq _ _) [some (bD b), some (pD x), none, none, none] h).out = _
  rw [x_seq, asg, seq_nx, x_seq, x_set, tm, RD.st_ok, seq_nx]
  have hlm : (b.2.map pD).length = pages := by rw [List.length_map, hl]
  have a1 : dAdd (.tup ((b.2.map pD).take w)) (.tup [pD x]) h = .ok (.tup ((b.2.map pD).take w ++ [pD x])) h := addT (by rw [List.length_take, hlm]; simp; omega)
  have a2 : dAdd (.tup ((b.2.map pD).take w ++ [pD x])) (.tup ((b.2.map pD).drop (w + 1))) h = .ok (.tup ((b.2.map pD).take w ++ [pD x] ++ (b.2.map pD).drop (w + 1))) h := addT (by rw [List.length_append, List.length_take, List.length_drop, hlm]; simp; omega)
  have s2 : dSl (.tup (b.2.map pD)) (some ((w : Int) + 1)) none h = .ok (.tup ((b.2.map pD).drop (w + 1))) h := slT_from (by omega)
  simp only [x_ret, x_tup, evR_cons, evR_nil, x_bin, x_slT, x_slF, x_var, x_c, List.set_cons_zero, List.set_cons_succ, List.getElem?_cons_zero, List.getElem?_cons_succ, ofO_some, RD.bind_ok, slT_to, o_add, s2, a1, a2, RD.st_ok, out_rt]
  rw [set_cutD _ _ _ (by rw [hlm]; exact hw)]
  simp only [bD, fillB, hset, List.map_set]
theorem x_erased {pages : Nat} {b : Lf × List Pg} (o : BkOk pages b) (p1 : 1 ≤ pages) (p6 : pages ≤ 6) (hb : b.1 ≠ .bad) (x : Pg) (h : Hm) : m_erased [bD b, pD x] h = .ok (bD (eraB b x)) h := by
  have hl : b.2.length = pages := o.2.1
  have asg : gAsg (eVar 0) (tTup [tName 2, tName 3]) [some (bD b), some (pD x), none, none] h = .nx [some (bD b), some (pD x), some (lD b.1), some (.tup (b.2.map pD))] h := rfl
  have ml : dMulT (.tup [pD x]) (.int ((b.2.map pD).length : Int)) h = .ok (.tup (List.replicate b.2.length (pD x))) h := by
    have c : [pD x] ≠ [] ∧ (1 : Int) ≤ ((b.2.map pD).length : Int) ∧ ((b.2.map pD).length : Int) ≤ 1000 ∧ [pD x].length ≤ 1000 := ⟨by simp, by rw [List.length_map]; omega, by rw [List.length_map]; omega, by simp⟩
    simp only [dMulT]
    rw [if_pos c, Int.toNat_natCast, flat_rep, List.length_map]
  have lf : (eIf (eBin dEq (eVar 2) (eC (.str "ever"))) (eVar 2) (eBin dSub (eVar 2) (eC (.int 1)))) [some (bD b), some (pD x), some (lD b.1), some (.tup (b.2.map pD))] h = .ok (lD (wear b.1)) h := by
    simp only [x_eif, x_bin, x_var, x_c, List.getElem?_cons_zero, List.getElem?_cons_succ, ofO_some, RD.bind_ok]
    cases hb1 : b.1 with
    | bad => exact absurd hb1 hb
    | ever => simp [lD, wear]
    | num n => simp [lD, wear]
  rw [m_erased, x_run]
  show ((gSeq _ _) [some (bD b), some (pD x), none, none] h).out = _
  rw [x_seq, asg, seq_nx, x_ret, x_tup, evR_cons, lf]
  simp only [RD.bind_ok, evR_cons, evR_nil, x_bin, x_tup, x_args, x_var, x_c, List.getElem?_cons_zero, List.getElem?_cons_succ, ofO_some, o_len_t, ml, RD.st_ok, out_rt]
  simp only [bD, eraB, List.map_replicate]
theorem x_withblock {bs : List (Lf × List Pg)} {i : Nat} {c : Lf × List Pg} (hi : i < bs.length) (hl : bs.length ≤ 9) (h : Hm) : m_with_block [.tup (bs.map bD), .int (i : Int), bD c] h = .ok (.tup ((bs.set i c).map bD)) h := by
  have hlm : (bs.map bD).length = bs.length := List.length_map ..
  have a1 : dAdd (.tup ((bs.map bD).take i)) (.tup [bD c]) h = .ok (.tup ((bs.map bD).take i ++ [bD c])) h := addT (by rw [List.length_take, hlm]; simp; omega)
  have a2 : dAdd (.tup ((bs.map bD).take i ++ [bD c])) (.tup ((bs.map bD).drop (i + 1))) h = .ok (.tup ((bs.map bD).take i ++ [bD c] ++ (bs.map bD).drop (i + 1))) h := addT (by rw [List.length_append, List.length_take, List.length_drop, hlm]; simp; omega)
  have s2 : dSl (.tup (bs.map bD)) (some ((i : Int) + 1)) none h = .ok (.tup ((bs.map bD).drop (i + 1))) h := slT_from (by omega)
  rw [m_with_block, x_run]
  show ((gRet _) [some (.tup (bs.map bD)), some (.int (i : Int)), some (bD c)] h).out = _
  simp only [x_ret, x_tup, evR_cons, evR_nil, x_bin, x_slT, x_slF, x_var, x_c, List.getElem?_cons_zero, List.getElem?_cons_succ, ofO_some, RD.bind_ok, slT_to, o_add, s2, a1, a2, RD.st_ok, out_rt]
  rw [set_cutD _ _ _ (by rw [hlm]; exact hi), List.map_set]
theorem aged_ok {s : DS} {h : Hm} {ps : List Pg} {k : Int} {it sl : FE} {v : Nat} (hl : ps.length ≤ 6) (hi : it s h = .ok (.tup (ps.map pD)) h) (hk : ∀ (d : D) (u : Hm), sl ((wipeD s [v]).set v (some d)) (h ++ u) = .ok (.int k) (h ++ u)) (hv : v < s.length) :
    ∃ t2, eLc (fiSeq it) (tName v) (eC (.bl true)) (eIf (eBin dEq (eVar v) sl) (eC (.str "old")) (eVar v)) [v] s h = .ok (.ref h.length) (h ++ .lst ((ps.map (ageK k)).map pD) :: t2) := by
  obtain ⟨t2, r⟩ := elc_map (fi := fiSeq it) (gt := tName v) (ft := eC (.bl true)) (fe := eIf (eBin dEq (eVar v) sl) (eC (.str "old")) (eVar v)) (own := [v]) (s := s) (h := h) (ck := none) (xs := ps.map pD) (val := fun x => if x = .int k then .str "old" else x)
    (fi_tup hi) (fun _ => rfl) (fun x hx u => by
      obtain ⟨p, hp, rfl⟩ := List.mem_map.mp hx
      refine ⟨(wipeD s [v]).set v (some (pD p)), [], rfl, rfl, ?_⟩
      have hg : ((wipeD s [v]).set v (some (pD p)))[v]? = some (some (pD p)) := List.getElem?_set_self (by simpa [wipeD] using hv)
      rw [List.append_nil]
      simp only [x_eif, x_bin, x_var, x_c, hg, hk, ofO_some, RD.bind_ok, eq_key, tb_ok]
      cases p with
      | key j => by_cases hj : j = k <;> simp [pD, hj]
      | free => simp [pD]
      | old => simp [pD]) (by simp; omega)
  refine ⟨t2, ?_⟩
  rw [r]
  congr 4
  rw [List.map_map, List.map_map]
  apply List.map_congr_left
  intro p _
  cases p with
  | key j => by_cases hj : j = k <;> simp [pD, ageK, hj]
  | free => simp [pD, ageK]
  | old => simp [pD, ageK]
def ageD (k : Int) : D → D
  | .tup [l, .tup ps] => .tup [l, .tup (ps.map fun x => if x = .int k then .str "old" else x)]
  | d => d
theorem ageD_bD (k : Int) (c : Lf × List Pg) : ageD k (bD c) = bD (ageB k c) := by
  show D.tup [lD c.1, .tup ((c.2.map pD).map fun x => if x = .int k then .str "old" else x)] = D.tup [lD c.1, .tup ((c.2.map (ageK k)).map pD)]
  congr 4
  rw [List.map_map, List.map_map]
  apply List.map_congr_left
  intro p _
  cases p with
  | key j => by_cases hj : j = k <;> simp [pD, ageK, hj]
  | free => simp [pD, ageK]
  | old => simp [pD, ageK]
theorem ageD_all (k : Int) (bs : List (Lf × List Pg)) : (bs.map bD).map (ageD k) = (bs.map (ageB k)).map bD := by
  rw [List.map_map, List.map_map]
  exact List.map_congr_left fun c _ => ageD_bD k c
theorem x_withcopy {bs : List (Lf × List Pg)} {i pages : Nat} {b : Lf × List Pg} {k : Int} (hb : bs[i]? = some b) (hl : bs.length ≤ 9) (ok : ∀ c ∈ bs, BkOk pages c) (p6 : pages ≤ 6) (r : rm b = true) (h : Hm) :
    ∃ t, m_with_copy [.tup (bs.map bD), .int k, .int (i : Int)] h = .ok (.tup ((cpB bs k i b).map bD)) (h ++ t) := by
  have hi := (List.getElem?_eq_some_iff.mp hb).1
  obtain ⟨t2, e1⟩ := elc_map (fi := fiSeq (eVar 0)) (gt := tTup [tName 4, tName 5]) (ft := eC (.bl true)) (fe := eTup [(eVar 4), (eArgs bTuple [(eLc (fiSeq (eVar 5)) (tName 6) (eC (.bl true)) (eIf (eBin dEq (eVar 6) (eVar 1)) (eC (.str "old")) (eVar 6)) [6])])]) (own := [4, 5])
    (s := [some (.tup (bs.map bD)), some (.int k), some (.int (i : Int)), none, none, none, none]) (h := h) (ck := none) (xs := bs.map bD) (val := ageD k)
    (fi_tup rfl) (fun _ => rfl) (fun x hx u => by
      obtain ⟨c, hc, rfl⟩ := List.mem_map.mp hx
      have oc := ok c hc
      obtain ⟨t3, e3⟩ := aged_ok (s := [some (.tup (bs.map bD)), some (.int k), some (.int (i : Int)), none, some (lD c.1), some (.tup (c.2.map pD)), none]) (h := h ++ u) (ps := c.2) (k := k) (it := eVar 5) (sl := eVar 1) (v := 6) (by rw [oc.2.1]; exact p6) rfl (fun _ _ => rfl) (by simp)
      refine ⟨[some (.tup (bs.map bD)), some (.int k), some (.int (i : Int)), none, some (lD c.1), some (.tup (c.2.map pD)), none], .lst ((c.2.map (ageK k)).map pD) :: t3, rfl, rfl, ?_⟩
      rw [ageD_bD]
      simp only [x_tup, evR_cons, evR_nil, x_var, List.getElem?_cons_zero, List.getElem?_cons_succ, ofO_some, RD.bind_ok, x_args, e3, tup_last]
      rfl) (by simp; omega)
  rw [ageD_all] at e1
  have hb2 : (bs.map (ageB k))[i]? = some (ageB k b) := by rw [List.getElem?_map, hb]; rfl
  have ob := bk_age (ok b (List.mem_of_getElem? hb)) k
  have ef := x_filled ob p6 (by rw [rm_age]; exact r) (.key k) (h ++ .lst ((bs.map (ageB k)).map bD) :: t2)
  have er : (h ++ O.lst ((bs.map (ageB k)).map bD) :: t2)[h.length]? = some (.lst ((bs.map (ageB k)).map bD)) := by simp
  have ei : dIx (.ref h.length) (.int (i : Int)) (h ++ O.lst ((bs.map (ageB k)).map bD) :: t2) = .ok (bD (ageB k b)) (h ++ O.lst ((bs.map (ageB k)).map bD) :: t2) := ix_ref er (by rw [List.getElem?_map, hb2]; rfl)
  refine of_ok (ok_run ?_)
  show NX (g_with_copy [some (.tup (bs.map bD)), some (.int k), some (.int (i : Int)), none, none, none, none] h) _ _
  unfold g_with_copy
  refine nx_seq (nx_set ?_)
  simp -implicitDefEqProofs only [ok_ok, ok_bind, ok_tb, bl_bl, x_bin, x_args, evR_cons, evR_nil, x_var, x_c, ofO_some, x_and, x_or, x_not, x_eif, x_chain, x_lst, x_tup, x_isi, List.getElem?_cons_zero, List.getElem?_cons_succ, List.set_cons_zero, List.set_cons_succ, o_cmp, o_sub, o_add, o_int, o_is_n, o_is_b, o_isN_n, o_isN_b, q_int, nq_int, e1]
  refine nx_seq (nx_lput ?_)
  have ef' : m_filled [bD (ageB k b), .int k] (h ++ O.lst ((bs.map (ageB k)).map bD) :: t2) = .ok (bD (fillB (ageB k b) (.key k))) (h ++ O.lst ((bs.map (ageB k)).map bD) :: t2) := ef
  simp -implicitDefEqProofs only [ok_ok, ok_bind, ok_tb, bl_bl, x_bin, x_args, evR_cons, evR_nil, x_var, x_c, ofO_some, x_and, x_or, x_not, x_eif, x_chain, x_lst, x_tup, x_isi, List.getElem?_cons_zero, List.getElem?_cons_succ, List.set_cons_zero, List.set_cons_succ, o_cmp, o_sub, o_add, o_int, o_is_n, o_is_b, o_isN_n, o_isN_b, q_int, nq_int, ei, ef']
  refine ⟨h.length, i, _, rfl, rfl, er, by simpa using hi, ?_⟩
  refine nx_ret ?_
  have es : (h ++ O.lst ((bs.map (ageB k)).map bD) :: t2).set h.length (.lst (((bs.map (ageB k)).map bD).set i (bD (fillB (ageB k b) (.key k))))) = h ++ O.lst ((cpB bs k i b).map bD) :: t2 := by
    rw [List.set_append_right _ _ (Nat.le_refl _), Nat.sub_self, List.set_cons_zero]
    unfold cpB
    rw [List.map_set]
  rw [es]
  simp -implicitDefEqProofs only [ok_ok, ok_bind, ok_tb, bl_bl, x_bin, x_args, evR_cons, evR_nil, x_var, x_c, ofO_some, x_and, x_or, x_not, x_eif, x_chain, x_lst, x_tup, x_isi, List.getElem?_cons_zero, List.getElem?_cons_succ, List.set_cons_zero, List.set_cons_succ, o_cmp, o_sub, o_add, o_int, o_is_n, o_is_b, o_isN_n, o_isN_b, q_int, nq_int, tup_last]
  exact ⟨trivial, _, rfl⟩
theorem ac_at (a : Ac) (h : Hm) : dIx (acD a) (.int (-1)) h = .ok (.int (a.at : Int)) h := by cases a <;> rfl
def acW : Ac → Str
  | .wr _ => "write" | .cp _ _ => "copy" | .er _ => "erase"
theorem ac_word (a : Ac) (h : Hm) : dIx (acD a) (.int 0) h = .ok (.str (acW a)) h := by cases a <;> rfl
theorem x_blocksbehind {S : Sd} {pages : Nat} {a : Ac} {b : Lf × List Pg} (o : SdOk S pages) (ha : AcOk S a b) (r : Rp) (h : Hm) :
    ∃ t, m_blocks_behind [.tup (S.blocks.map bD), dueD S.due, acD a, .str r.s] h = .ok (.tup ((behB S a r b).map bD)) (h ++ t) := by
  have hi := (List.getElem?_eq_some_iff.mp ha.at_).1
  have hbm : b ∈ S.blocks := List.mem_of_getElem? ha.at_
  have ob := o.bk b hbm
  have p6 := o.p2
  have hl6 : b.2.length ≤ 6 := by rw [ob.2.1]; exact p6
  obtain ⟨d, hd⟩ := ha.due
  have ib : ∀ h : Hm, dIx (.tup (S.blocks.map bD)) (.int (a.at : Int)) h = .ok (bD b) h := fun h => ix_tup (by rw [List.getElem?_map, ha.at_]; rfl)
  have wb : ∀ (c : Lf × List Pg) (h : Hm), m_with_block [.tup (S.blocks.map bD), .int (a.at : Int), bD c] h = .ok (.tup ((S.blocks.set a.at c).map bD)) h := fun c h => x_withblock hi o.b2 h
  refine of_ok (ok_run ?_)
  show NX (g_blocks_behind [some (.tup (S.blocks.map bD)), some (dueD S.due), some (acD a), some (.str r.s), none] h) _ _
  unfold g_blocks_behind
  refine nx_seq (nx_set ?_)
  simp -implicitDefEqProofs only [ok_ok, ok_bind, ok_tb, bl_bl, x_bin, x_args, evR_cons, evR_nil, x_var, x_c, ofO_some, x_and, x_or, x_not, x_eif, x_chain, x_lst, x_tup, x_isi, List.getElem?_cons_zero, List.getElem?_cons_succ, List.set_cons_zero, List.set_cons_succ, o_cmp, o_sub, o_add, o_int, o_is_n, o_is_b, o_isN_n, o_isN_b, q_int, nq_int, x_neg, ac_at]
  refine nx_seq (nx_ifP (p := r = .bad) (h1 := h) (rp_test .bad rfl) (fun hr => ?_) (fun hr => ?_))
  · subst hr
    obtain ⟨t, eg⟩ := x_gonebad b hl6 h
    refine nx_ret ?_
    simp -implicitDefEqProofs only [ok_ok, ok_bind, ok_tb, bl_bl, x_bin, x_args, evR_cons, evR_nil, x_var, x_c, ofO_some, x_and, x_or, x_not, x_eif, x_chain, x_lst, x_tup, x_isi, List.getElem?_cons_zero, List.getElem?_cons_succ, List.set_cons_zero, List.set_cons_succ, o_cmp, o_sub, o_add, o_int, o_is_n, o_is_b, o_isN_n, o_isN_b, q_int, nq_int, ib, eg, wb]
    exact ⟨rfl, t, rfl⟩
  refine nx_next ?_
  refine nx_seq (nx_ifP (p := acW a = "erase") (h1 := h) (by simp [ac_word]) (fun hw => ?_) (fun hw => ?_))
  · cases a with
    | er i =>
      have hnb := (er_left (ha.era i rfl)).1
      have lit : (eIf (eBin dEq (eVar 3) (eC (.str "cut"))) (eC (.str "old")) (eC (.str "free"))) [some (.tup (S.blocks.map bD)), some (dueD S.due), some (acD (.er i)), some (.str r.s), some (.int (Ac.at (.er i) : Int))] h = .ok (pD (if r = .cut then .old else .free)) h := by
        rw [x_eif, show (eBin dEq (eVar 3) (eC (.str "cut"))) [some (.tup (S.blocks.map bD)), some (dueD S.due), some (acD (.er i)), some (.str r.s), some (.int (Ac.at (.er i) : Int))] h = _ from rp_test .cut rfl, tb_ok]
        by_cases hc : r = .cut <;> simp [hc, pD]
      have e1 : m_erased [bD b, pD (if r = .cut then .old else .free)] h = .ok (bD (eraB b (if r = .cut then .old else .free))) h := x_erased ob o.p1 p6 hnb _ h
      have eg : behB S (.er i) r b = S.blocks.set i (eraB b (if r = .cut then .old else .free)) := by
        cases r with
        | bad => exact absurd rfl hr
        | cut => rfl
        | done => rfl
        | late => rfl
      refine nx_ret ?_
      refine OK.of (d := .tup ((S.blocks.set i (eraB b (if r = .cut then .old else .free))).map bD)) (h := h) ?_ ⟨by rw [eg], [], by simp⟩
      simp only [x_args, evR_cons, evR_nil, x_bin, x_var, List.getElem?_cons_zero, List.getElem?_cons_succ, ofO_some, RD.bind_ok, ib, lit, e1, wb]
      rfl
    | wr i => exact absurd (show ("write" : Str) = "erase" from hw) (by decide)
    | cp k i => exact absurd (show ("copy" : Str) = "erase" from hw) (by decide)
  refine nx_next ?_
  have hne : ∀ i, a ≠ .er i := fun i z => hw (by rw [z]; rfl)
  have hrm := ha.room hne
  refine nx_seq (nx_ifP (p := r = .cut) (h1 := h) (rp_test .cut rfl) (fun hc => ?_) (fun hc => ?_))
  · subst hc
    have ef : m_filled [bD b, .str "old"] h = .ok (bD (fillB b .old)) h := x_filled ob p6 hrm .old h
    refine nx_ret ?_
    simp -implicitDefEqProofs only [ok_ok, ok_bind, ok_tb, bl_bl, x_bin, x_args, evR_cons, evR_nil, x_var, x_c, ofO_some, x_and, x_or, x_not, x_eif, x_chain, x_lst, x_tup, x_isi, List.getElem?_cons_zero, List.getElem?_cons_succ, List.set_cons_zero, List.set_cons_succ, o_cmp, o_sub, o_add, o_int, o_is_n, o_is_b, o_isN_n, o_isN_b, q_int, nq_int, ib, ef, wb]
    refine ⟨?_, [], by simp⟩
    cases a with
    | er i => exact absurd rfl (hne i)
    | wr i => rfl
    | cp k i => rfl
  refine nx_next ?_
  refine nx_ret ?_
  cases a with
  | er i => exact absurd rfl (hne i)
  | wr i =>
    obtain ⟨t, ec⟩ := x_withcopy (k := d) ha.at_ o.b2 o.bk p6 hrm h
    have ec' : m_with_copy [.tup (S.blocks.map bD), .int d, .int (Ac.at (.wr i) : Int)] h = .ok (.tup ((cpB S.blocks d i b).map bD)) (h ++ t) := ec
    have eg : behB S (.wr i) r b = cpB S.blocks d i b := by
      cases r with
      | bad => exact absurd rfl hr
      | cut => exact absurd rfl hc
      | done => simp [behB, hd]
      | late => simp [behB, hd]
    refine OK.of (d := .tup ((cpB S.blocks d i b).map bD)) (h := h ++ t) ?_ ⟨by rw [eg], t, rfl⟩
    simp [ac_word, acW, hd, dueD, ec']
  | cp k i =>
    obtain ⟨t, ec⟩ := x_withcopy (k := k) ha.at_ o.b2 o.bk p6 hrm h
    have ec' : m_with_copy [.tup (S.blocks.map bD), .int k, .int (Ac.at (.cp k i) : Int)] h = .ok (.tup ((cpB S.blocks k i b).map bD)) (h ++ t) := ec
    have ek : dIx (acD (.cp k i)) (.int 1) h = .ok (.int k) h := rfl
    have eg : behB S (.cp k i) r b = cpB S.blocks k i b := by
      cases r with
      | bad => exact absurd rfl hr
      | cut => exact absurd rfl hc
      | done => rfl
      | late => rfl
    refine OK.of (d := .tup ((cpB S.blocks k i b).map bD)) (h := h ++ t) ?_ ⟨by rw [eg], t, rfl⟩
    have nw : ¬ (Str.ofString "copy" = Str.ofString "write") := by decide
    simp [ac_word, acW, ek, ec', nw]
end Sh.k07

set_option linter.all false
set_option maxRecDepth 100000
namespace Sh.k07
open PySem L2 PyProof.Rows Sh
def isWr : Ac → Bool
  | .wr _ => true
  | _ => false
theorem wr_word (a : Ac) : decide (acW a = "write") = isWr a := by
  have h1 : decide (("write" : Str) = "write") = true := by decide +kernel
  have h2 : decide (("copy" : Str) = "write") = false := by decide +kernel
  have h3 : decide (("erase" : Str) = "write") = false := by decide +kernel
  cases a with
  | wr b => exact h1
  | cp k b => exact h2
  | er b => exact h3
theorem x_isserved (a : Ac) (r : Rp) (h : Hm) : m_is_served [acD a, .str r.s] h = .ok (.bl (isWr a && decide (r = .done))) h := by
  rw [m_is_served, x_run]
  show ((gRet _) [some (acD a), some (.str r.s)] h).out = _
  have e := rp_test (s := [some (acD a), some (.str r.s)]) (h := h) (i := 1) (r := r) .done rfl
  have e' : eBin dEq (eVar 1) (eC (.str "done")) [some (acD a), some (.str r.s)] h = .ok (.bl (decide (r = .done))) h := e
  have e0 : eBin dEq (eBin dIx (eVar 0) (eC (.int 0))) (eC (.str "write")) [some (acD a), some (.str r.s)] h = .ok (.bl (isWr a)) h := by
    simp only [x_bin, x_var, x_c, List.getElem?_cons_zero, ofO_some, RD.bind_ok, ac_word, q_str, wr_word]
  rw [x_ret, x_and, e0, tb_ok]
  cases isWr a with
  | false => rfl
  | true => rw [if_pos rfl, e']; simp
theorem rp_testN {s : DS} {h : Hm} {i : Nat} {r : Rp} (q : Rp) (hs : s[i]? = some (some (.str r.s))) : eBin dNe (eVar i) (eC (.str q.s)) s h = .ok (.bl (decide (¬ r = q))) h := by
  simp only [x_bin, x_var, x_c, hs, ofO_some, RD.bind_ok, nq_str, rs_eq]
  simp
theorem x_shapebehind {S : Sd} {pages : Nat} {a : Ac} {b : Lf × List Pg} (o : SdOk S pages) (ha : AcOk S a b) (r : Rp) (h : Hm) :
    ∃ t, m_shape_behind [S.enc, acD a, .str r.s] h = .ok (beh S a r b).enc (h ++ t) := by
  obtain ⟨t, eb⟩ := x_blocksbehind o ha r h
  refine of_ok (ok_run ?_)
  show NX (g_shape_behind [some S.enc, some (acD a), some (.str r.s), none, none, none, none, none, none] h) _ _
  unfold g_shape_behind
  refine nx_seq ?_
  rw [show gAsg (eVar 0) (tTup [tName 3, tName 4, tName 5, tName 6, tName 7]) [some S.enc, some (acD a), some (.str r.s), none, none, none, none, none, none] h = .nx [some S.enc, some (acD a), some (.str r.s), some (.int S.keys), some (.tup (S.blocks.map bD)), some (.int S.fails), some (.int S.cuts), some (dueD S.due), none] h from rfl]
  refine nxi ?_
  refine nx_seq (nx_set ?_)
  simp -implicitDefEqProofs only [ok_ok, ok_bind, ok_tb, bl_bl, x_bin, x_args, evR_cons, evR_nil, x_var, x_c, ofO_some, x_and, x_or, x_not, x_eif, x_chain, x_lst, x_tup, x_isi, List.getElem?_cons_zero, List.getElem?_cons_succ, List.set_cons_zero, List.set_cons_succ, o_cmp, o_sub, o_add, o_int, o_is_n, o_is_b, o_isN_n, o_isN_b, q_int, nq_int, eb]
  refine nx_seq (nx_ifP (p := r = .bad) (h1 := h ++ t) (rp_test .bad rfl) (fun hr => ?_) (fun hr => nx_next ?_))
  · subst hr
    refine nx_ret ?_
    simp -implicitDefEqProofs only [ok_ok, ok_bind, ok_tb, bl_bl, x_bin, x_args, evR_cons, evR_nil, x_var, x_c, ofO_some, x_and, x_or, x_not, x_eif, x_chain, x_lst, x_tup, x_isi, List.getElem?_cons_zero, List.getElem?_cons_succ, List.set_cons_zero, List.set_cons_succ, o_cmp, o_sub, o_add, o_int, o_is_n, o_is_b, o_isN_n, o_isN_b, q_int, nq_int]
    exact ⟨rfl, t, rfl⟩
  refine nx_seq (nx_ifP (p := ¬ r = .done) (h1 := h ++ t) (rp_testN .done rfl) (fun hd => ?_) (fun hd => nx_next ?_))
  · refine nx_ret ?_
    simp -implicitDefEqProofs only [ok_ok, ok_bind, ok_tb, bl_bl, x_bin, x_args, evR_cons, evR_nil, x_var, x_c, ofO_some, x_and, x_or, x_not, x_eif, x_chain, x_lst, x_tup, x_isi, List.getElem?_cons_zero, List.getElem?_cons_succ, List.set_cons_zero, List.set_cons_succ, o_cmp, o_sub, o_add, o_int, o_is_n, o_is_b, o_isN_n, o_isN_b, q_int, nq_int]
    refine ⟨?_, t, rfl⟩
    cases r with
    | bad => exact absurd rfl hr
    | done => exact absurd rfl hd
    | cut => rfl
    | late => rfl
  · have hd' : r = .done := Classical.byContradiction hd
    subst hd'
    refine nx_ret ?_
    refine OK.of (d := (beh S a .done b).enc) (h := h ++ t) ?_ ⟨rfl, t, rfl⟩
    have es := x_isserved a .done (h ++ t)
    simp only [x_tup, evR_cons, evR_nil, x_eif, x_args, x_var, List.getElem?_cons_zero, List.getElem?_cons_succ, ofO_some, RD.bind_ok, es, tb_ok, x_c]
    cases a <;> simp [isWr, beh, Sd.enc, dueD]
theorem rp_ok {S : Sd} {r : Rp} (h : letB S r = true) : RpOk S r := by
  cases r with
  | done => trivial
  | bad =>
    have h' : 0 < S.fails := of_decide_eq_true (show decide (0 < S.fails) = true from h)
    exact h'
  | cut =>
    have h' : 0 < S.cuts := of_decide_eq_true (show decide (0 < S.cuts) = true from h)
    exact h'
  | late =>
    have h' : 0 < S.cuts := of_decide_eq_true (show decide (0 < S.cuts) = true from h)
    exact h'
section
variable {S : Sd} {pages : Nat} {a : Ac} {b : Lf × List Pg} {h : Hm} {p : Nat} {acs : List Ac}
theorem replies_in (o : SdOk S pages) (hp : h[p]? = some (stO S)) (hacs : actsD S = acs.map acD) (hm : a ∈ acs) (r : Rp) :
    ∃ t, (eBin dNotIn (eVar 2) (eMeth "Stand" "replies" m_Stand_replies (eVar 0) [(eVar 1)])) [some (.ref p), some (acD a), some (.str r.s)] h = .ok (.bl (!letB S r)) (h ++ t) := by
  obtain ⟨n, t, e1, e2, _⟩ := x_replies o hp hacs hm
  refine ⟨t, ?_⟩
  have em : eMeth "Stand" "replies" m_Stand_replies (eVar 0) [eVar 1] [some (.ref p), some (acD a), some (.str r.s)] h = .ok (.ref n) (h ++ t) := by
    rw [meth_okv (S := S) (p := p) (h1 := h) rfl hp (by decide)]
    simp only [evR_cons, evR_nil, x_var, List.getElem?_cons_zero, List.getElem?_cons_succ, ofO_some, RD.bind_ok, e1]
  rw [x_bin, x_var]
  simp only [List.getElem?_cons_zero, List.getElem?_cons_succ, ofO_some, RD.bind_ok, em]
  exact notin_reps e2
theorem after_good (o : SdOk S pages) (hp : h[p]? = some (stO S)) (hacs : actsD S = acs.map acD) (hm : a ∈ acs) (ha : AcOk S a b) {r : Rp} (hr : letB S r = true) :
    ∃ q t, m_Stand_after [.ref p, acD a, .str r.s] h = .ok (.ref q) (h ++ t) ∧ (h ++ t)[q]? = some (stO (beh S a r b)) := by
  obtain ⟨t1, e1⟩ := replies_in o hp hacs hm r
  rw [hr] at e1
  have hp1 : (h ++ t1)[p]? = some (stO S) := old hp
  obtain ⟨t2, e2⟩ := x_shapebehind o ha r (h ++ t1)
  obtain ⟨q, t3, e3, e4, _⟩ := x_standof (beh_ok o ha (rp_ok hr)) (h ++ t1 ++ t2)
  refine ⟨q, t1 ++ t2 ++ t3, ?_, by rw [← List.append_assoc, ← List.append_assoc]; exact e4⟩
  have ef : eFld "Stand" "_shape" (eVar 0) [some (.ref p), some (acD a), some (.str r.s)] (h ++ t1) = .ok S.enc (h ++ t1) := fld_ok rfl hp1
  rw [m_Stand_after, x_run]
  show ((gSeq _ _) [some (.ref p), some (acD a), some (.str r.s)] h).out = _
  rw [x_seq, x_if, e1]
  simp only [Bool.not_true, tst_ok]
  rw [if_neg (by decide), x_next, seq_nx, x_ret]
  simp only [x_args, evR_cons, evR_nil, ef, x_var, List.getElem?_cons_zero, List.getElem?_cons_succ, ofO_some, RD.bind_ok, e2, e3, RD.st_ok, out_rt]
  simp
theorem after_bad (o : SdOk S pages) (hp : h[p]? = some (stO S)) (hacs : actsD S = acs.map acD) (hm : a ∈ acs) {r : Rp} (hr : letB S r = false) : ∃ t, m_Stand_after [.ref p, acD a, .str r.s] h = .exc "NoReply" [] (h ++ t) := by
  obtain ⟨t1, e1⟩ := replies_in o hp hacs hm r
  rw [hr] at e1
  refine ⟨t1, ?_⟩
  rw [m_Stand_after, x_run]
  show ((gSeq _ _) [some (.ref p), some (acD a), some (.str r.s)] h).out = _
  rw [x_seq, x_if, e1]
  simp only [Bool.not_false, tst_ok]
  rw [if_pos trivial]
  rfl
theorem served_good (o : SdOk S pages) (hp : h[p]? = some (stO S)) (hacs : actsD S = acs.map acD) (hm : a ∈ acs) {r : Rp} (hr : letB S r = true) :
    ∃ t, m_Stand_served [.ref p, acD a, .str r.s] h = .ok (.bl (isWr a && decide (r = .done))) (h ++ t) := by
  obtain ⟨t1, e1⟩ := replies_in o hp hacs hm r
  rw [hr] at e1
  refine ⟨t1, ?_⟩
  rw [m_Stand_served, x_run]
  show ((gSeq _ _) [some (.ref p), some (acD a), some (.str r.s)] h).out = _
  rw [x_seq, x_if, e1]
  simp only [Bool.not_true, tst_ok]
  rw [if_neg (by decide), x_next, seq_nx, x_ret]
  simp only [x_args, evR_cons, evR_nil, x_var, List.getElem?_cons_zero, List.getElem?_cons_succ, ofO_some, RD.bind_ok, x_isserved, RD.st_ok, out_rt]
theorem served_bad (o : SdOk S pages) (hp : h[p]? = some (stO S)) (hacs : actsD S = acs.map acD) (hm : a ∈ acs) {r : Rp} (hr : letB S r = false) : ∃ t, m_Stand_served [.ref p, acD a, .str r.s] h = .exc "NoReply" [] (h ++ t) := by
  obtain ⟨t1, e1⟩ := replies_in o hp hacs hm r
  rw [hr] at e1
  refine ⟨t1, ?_⟩
  rw [m_Stand_served, x_run]
  show ((gSeq _ _) [some (.ref p), some (acD a), some (.str r.s)] h).out = _
  rw [x_seq, x_if, e1]
  simp only [Bool.not_false, tst_ok]
  rw [if_pos trivial]
  rfl
theorem sub1 : subT [(("NoAct", "NoAct"), true), (("NoAct", "NoReply"), false), (("NoReply", "NoAct"), false), (("NoReply", "NoReply"), true)] "NoReply" "NoAct" = some false := by decide
theorem sub2 : subT [(("NoAct", "NoAct"), true), (("NoAct", "NoReply"), false), (("NoReply", "NoAct"), false), (("NoReply", "NoReply"), true)] "NoReply" "NoReply" = some true := by decide
end
end Sh.k07

set_option linter.all false
set_option maxRecDepth 100000
namespace Sh.k07
open PySem L2 PyProof.Rows Sh
theorem x_lawbad (b : Lf × List Pg) (hl : b.2.length ≤ 6) (h : Hm) : ∃ t, m__law_bad [bD b] h = .ok (bD (badB b)) (h ++ t) := x_gonebad b hl h
theorem x_lawerased {pages : Nat} {b : Lf × List Pg} (o : BkOk pages b) (p1 : 1 ≤ pages) (p6 : pages ≤ 6) (hb : b.1 ≠ .bad) (x : Pg) (h : Hm) : m__law_erased [bD b, pD x] h = .ok (bD (eraB b x)) h := by
  have hl : b.2.length = pages := o.2.1
  have asg : gAsg (eVar 0) (tTup [tName 2, tName 3]) [some (bD b), some (pD x), none, none] h = .nx [some (bD b), some (pD x), some (lD b.1), some (.tup (b.2.map pD))] h := rfl
  have ml : dMulT (.tup [pD x]) (.int ((b.2.map pD).length : Int)) h = .ok (.tup (List.replicate b.2.length (pD x))) h := by
    have c : [pD x] ≠ [] ∧ (1 : Int) ≤ ((b.2.map pD).length : Int) ∧ ((b.2.map pD).length : Int) ≤ 1000 ∧ [pD x].length ≤ 1000 := ⟨by simp, by rw [List.length_map]; omega, by rw [List.length_map]; omega, by simp⟩
    simp only [dMulT]
    rw [if_pos c, Int.toNat_natCast, flat_rep, List.length_map]
  have lf : (gIf (eBin dNe (eVar 2) (eC (.str "ever"))) (gSet 2 (eBin dSub (eVar 2) (eC (.int 1)))) gNext) [some (bD b), some (pD x), some (lD b.1), some (.tup (b.2.map pD))] h = .nx [some (bD b), some (pD x), some (lD (wear b.1)), some (.tup (b.2.map pD))] h := by
    cases hb1 : b.1 with
    | bad => exact absurd hb1 hb
    | ever => simp [lD, wear]
    | num n => simp [lD, wear]
  rw [m__law_erased, x_run]
  show ((gSeq _ _) [some (bD b), some (pD x), none, none] h).out = _
  rw [x_seq, asg, seq_nx, x_seq, lf, seq_nx, x_ret]
  simp only [RD.bind_ok, evR_cons, evR_nil, x_bin, x_tup, x_args, x_var, x_c, List.getElem?_cons_zero, List.getElem?_cons_succ, ofO_some, o_len_t, ml, RD.st_ok, out_rt]
  simp only [bD, eraB, List.map_replicate]
theorem find_free {pages w : Nat} {b : Lf × List Pg} (hl : b.2.length = pages) (hw : w < pages) (e : b.2[w]? = some .free) (hf : ∀ i p, b.2[i]? = some p → (w ≤ i ↔ p = .free)) : (b.2.map pD).findIdx? (fun z => eqF z (.str "free")) = some w := by
  rw [List.findIdx?_eq_some_iff_getElem]
  have hwl : w < (b.2.map pD).length := by rw [List.length_map]; omega
  refine ⟨hwl, ?_, fun j hj => ?_⟩
  · obtain ⟨h1, h2⟩ := List.getElem?_eq_some_iff.mp e
    simp only [List.getElem_map, h2]
    rfl
  · have hjl : j < b.2.length := by omega
    have := hf j b.2[j] (List.getElem?_eq_getElem hjl)
    simp only [List.getElem_map, eqF_free]
    cases q : b.2[j] with
    | free =>
      have := this.mpr q
      omega
    | _ => simp [isFree]
theorem lidx_free {h : Hm} {n w : Nat} {ps : List Pg} (e : h[n]? = some (.lst (ps.map pD))) (fx : (ps.map pD).findIdx? (fun z => eqF z (.str "free")) = some w) {s : DS} {i : Nat} (hs : s[i]? = some (some (.ref n))) : eLm lIndex (eVar i) [eC (.str "free")] s h = .ok (.int (w : Int)) h := by
  have fl : flatD (.str "free") = true ∧ (ps.map pD).all flatD = true := ⟨rfl, pD_flat ps⟩
  simp only [x_lm, x_var, hs, ofO_some, RD.bind_ok, lmB_ref (gl := lIndex) e, evR_cons, evR_nil, x_c, lmC_ok (gl := lIndex) e, lIndex]
  rw [if_pos fl, fx]
theorem x_lawfilled {pages : Nat} {b : Lf × List Pg} (o : BkOk pages b) (r : rm b = true) (x : Pg) (h : Hm) : ∃ t, m__law_filled [.tup (b.2.map pD), pD x] h = .ok (.tup ((fillP b.2 x).map pD)) (h ++ t) := by
  obtain ⟨w, hw, _, e, hf, hset⟩ := rm_first o r
  have fx := find_free o.2.1 hw e hf
  have hl : b.2.length = pages := o.2.1
  have er : (h ++ [O.lst (b.2.map pD)])[h.length]? = some (.lst (b.2.map pD)) := get_last
  refine of_ok (ok_run ?_)
  show NX (g__law_filled [some (.tup (b.2.map pD)), some (pD x), none] h) _ _
  unfold g__law_filled
  refine nx_seq (nx_set ?_)
  have bl : bList [.tup (b.2.map pD)] h = .ok (.ref h.length) (h ++ [.lst (b.2.map pD)]) := by simp [bList, items]
  simp -implicitDefEqProofs only [ok_ok, ok_bind, ok_tb, bl_bl, x_bin, x_args, evR_cons, evR_nil, x_var, x_c, ofO_some, x_and, x_or, x_not, x_eif, x_chain, x_lst, x_tup, x_isi, List.getElem?_cons_zero, List.getElem?_cons_succ, List.set_cons_zero, List.set_cons_succ, o_cmp, o_sub, o_add, o_int, o_is_n, o_is_b, o_isN_n, o_isN_b, q_int, nq_int, bl]
  refine nx_seq (nx_lput ?_)
  simp -implicitDefEqProofs only [ok_ok, ok_bind, ok_tb, bl_bl, x_bin, x_args, evR_cons, evR_nil, x_var, x_c, ofO_some, x_and, x_or, x_not, x_eif, x_chain, x_lst, x_tup, x_isi, List.getElem?_cons_zero, List.getElem?_cons_succ, List.set_cons_zero, List.set_cons_succ, o_cmp, o_sub, o_add, o_int, o_is_n, o_is_b, o_isN_n, o_isN_b, q_int, nq_int, lidx_free er fx (s := [some (.tup (b.2.map pD)), some (pD x), some (.ref h.length)]) (i := 2) rfl]
  refine ⟨h.length, w, _, rfl, rfl, er, by rw [List.length_map]; omega, ?_⟩
  refine nx_ret ?_
  rw [set_last, hset, ← List.map_set]
  simp -implicitDefEqProofs only [ok_ok, ok_bind, ok_tb, bl_bl, x_bin, x_args, evR_cons, evR_nil, x_var, x_c, ofO_some, x_and, x_or, x_not, x_eif, x_chain, x_lst, x_tup, x_isi, List.getElem?_cons_zero, List.getElem?_cons_succ, List.set_cons_zero, List.set_cons_succ, o_cmp, o_sub, o_add, o_int, o_is_n, o_is_b, o_isN_n, o_isN_b, q_int, nq_int, tup_ref (get_last (h := h) (o := .lst ((b.2.set w x).map pD)))]
  exact ⟨trivial, _, rfl⟩
theorem x_lawaged {pages : Nat} {b : Lf × List Pg} (o : BkOk pages b) (p6 : pages ≤ 6) (k : Int) (h : Hm) : ∃ t, m__law_aged [bD b, .int k] h = .ok (bD (ageB k b)) (h ++ t) := by
  have asg : gAsg (eVar 0) (tTup [tName 2, tName 3]) [some (bD b), some (.int k), none, none, none] h = .nx [some (bD b), some (.int k), some (lD b.1), some (.tup (b.2.map pD)), none] h := rfl
  obtain ⟨t3, e3⟩ := aged_ok (s := [some (bD b), some (.int k), some (lD b.1), some (.tup (b.2.map pD)), none]) (h := h) (ps := b.2) (k := k) (it := eVar 3) (sl := eVar 1) (v := 4) (by rw [o.2.1]; exact p6) rfl (fun _ _ => rfl) (by simp)
  refine ⟨.lst ((b.2.map (ageK k)).map pD) :: t3, ?_⟩
  rw [m__law_aged, x_run]
  show ((gSeq _ _) [some (bD b), some (.int k), none, none, none] h).out = _
  rw [x_seq, asg, seq_nx, x_ret]
  simp only [RD.bind_ok, evR_cons, evR_nil, x_tup, x_args, x_var, List.getElem?_cons_zero, List.getElem?_cons_succ, ofO_some, e3, tup_last, RD.st_ok, out_rt]
  rfl
theorem ac_last (a : Ac) {s : DS} {h : Hm} (hs : s[1]? = some (some (acD a))) : (eBin dIx (eVar 1) (eBin dSub (eArgs bLen [(eVar 1)]) (eC (.int 1)))) s h = .ok (.int (a.at : Int)) h := by
  simp only [x_bin, x_args, evR_cons, evR_nil, x_var, hs, ofO_some, RD.bind_ok]
  cases a <;> rfl
theorem set_mid {h t : Hm} {xs ys : List D} : (h ++ O.lst xs :: t).set h.length (.lst ys) = h ++ O.lst ys :: t := by
  rw [List.set_append_right _ _ (Nat.le_refl _), Nat.sub_self, List.set_cons_zero]
theorem get_mid {h t : Hm} {xs : List D} : (h ++ O.lst xs :: t)[h.length]? = some (.lst xs) := by simp
theorem x_lawrows {S : Sd} {pages : Nat} {a : Ac} {b : Lf × List Pg} (o : SdOk S pages) (ha : AcOk S a b) (r : Rp) (h : Hm) :
    ∃ t, m__law_rows_after [S.enc, acD a, .str r.s] h = .ok (.tup ((behB S a r b).map bD)) (h ++ t) := by
  have hi := (List.getElem?_eq_some_iff.mp ha.at_).1
  have hbm : b ∈ S.blocks := List.mem_of_getElem? ha.at_
  have ob := o.bk b hbm
  have p6 := o.p2
  have hl6 : b.2.length ≤ 6 := by rw [ob.2.1]; exact p6
  obtain ⟨d, hd⟩ := ha.due
  have i1 : ∀ h : Hm, dIx S.enc (.int 1) h = .ok (.tup (S.blocks.map bD)) h := fun h => ix_tup (k := 1) rfl
  have i4 : ∀ h : Hm, dIx S.enc (.int 4) h = .ok (.int d) h := fun h => (ix_tup (k := 4) rfl).trans (by rw [hd]; rfl)
  have bl : bList [.tup (S.blocks.map bD)] h = .ok (.ref h.length) (h ++ [.lst (S.blocks.map bD)]) := by simp [bList, items]
  have ir : ∀ t : Hm, dIx (.ref h.length) (.int (a.at : Int)) (h ++ O.lst (S.blocks.map bD) :: t) = .ok (bD b) (h ++ O.lst (S.blocks.map bD) :: t) := fun t => ix_ref get_mid (by rw [List.getElem?_map, ha.at_]; rfl)
  have b0 : ∀ h : Hm, dIx (bD b) (.int 0) h = .ok (lD b.1) h := fun h => ix_tup (k := 0) rfl
  have b1 : ∀ h : Hm, dIx (bD b) (.int 1) h = .ok (.tup (b.2.map pD)) h := fun h => ix_tup (k := 1) rfl
  have il : a.at < (S.blocks.map bD).length := by rw [List.length_map]; exact hi
  refine of_ok (ok_run ?_)
  show NX (g__law_rows_after [some S.enc, some (acD a), some (.str r.s), none, none, none, none] h) _ _
  unfold g__law_rows_after
  refine nx_seq (nx_set ?_)
  simp -implicitDefEqProofs only [ok_ok, ok_bind, ok_tb, bl_bl, x_bin, x_args, evR_cons, evR_nil, x_var, x_c, ofO_some, x_and, x_or, x_not, x_eif, x_chain, x_lst, x_tup, x_isi, List.getElem?_cons_zero, List.getElem?_cons_succ, List.set_cons_zero, List.set_cons_succ, o_cmp, o_sub, o_add, o_int, o_is_n, o_is_b, o_isN_n, o_isN_b, q_int, nq_int, i1, bl]
  refine nx_seq (nx_set (OK.of (ac_last a rfl) ?_))
  simp only [List.set_cons_zero, List.set_cons_succ]
  refine nx_seq (NX.mono (N := fun s h1 => ∃ (n : Nat) (t : Hm), s[3]? = some (some (.ref n)) ∧ h1 = h ++ t ∧ h1[n]? = some (.lst ((behB S a r b).map bD))) (T := fun _ _ => False) ?_ ?_ (fun _ _ z => False.elim z))
  · refine nx_ifP (p := r = .bad) (h1 := h ++ [.lst (S.blocks.map bD)]) (rp_test .bad rfl) (fun hr => ?_) (fun hr => ?_)
    · subst hr
      obtain ⟨t, eg⟩ := x_lawbad b hl6 (h ++ [.lst (S.blocks.map bD)])
      refine nx_lput ?_
      simp -implicitDefEqProofs only [ok_ok, ok_bind, ok_tb, bl_bl, x_bin, x_args, evR_cons, evR_nil, x_var, x_c, ofO_some, x_and, x_or, x_not, x_eif, x_chain, x_lst, x_tup, x_isi, List.getElem?_cons_zero, List.getElem?_cons_succ, List.set_cons_zero, List.set_cons_succ, o_cmp, o_sub, o_add, o_int, o_is_n, o_is_b, o_isN_n, o_isN_b, q_int, nq_int, ir [], eg]
      refine ⟨h.length, a.at, S.blocks.map bD, rfl, rfl, by simp, il, h.length, .lst ((S.blocks.set a.at (badB b)).map bD) :: t, rfl, ?_, ?_⟩
      · rw [List.append_assoc]
        show (h ++ O.lst (S.blocks.map bD) :: t).set h.length _ = _
        rw [set_mid, List.map_set]
      · rw [List.append_assoc]
        show ((h ++ O.lst (S.blocks.map bD) :: t).set h.length _)[h.length]? = _
        rw [set_mid, get_mid, ← List.map_set]
        rfl
    refine nx_ifP (p := acW a = "erase") (h1 := h ++ [.lst (S.blocks.map bD)]) (by simp [ac_word]) (fun hw => ?_) (fun hw => ?_)
    · cases a with
      | er i =>
        have hnb := (er_left (ha.era i rfl)).1
        have lit : ∀ g : Hm, (eIf (eBin dEq (eVar 2) (eC (.str "cut"))) (eC (.str "old")) (eC (.str "free"))) [some S.enc, some (acD (.er i)), some (.str r.s), some (.ref h.length), some (.int (Ac.at (.er i) : Int)), none, none] g = .ok (pD (if r = .cut then .old else .free)) g := by
          intro g
          rw [x_eif, show (eBin dEq (eVar 2) (eC (.str "cut"))) [some S.enc, some (acD (.er i)), some (.str r.s), some (.ref h.length), some (.int (Ac.at (.er i) : Int)), none, none] g = _ from rp_test .cut rfl, tb_ok]
          by_cases hc : r = .cut <;> simp [hc, pD]
        have e1 : ∀ g, m__law_erased [bD b, pD (if r = .cut then .old else .free)] g = .ok (bD (eraB b (if r = .cut then .old else .free))) g := fun g => x_lawerased ob o.p1 p6 hnb _ g
        have eg : behB S (.er i) r b = S.blocks.set i (eraB b (if r = .cut then .old else .free)) := by
          cases r with
          | bad => exact absurd rfl hr
          | cut => rfl
          | done => rfl
          | late => rfl
        refine nx_lput (OK.of (d := bD (eraB b (if r = .cut then .old else .free))) (h := h ++ [.lst (S.blocks.map bD)]) ?_ ?_)
        · have ir' := ir []
          simp only [x_args, evR_cons, evR_nil, x_bin, x_var, List.getElem?_cons_zero, List.getElem?_cons_succ, ofO_some, RD.bind_ok, ir', lit, e1]
        · simp -implicitDefEqProofs only [ok_ok, ok_bind, ok_tb, bl_bl, x_bin, x_args, evR_cons, evR_nil, x_var, x_c, ofO_some, x_and, x_or, x_not, x_eif, x_chain, x_lst, x_tup, x_isi, List.getElem?_cons_zero, List.getElem?_cons_succ, List.set_cons_zero, List.set_cons_succ, o_cmp, o_sub, o_add, o_int, o_is_n, o_is_b, o_isN_n, o_isN_b, q_int, nq_int]
          refine ⟨h.length, i, S.blocks.map bD, rfl, rfl, by simp, il, h.length, [.lst ((behB S (.er i) r b).map bD)], rfl, ?_, ?_⟩
          · rw [set_last, eg, List.map_set]
          · rw [set_last, get_last, eg, List.map_set]
      | wr i => exact absurd (show ("write" : Str) = "erase" from hw) (by decide)
      | cp k i => exact absurd (show ("copy" : Str) = "erase" from hw) (by decide)
    have hne : ∀ i, a ≠ .er i := fun i z => hw (by rw [z]; rfl)
    have hrm := ha.room hne
    refine nx_ifP (p := r = .cut) (h1 := h ++ [.lst (S.blocks.map bD)]) (rp_test .cut rfl) (fun hc => ?_) (fun hc => ?_)
    · subst hc
      obtain ⟨t, ef⟩ := x_lawfilled ob hrm .old (h ++ [.lst (S.blocks.map bD)])
      have ef' : m__law_filled [.tup (b.2.map pD), .str "old"] (h ++ [.lst (S.blocks.map bD)]) = .ok (.tup ((fillP b.2 .old).map pD)) (h ++ [.lst (S.blocks.map bD)] ++ t) := ef
      have eg : behB S a .cut b = S.blocks.set a.at (fillB b .old) := by
        cases a with
        | er i => exact absurd rfl (hne i)
        | wr i => rfl
        | cp k i => rfl
      refine nx_lput ?_
      simp -implicitDefEqProofs only [ok_ok, ok_bind, ok_tb, bl_bl, x_bin, x_args, evR_cons, evR_nil, x_var, x_c, ofO_some, x_and, x_or, x_not, x_eif, x_chain, x_lst, x_tup, x_isi, List.getElem?_cons_zero, List.getElem?_cons_succ, List.set_cons_zero, List.set_cons_succ, o_cmp, o_sub, o_add, o_int, o_is_n, o_is_b, o_isN_n, o_isN_b, q_int, nq_int, ir [], b0, b1, ef']
      have es : (h ++ [O.lst (S.blocks.map bD)] ++ t).set h.length (.lst ((S.blocks.map bD).set a.at (bD (fillB b .old)))) = h ++ .lst ((behB S a .cut b).map bD) :: t := by
        rw [List.append_assoc]
        show (h ++ O.lst (S.blocks.map bD) :: t).set h.length _ = _
        rw [set_mid, eg, List.map_set]
      refine ⟨h.length, a.at, S.blocks.map bD, rfl, rfl, by simp, il, h.length, .lst ((behB S a .cut b).map bD) :: t, rfl, es, ?_⟩
      show ((h ++ [O.lst (S.blocks.map bD)] ++ t).set h.length (.lst ((S.blocks.map bD).set a.at (bD (fillB b .old)))))[h.length]? = _
      rw [es, get_mid]
    · -- write, copy
      obtain ⟨k, hk, eg⟩ : ∃ k, (∀ i j, (a = .cp i j → k = i) ∧ (a = .wr j → k = d)) ∧ behB S a r b = cpB S.blocks k a.at b := by
        cases a with
        | er i => exact absurd rfl (hne i)
        | wr i =>
          refine ⟨d, fun i j => ⟨fun z => (by cases z), fun _ => rfl⟩, ?_⟩
          cases r with
          | bad => exact absurd rfl hr
          | cut => exact absurd rfl hc
          | done => simp [behB, hd, Ac.at]
          | late => simp [behB, hd, Ac.at]
        | cp k i =>
          refine ⟨k, fun i j => ⟨fun z => (by cases z; rfl), fun z => (by cases z)⟩, ?_⟩
          cases r with
          | bad => exact absurd rfl hr
          | cut => exact absurd rfl hc
          | done => rfl
          | late => rfl
      refine nx_seq (nx_set ?_)
      simp -implicitDefEqProofs only [ok_ok, ok_bind, ok_tb, bl_bl, x_bin, x_args, evR_cons, evR_nil, x_var, x_c, ofO_some, x_and, x_or, x_not, x_eif, x_chain, x_lst, x_tup, x_isi, List.getElem?_cons_zero, List.getElem?_cons_succ, List.set_cons_zero, List.set_cons_succ, o_cmp, o_sub, o_add, o_int, o_is_n, o_is_b, o_isN_n, o_isN_b, q_int, nq_int, i4]
      refine nx_seq (NX.mono (N := fun s h1 => s = [some S.enc, some (acD a), some (.str r.s), some (.ref h.length), some (.int (a.at : Int)), some (.int k), none] ∧ h1 = h ++ [.lst (S.blocks.map bD)]) (T := fun _ _ => False) ?_ ?_ (fun _ _ z => False.elim z))
      · refine nx_ifP (p := acW a = "copy") (h1 := h ++ [.lst (S.blocks.map bD)]) (by simp [ac_word]) (fun hw2 => ?_) (fun hw2 => ?_)
        · cases a with
          | er i => exact absurd rfl (hne i)
          | wr i => exact absurd (show ("write" : Str) = "copy" from hw2) (by decide)
          | cp j i =>
            have e1 : ∀ g : Hm, dIx (acD (.cp j i)) (.int 1) g = .ok (.int j) g := fun g => rfl
            refine nx_set ?_
            simp -implicitDefEqProofs only [ok_ok, ok_bind, ok_tb, bl_bl, x_bin, x_args, evR_cons, evR_nil, x_var, x_c, ofO_some, x_and, x_or, x_not, x_eif, x_chain, x_lst, x_tup, x_isi, List.getElem?_cons_zero, List.getElem?_cons_succ, List.set_cons_zero, List.set_cons_succ, o_cmp, o_sub, o_add, o_int, o_is_n, o_is_b, o_isN_n, o_isN_b, q_int, nq_int, e1]
            rw [(hk j i).1 rfl]
            exact ⟨rfl, trivial⟩
        · cases a with
          | er i => exact absurd rfl (hne i)
          | cp j i => exact absurd rfl hw2
          | wr i =>
            refine nx_next ⟨?_, rfl⟩
            rw [(hk 0 i).2 rfl]
      · rintro _ _ ⟨rfl, rfl⟩
        have hb2 : (S.blocks.map (ageB k))[a.at]? = some (ageB k b) := by rw [List.getElem?_map, ha.at_]; rfl
        have oa := bk_age ob k
        obtain ⟨t2, e1⟩ := elc_map (fi := fiSeq (eVar 3)) (gt := tName 6) (ft := eC (.bl true)) (fe := eArgs m__law_aged [(eVar 6), (eVar 5)]) (own := [6]) (s := [some S.enc, some (acD a), some (.str r.s), some (.ref h.length), some (.int (a.at : Int)), some (.int k), none]) (h := h ++ [.lst (S.blocks.map bD)]) (ck := some (h.length, S.blocks.map bD)) (xs := S.blocks.map bD) (val := ageD k)
          (fi_ref rfl get_last) (fun u => chk_old get_last u) (fun x hx u => by
            obtain ⟨c, hc, rfl⟩ := List.mem_map.mp hx
            obtain ⟨t3, e3⟩ := x_lawaged (o.bk c hc) p6 k (h ++ [.lst (S.blocks.map bD)] ++ u)
            refine ⟨[some S.enc, some (acD a), some (.str r.s), some (.ref h.length), some (.int (a.at : Int)), some (.int k), some (bD c)], t3, rfl, rfl, ?_⟩
            rw [ageD_bD]
            simp only [x_args, evR_cons, evR_nil, x_var, List.getElem?_cons_zero, List.getElem?_cons_succ, ofO_some, RD.bind_ok, e3]) (by rw [List.length_map]; have := o.b2; omega)
        rw [ageD_all] at e1
        generalize hg : h ++ [O.lst (S.blocks.map bD)] = g at e1
        have hgl : h.length ≤ g.length := by rw [← hg]; simp
        refine nx_seq (nx_set ?_)
        simp -implicitDefEqProofs only [ok_ok, ok_bind, ok_tb, bl_bl, x_bin, x_args, evR_cons, evR_nil, x_var, x_c, ofO_some, x_and, x_or, x_not, x_eif, x_chain, x_lst, x_tup, x_isi, List.getElem?_cons_zero, List.getElem?_cons_succ, List.set_cons_zero, List.set_cons_succ, o_cmp, o_sub, o_add, o_int, o_is_n, o_is_b, o_isN_n, o_isN_b, q_int, nq_int, e1]
        have ir2 : ∀ u : Hm, dIx (.ref g.length) (.int (a.at : Int)) (g ++ O.lst ((S.blocks.map (ageB k)).map bD) :: u) = .ok (bD (ageB k b)) (g ++ O.lst ((S.blocks.map (ageB k)).map bD) :: u) := fun u => ix_ref get_mid (by rw [List.getElem?_map, hb2]; rfl)
        have c0 : ∀ h : Hm, dIx (bD (ageB k b)) (.int 0) h = .ok (lD b.1) h := fun h => ix_tup (k := 0) rfl
        have c1 : ∀ h : Hm, dIx (bD (ageB k b)) (.int 1) h = .ok (.tup ((ageB k b).2.map pD)) h := fun h => ix_tup (k := 1) rfl
        obtain ⟨t4, ef⟩ := x_lawfilled oa (by rw [rm_age]; exact hrm) (.key k) (g ++ O.lst ((S.blocks.map (ageB k)).map bD) :: t2)
        have ef' : m__law_filled [.tup ((ageB k b).2.map pD), .int k] (g ++ O.lst ((S.blocks.map (ageB k)).map bD) :: t2) = .ok (.tup ((fillP (ageB k b).2 (.key k)).map pD)) (g ++ O.lst ((S.blocks.map (ageB k)).map bD) :: t2 ++ t4) := ef
        refine nx_lput ?_
        simp -implicitDefEqProofs only [ok_ok, ok_bind, ok_tb, bl_bl, x_bin, x_args, evR_cons, evR_nil, x_var, x_c, ofO_some, x_and, x_or, x_not, x_eif, x_chain, x_lst, x_tup, x_isi, List.getElem?_cons_zero, List.getElem?_cons_succ, List.set_cons_zero, List.set_cons_succ, o_cmp, o_sub, o_add, o_int, o_is_n, o_is_b, o_isN_n, o_isN_b, q_int, nq_int, ir2 t2, c0, c1, ef']
        have es : (g ++ O.lst ((S.blocks.map (ageB k)).map bD) :: t2 ++ t4).set g.length (.lst (((S.blocks.map (ageB k)).map bD).set a.at (bD (fillB (ageB k b) (.key k))))) = g ++ .lst ((behB S a r b).map bD) :: (t2 ++ t4) := by
          rw [List.append_assoc]
          show (g ++ O.lst ((S.blocks.map (ageB k)).map bD) :: (t2 ++ t4)).set g.length _ = _
          rw [set_mid, eg]
          unfold cpB
          rw [List.map_set]
        refine ⟨g.length, a.at, (S.blocks.map (ageB k)).map bD, rfl, rfl, by simp, by simpa using hi, g.length, [.lst (S.blocks.map bD)] ++ .lst ((behB S a r b).map bD) :: (t2 ++ t4), rfl, ?_, ?_⟩
        · show (g ++ O.lst ((S.blocks.map (ageB k)).map bD) :: t2 ++ t4).set g.length (.lst (((S.blocks.map (ageB k)).map bD).set a.at (bD (fillB (ageB k b) (.key k))))) = _
          rw [es, ← hg, List.append_assoc]
        · show ((g ++ O.lst ((S.blocks.map (ageB k)).map bD) :: t2 ++ t4).set g.length (.lst (((S.blocks.map (ageB k)).map bD).set a.at (bD (fillB (ageB k b) (.key k))))))[g.length]? = _
          rw [es, get_mid]
  · rintro s h1 ⟨n, t, e3, rfl, e4⟩
    refine nx_ret ?_
    refine OK.of (d := .tup ((behB S a r b).map bD)) (h := h ++ t) ?_ ⟨rfl, t, rfl⟩
    simp only [x_args, evR_cons, evR_nil, x_var, e3, ofO_some, RD.bind_ok, tup_ref e4]
theorem x_lawafter {S : Sd} {pages : Nat} {a : Ac} {b : Lf × List Pg} (o : SdOk S pages) (ha : AcOk S a b) (r : Rp) (h : Hm) :
    ∃ t, m__law_after [S.enc, acD a, .str r.s] h = .ok (beh S a r b).enc (h ++ t) := by
  obtain ⟨t, er⟩ := x_lawrows o ha r h
  have i0 : ∀ h : Hm, dIx S.enc (.int 0) h = .ok (.int S.keys) h := fun h => ix_tup (k := 0) rfl
  have i2 : ∀ h : Hm, dIx S.enc (.int 2) h = .ok (.int S.fails) h := fun h => ix_tup (k := 2) rfl
  have i3 : ∀ h : Hm, dIx S.enc (.int 3) h = .ok (.int S.cuts) h := fun h => ix_tup (k := 3) rfl
  have i4 : ∀ h : Hm, dIx S.enc (.int 4) h = .ok (dueD S.due) h := fun h => ix_tup (k := 4) rfl
  refine of_ok (ok_run ?_)
  show NX (g__law_after [some S.enc, some (acD a), some (.str r.s), none, none] h) _ _
  unfold g__law_after
  refine nx_seq (nx_set ?_)
  simp -implicitDefEqProofs only [ok_ok, ok_bind, ok_tb, bl_bl, x_bin, x_args, evR_cons, evR_nil, x_var, x_c, ofO_some, x_and, x_or, x_not, x_eif, x_chain, x_lst, x_tup, x_isi, List.getElem?_cons_zero, List.getElem?_cons_succ, List.set_cons_zero, List.set_cons_succ, o_cmp, o_sub, o_add, o_int, o_is_n, o_is_b, o_isN_n, o_isN_b, q_int, nq_int, er]
  refine nx_seq (nx_ifP (p := r = .bad) (h1 := h ++ t) (rp_test .bad rfl) (fun hr => ?_) (fun hr => nx_next ?_))
  · subst hr
    refine nx_ret ?_
    simp -implicitDefEqProofs only [ok_ok, ok_bind, ok_tb, bl_bl, x_bin, x_args, evR_cons, evR_nil, x_var, x_c, ofO_some, x_and, x_or, x_not, x_eif, x_chain, x_lst, x_tup, x_isi, List.getElem?_cons_zero, List.getElem?_cons_succ, List.set_cons_zero, List.set_cons_succ, o_cmp, o_sub, o_add, o_int, o_is_n, o_is_b, o_isN_n, o_isN_b, q_int, nq_int, i0, i2, i3, i4]
    exact ⟨rfl, t, rfl⟩
  refine nx_seq (nx_ifP (p := r = .cut ∨ r = .late) (h1 := h ++ t) ?_ (fun hd => ?_) (fun hd => nx_next ?_))
  · have e1 := rp_test (s := [some S.enc, some (acD a), some (.str r.s), some (.tup ((behB S a r b).map bD)), none]) (h := h ++ t) (i := 2) (r := r) .cut rfl
    have e2 := rp_test (s := [some S.enc, some (acD a), some (.str r.s), some (.tup ((behB S a r b).map bD)), none]) (h := h ++ t) (i := 2) (r := r) .late rfl
    rw [x_or, show (eBin dEq (eVar 2) (eC (.str "cut"))) [some S.enc, some (acD a), some (.str r.s), some (.tup ((behB S a r b).map bD)), none] (h ++ t) = _ from e1, tb_ok]
    by_cases hc : r = .cut
    · simp [hc]
    · rw [if_neg (by simp [hc]), show (eBin dEq (eVar 2) (eC (.str "late"))) [some S.enc, some (acD a), some (.str r.s), some (.tup ((behB S a r b).map bD)), none] (h ++ t) = _ from e2]
      simp [hc]
  · refine nx_ret ?_
    simp -implicitDefEqProofs only [ok_ok, ok_bind, ok_tb, bl_bl, x_bin, x_args, evR_cons, evR_nil, x_var, x_c, ofO_some, x_and, x_or, x_not, x_eif, x_chain, x_lst, x_tup, x_isi, List.getElem?_cons_zero, List.getElem?_cons_succ, List.set_cons_zero, List.set_cons_succ, o_cmp, o_sub, o_add, o_int, o_is_n, o_is_b, o_isN_n, o_isN_b, q_int, nq_int, i0, i2, i3, i4]
    refine ⟨?_, t, rfl⟩
    rcases hd with rfl | rfl <;> rfl
  · have hdone : r = .done := by
      cases r with
      | done => rfl
      | bad => exact absurd rfl hr
      | cut => exact absurd (.inl rfl) hd
      | late => exact absurd (.inr rfl) hd
    subst hdone
    refine nx_seq (nx_set ?_)
    simp -implicitDefEqProofs only [ok_ok, ok_bind, ok_tb, bl_bl, x_bin, x_args, evR_cons, evR_nil, x_var, x_c, ofO_some, x_and, x_or, x_not, x_eif, x_chain, x_lst, x_tup, x_isi, List.getElem?_cons_zero, List.getElem?_cons_succ, List.set_cons_zero, List.set_cons_succ, o_cmp, o_sub, o_add, o_int, o_is_n, o_is_b, o_isN_n, o_isN_b, q_int, nq_int, i4]
    refine nx_seq (NX.mono (N := fun s h1 => s = [some S.enc, some (acD a), some (.str (Rp.s .done)), some (.tup ((behB S a .done b).map bD)), some (dueD (beh S a .done b).due)] ∧ h1 = h ++ t) (T := fun _ _ => False) ?_ ?_ (fun _ _ z => False.elim z))
    · refine nx_ifP (p := acW a = "write") (h1 := h ++ t) (by simp [ac_word]) (fun hw => ?_) (fun hw => ?_)
      · cases a with
        | er i => exact absurd (show ("erase" : Str) = "write" from hw) (by decide)
        | cp k i => exact absurd (show ("copy" : Str) = "write" from hw) (by decide)
        | wr i =>
          refine nx_set ?_
          simp -implicitDefEqProofs only [ok_ok, ok_bind, ok_tb, bl_bl, x_bin, x_args, evR_cons, evR_nil, x_var, x_c, ofO_some, x_and, x_or, x_not, x_eif, x_chain, x_lst, x_tup, x_isi, List.getElem?_cons_zero, List.getElem?_cons_succ, List.set_cons_zero, List.set_cons_succ, o_cmp, o_sub, o_add, o_int, o_is_n, o_is_b, o_isN_n, o_isN_b, q_int, nq_int]
          exact ⟨rfl, trivial⟩
      · cases a with
        | wr i => exact absurd rfl hw
        | er i => exact nx_next ⟨rfl, rfl⟩
        | cp k i => exact nx_next ⟨rfl, rfl⟩
    · rintro _ _ ⟨rfl, rfl⟩
      refine nx_ret ?_
      simp -implicitDefEqProofs only [ok_ok, ok_bind, ok_tb, bl_bl, x_bin, x_args, evR_cons, evR_nil, x_var, x_c, ofO_some, x_and, x_or, x_not, x_eif, x_chain, x_lst, x_tup, x_isi, List.getElem?_cons_zero, List.getElem?_cons_succ, List.set_cons_zero, List.set_cons_succ, o_cmp, o_sub, o_add, o_int, o_is_n, o_is_b, o_isN_n, o_isN_b, q_int, nq_int, i0, i2, i3, i4]
      exact ⟨rfl, t, rfl⟩
end Sh.k07

set_option linter.all false
namespace Sh.k07
open PySem L2 PyProof.Rows Sh
abbrev sm4 : FS := (gSeq (gFor (fiRg [(eBin dAdd (eC (.int 1)) (eBin dIx (eVar 4) (eC (.int 1))))]) (tName 8) (gSeq (gSet 9 (eArgs m__law_digits [(eArgs m__law_cell [(eVar 0), (eBin dAdd (eBin dAdd (eVar 1) (eC (.int 1))) (eVar 8))]), (eLst [(eC (.int 6)), (eC (.int 4)), (eC (.int 36)), (eC (.int 36))])]))
    (gSeq (gSet 10 (eArgs m__law_small_left [(eBin dIx (eVar 9) (eC (.int 0)))]))
    (gSeq (gSet 11 (eBin dMod (eArgs bInt [(eBin dIx (eVar 9) (eC (.int 1)))]) (eBin dAdd (eC (.int 2)) (eBin dIx (eVar 4) (eC (.int 2))))))
    (gSeq (gIf (eBin dIs (eVar 10) (eC .non)) (gSet 11 (eBin dAdd (eC (.int 1)) (eBin dIx (eVar 4) (eC (.int 2))))) gNext)
    (gDrop (eLm lAppend (eVar 7) [(eTup [(eVar 10), (eArgs m__law_pages [(eSl (eVar 9) (some (eC (.int 2))) none), (eVar 6), (eBin dAdd (eC (.int 1)) (eBin dIx (eVar 4) (eC (.int 2)))), (eVar 11)])])])))))))
    (gSeq (gSet 12 (eC .non))
    (gSeq (gIf (eBin (dCmp fun i j => decide (j ≤ i)) (eBin dIx (eVar 4) (eC (.int 5))) (eC (.int 2))) (gSet 12 (eBin dMod (eArgs bInt [(eBin dIx (eVar 4) (eC (.int 5)))]) (eVar 5))) gNext)
    (gRet (eTup [(eVar 5), (eArgs bTuple [(eVar 7)]), (eBin dIx (eVar 4) (eC (.int 3))), (eBin dIx (eVar 4) (eC (.int 4))), (eVar 12)])))))
abbrev smB : FS := (gSeq (gSet 9 (eArgs m__law_digits [(eArgs m__law_cell [(eVar 0), (eBin dAdd (eBin dAdd (eVar 1) (eC (.int 1))) (eVar 8))]), (eLst [(eC (.int 6)), (eC (.int 4)), (eC (.int 36)), (eC (.int 36))])]))
    (gSeq (gSet 10 (eArgs m__law_small_left [(eBin dIx (eVar 9) (eC (.int 0)))]))
    (gSeq (gSet 11 (eBin dMod (eArgs bInt [(eBin dIx (eVar 9) (eC (.int 1)))]) (eBin dAdd (eC (.int 2)) (eBin dIx (eVar 4) (eC (.int 2))))))
    (gSeq (gIf (eBin dIs (eVar 10) (eC .non)) (gSet 11 (eBin dAdd (eC (.int 1)) (eBin dIx (eVar 4) (eC (.int 2))))) gNext)
    (gDrop (eLm lAppend (eVar 7) [(eTup [(eVar 10), (eArgs m__law_pages [(eSl (eVar 9) (some (eC (.int 2))) none), (eVar 6), (eBin dAdd (eC (.int 1)) (eBin dIx (eVar 4) (eC (.int 2)))), (eVar 11)])])]))))))
abbrev smC : FS := (gSeq (gSet 10 (eArgs m__law_small_left [(eBin dIx (eVar 9) (eC (.int 0)))]))
    (gSeq (gSet 11 (eBin dMod (eArgs bInt [(eBin dIx (eVar 9) (eC (.int 1)))]) (eBin dAdd (eC (.int 2)) (eBin dIx (eVar 4) (eC (.int 2))))))
    (gSeq (gIf (eBin dIs (eVar 10) (eC .non)) (gSet 11 (eBin dAdd (eC (.int 1)) (eBin dIx (eVar 4) (eC (.int 2))))) gNext)
    (gDrop (eLm lAppend (eVar 7) [(eTup [(eVar 10), (eArgs m__law_pages [(eSl (eVar 9) (some (eC (.int 2))) none), (eVar 6), (eBin dAdd (eC (.int 1)) (eBin dIx (eVar 4) (eC (.int 2)))), (eVar 11)])])])))))
abbrev sm5 : FS := (gSeq (gSet 12 (eC .non))
    (gSeq (gIf (eBin (dCmp fun i j => decide (j ≤ i)) (eBin dIx (eVar 4) (eC (.int 5))) (eC (.int 2))) (gSet 12 (eBin dMod (eArgs bInt [(eBin dIx (eVar 4) (eC (.int 5)))]) (eVar 5))) gNext)
    (gRet (eTup [(eVar 5), (eArgs bTuple [(eVar 7)]), (eBin dIx (eVar 4) (eC (.int 3))), (eBin dIx (eVar 4) (eC (.int 4))), (eVar 12)]))))
end Sh.k07

set_option linter.all false
set_option maxRecDepth 100000
namespace Sh.k07
open PySem L2 PyProof.Rows Sh
theorem ok_append {fo e : FE} {s : DS} {h : Hm} {Q : D → Hm → Prop} (x : OK (fo s h) fun d h1 => ∃ (n : Nat) (xs : List D), d = .ref n ∧ h1[n]? = some (.lst xs) ∧ OK (e s h1) fun v h2 => ∃ ys : List D, h2[n]? = some (.lst ys) ∧ ys.length < 1000000 ∧ Q .non (h2.set n (.lst (ys ++ [v])))) :
    OK (eLm lAppend fo [e] s h) Q := by
  obtain ⟨d, h1, e1, n, xs, rfl, e2, q⟩ := x.get
  obtain ⟨v, h2, e3, ys, e4, hl, q⟩ := q.get
  rw [x_lm, e1, RD.bind_ok, lmB_ref (gl := lAppend) e2, evR_cons, e3, RD.bind_ok, evR_nil, lmC_ok (gl := lAppend) e4, app_ok hl, ok_ok]
  exact q
theorem sl_fromL {h : Hm} {n k : Nat} {i : Int} {xs : List D} (e : h[n]? = some (.lst xs)) (hi : i = (k : Int)) : dSl (.ref n) (some i) none h = .ok (.ref h.length) (h ++ [.lst (xs.drop k)]) := by
  subst hi
  simp only [dSl, e, cutD, HT.sIx_none, HT.sIx_nat]
  by_cases hk : k ≤ xs.length
  · rw [Nat.min_eq_left hk, List.take_of_length_le (by rw [List.length_drop]; exact Nat.le_refl _)]
  · rw [Nat.min_eq_right (by omega), List.drop_of_length_le (Nat.le_refl _), List.drop_of_length_le (by omega)]
    simp
theorem x_smallleft (e : Int) (h0 : 0 ≤ e ∧ e < 6) (h : Hm) : ∃ l o, m__law_small_left [.int e] h = .ok (lD l) (h ++ [o]) ∧ lfOk l := by
  have run : ∀ (k : Nat) (l : Lf), e = (k : Int) → ([D.int 0, .int 1, .int 2, .str "ever", .non, .int 1] : List D)[k]? = some (lD l) → m__law_small_left [.int e] h = .ok (lD l) (h ++ [.lst [D.int 0, .int 1, .int 2, .str "ever", .non, .int 1]]) := by
    intro k l he hk
    subst he
    rw [m__law_small_left, x_run]
    show ((gRet _) [some (.int (k : Int))] h).out = _
    have ei : dIx (.ref h.length) (.int (k : Int)) (h ++ [.lst [D.int 0, .int 1, .int 2, .str "ever", .non, .int 1]]) = .ok (lD l) (h ++ [.lst [D.int 0, .int 1, .int 2, .str "ever", .non, .int 1]]) := ix_ref get_last hk
    simp only [x_ret, x_bin, x_lst, evR_cons, evR_nil, x_c, RD.bind_ok, x_var, List.getElem?_cons_zero, ofO_some, ei, RD.st_ok, out_rt]
  have hc : e = 0 ∨ e = 1 ∨ e = 2 ∨ e = 3 ∨ e = 4 ∨ e = 5 := by omega
  rcases hc with h1 | h1 | h1 | h1 | h1 | h1
  · exact ⟨.num 0, _, run 0 _ h1 rfl, by show (0 : Int) ≤ 0 ∧ (0 : Int) ≤ 99; omega⟩
  · exact ⟨.num 1, _, run 1 _ h1 rfl, by show (0 : Int) ≤ 1 ∧ (1 : Int) ≤ 99; omega⟩
  · exact ⟨.num 2, _, run 2 _ h1 rfl, by show (0 : Int) ≤ 2 ∧ (2 : Int) ≤ 99; omega⟩
  · exact ⟨.ever, _, run 3 _ h1 rfl, trivial⟩
  · exact ⟨.bad, _, run 4 _ h1 rfl, trivial⟩
  · exact ⟨.num 1, _, run 5 _ h1 rfl, by show (0 : Int) ≤ 1 ∧ (1 : Int) ≤ 99; omega⟩
theorem allKeys_snoc (acc : List (Lf × List Pg)) (b : Lf × List Pg) : allKeys (acc ++ [b]) = allKeys acc ++ keysOf b.2 := by simp [allKeys]
section
variable {ns : List Int} {P : Nat}
def SmI (ns : List Int) (k0 k1 k2 k3 k4 k5 : Int) (nh nr nw P : Nat) (rs0 : List Int) (j : Nat) (s : DS) (g : Hm) : Prop :=
  ∃ (acc : List (Lf × List Pg)) (rs : List Int) (x8 x9 x10 x11 : Option D), s = [some (.scl (ns.map D.int)), some (.int 1), some (.int 2), some (.int 2), some (.ref nh), some (.int (1 + k0)), some (.ref nr), some (.ref nw), x8, x9, x10, x11, none] ∧
    g[nh]? = some (.lst (([k0, k1, k2, k3, k4, k5] : List Int).map D.int)) ∧ g[nr]? = some (.lst (rs.map D.int)) ∧ g[nw]? = some (.lst (acc.map bD)) ∧ rs.length < 1000 ∧ acc.length = j ∧ (∀ b ∈ acc, BkOk P b) ∧ (allKeys acc ++ rs).Perm rs0
theorem sm_turn {k0 k1 k2 k3 k4 k5 : Int} {nh nr nw j : Nat} {rs0 : List Int} {s : DS} {g : Hm} {T : D → Hm → Prop} (n1 : nh ≠ nr) (n2 : nw ≠ nr) (n3 : nh ≠ nw) (hP : (P : Int) = 1 + k2) (hk2 : 0 ≤ k2 ∧ k2 < 2) (hj : j < 1000) (i : SmI ns k0 k1 k2 k3 k4 k5 nh nr nw P rs0 j s g) :
    NX (smB (s.set 8 (some (.int (j : Nat)))) g) (SmI ns k0 k1 k2 k3 k4 k5 nh nr nw P rs0 (j + 1)) T := by
  obtain ⟨acc, rs, x8, x9, x10, x11, rfl, eh, er, ew, hrl, hal, hbk, hpm⟩ := i
  simp only [List.set_cons_zero, List.set_cons_succ]
  obtain ⟨c, ec⟩ := x_cell ns (1 + 1 + (j : Int)) g (by omega)
  have hz : (g ++ [O.lst (([6, 4, 36, 36] : List Int).map D.int)])[g.length]? = some (.lst (([6, 4, 36, 36] : List Int).map D.int)) := get_last
  obtain ⟨ds, hD, ed⟩ := x_digits (g ++ [O.lst (([6, 4, 36, 36] : List Int).map D.int)]) g.length [6, 4, 36, 36] hz c (by intro z hz; simp at hz; omega) (by simp)
  have hdl := dig_len hD
  obtain ⟨e0, e1, e2, e3, rfl⟩ : ∃ e0 e1 e2 e3, ds = [e0, e1, e2, e3] := by
    match ds, hdl with
    | [e0, e1, e2, e3], _ => exact ⟨e0, e1, e2, e3, rfl⟩
  obtain ⟨d0, d1, d2, d3, _⟩ := hD
  refine nx_seq (nx_set ?_)
  have ed' : m__law_digits [.int c, .ref g.length] (g ++ [O.lst [.int 6, .int 4, .int 36, .int 36]]) = .ok (.ref (g ++ [O.lst [.int 6, .int 4, .int 36, .int 36]]).length) (g ++ [O.lst [.int 6, .int 4, .int 36, .int 36]] ++ [.lst (([e0, e1, e2, e3] : List Int).map D.int)]) := ed
  simp -implicitDefEqProofs only [ok_ok, ok_bind, ok_tb, bl_bl, x_bin, x_args, evR_cons, evR_nil, x_var, x_c, ofO_some, x_and, x_or, x_not, x_eif, x_chain, x_lst, x_tup, x_isi, List.getElem?_cons_zero, List.getElem?_cons_succ, List.set_cons_zero, List.set_cons_succ, o_cmp, o_sub, o_add, o_int, o_is_n, o_is_b, o_isN_n, o_isN_b, q_int, nq_int, ec, ed']
  generalize hnd : (g ++ [O.lst [.int 6, .int 4, .int 36, .int 36]]).length = nd
  have hndl : nd = g.length + 1 := by rw [← hnd]; simp
  obtain ⟨g1, hg1⟩ : ∃ g1 : Hm, g1 = g ++ [O.lst [.int 6, .int 4, .int 36, .int 36]] ++ [.lst (([e0, e1, e2, e3] : List Int).map D.int)] := ⟨_, rfl⟩
  have eD : g1[nd]? = some (.lst (([e0, e1, e2, e3] : List Int).map D.int)) := by rw [hg1, ← hnd]; exact get_last
  have o1 : ∀ {n : Nat} {o : O}, g[n]? = some o → g1[n]? = some o := fun e => by rw [hg1, List.append_assoc]; exact old e
  have hg1l : g1.length = g.length + 2 := by rw [hg1]; simp
  rw [← hg1]
  have ix : ∀ (h : Hm) (k : Nat) (v : Int), h[nd]? = some (.lst (([e0, e1, e2, e3] : List Int).map D.int)) → ([e0, e1, e2, e3] : List Int)[k]? = some v → dIx (.ref nd) (.int k) h = .ok (.int v) h := fun h k v a b => ix_ref a (by rw [List.getElem?_map, b]; rfl)
  have hx2 : ∀ (h : Hm), h[nh]? = some (.lst (([k0, k1, k2, k3, k4, k5] : List Int).map D.int)) → dIx (.ref nh) (.int 2) h = .ok (.int k2) h := fun h a => ix_ref (k := 2) a rfl
  refine nx_seq (nx_set ?_)
  obtain ⟨l, o, el, hlf⟩ := x_smallleft e0 ⟨d0.1, by omega⟩ g1
  have j0 : dIx (.ref nd) (.int 0) g1 = .ok (.int e0) g1 := ix g1 0 e0 eD rfl
  simp -implicitDefEqProofs only [ok_ok, ok_bind, ok_tb, bl_bl, x_bin, x_args, evR_cons, evR_nil, x_var, x_c, ofO_some, x_and, x_or, x_not, x_eif, x_chain, x_lst, x_tup, x_isi, List.getElem?_cons_zero, List.getElem?_cons_succ, List.set_cons_zero, List.set_cons_succ, o_cmp, o_sub, o_add, o_int, o_is_n, o_is_b, o_isN_n, o_isN_b, q_int, nq_int, j0, el]
  obtain ⟨g2, hg2⟩ : ∃ g2 : Hm, g2 = g1 ++ [o] := ⟨_, rfl⟩
  have o2 : ∀ {n : Nat} {o : O}, g1[n]? = some o → g2[n]? = some o := fun e => by rw [hg2]; exact old e
  rw [← hg2]
  have hg2l : g2.length = g.length + 3 := by rw [hg2]; simp [hg1l]
  refine nx_seq (nx_set ?_)
  have j1 : dIx (.ref nd) (.int 1) g2 = .ok (.int e1) g2 := ix g2 1 e1 (o2 eD) rfl
  simp -implicitDefEqProofs only [ok_ok, ok_bind, ok_tb, bl_bl, x_bin, x_args, evR_cons, evR_nil, x_var, x_c, ofO_some, x_and, x_or, x_not, x_eif, x_chain, x_lst, x_tup, x_isi, List.getElem?_cons_zero, List.getElem?_cons_succ, List.set_cons_zero, List.set_cons_succ, o_cmp, o_sub, o_add, o_int, o_is_n, o_is_b, o_isN_n, o_isN_b, q_int, nq_int, j1, hx2 g2 (o2 (o1 eh)), o_mod, if_pos (show (0 : Int) < 2 + k2 by omega)]
  have hW : 0 ≤ e1 % (2 + k2) ∧ e1 % (2 + k2) < 2 + k2 := ⟨Int.emod_nonneg _ (by omega), Int.emod_lt_of_pos _ (by omega)⟩
  generalize e1 % (2 + k2) = W0 at hW
  refine nx_seq (NX.mono (N := fun s h1 => ∃ W : Nat, W ≤ P ∧ (l = .bad → W = P) ∧ g2 = h1 ∧ s = [some (.scl (ns.map D.int)), some (.int 1), some (.int 2), some (.int 2), some (.ref nh), some (.int (1 + k0)), some (.ref nr), some (.ref nw), some (.int (j : Nat)), some (.ref nd), some (lD l), some (.int (W : Nat)), none]) (T := fun _ _ => False) ?_ ?_ (fun _ _ z => False.elim z))
  · refine nx_ifP (p := l = .bad) (h1 := g2) ?_ (fun hb => ?_) (fun hb => ?_)
    · simp [lD_non]
    · refine nx_set ?_
      simp -implicitDefEqProofs only [ok_ok, ok_bind, ok_tb, bl_bl, x_bin, x_args, evR_cons, evR_nil, x_var, x_c, ofO_some, x_and, x_or, x_not, x_eif, x_chain, x_lst, x_tup, x_isi, List.getElem?_cons_zero, List.getElem?_cons_succ, List.set_cons_zero, List.set_cons_succ, o_cmp, o_sub, o_add, o_int, o_is_n, o_is_b, o_isN_n, o_isN_b, q_int, nq_int, hx2 g2 (o2 (o1 eh))]
      exact ⟨P, Nat.le_refl _, fun _ => rfl, trivial, by rw [hP]⟩
    · obtain ⟨W, hWn⟩ := Int.eq_ofNat_of_zero_le hW.1
      refine nx_next ⟨W, by omega, fun z => absurd z hb, rfl, by rw [hWn]⟩
  · rintro _ _ ⟨W, hW1, hW2, rfl, rfl⟩
    have sl := sl_fromL (k := 2) (i := 2) (o2 eD) rfl
    have hdrop : (([e0, e1, e2, e3] : List Int).map D.int).drop 2 = ([e2, e3] : List Int).map D.int := rfl
    rw [hdrop] at sl
    have o3 : ∀ {n : Nat} {o : O}, g[n]? = some o → (g2 ++ [O.lst (([e2, e3] : List Int).map D.int)])[n]? = some o := fun e => old (o2 (o1 e))
    have lnr := lt_of_get er
    have lnw := lt_of_get ew
    have lnh := lt_of_get eh
    obtain ⟨ps, rs', p1, p2, p3, ep⟩ := x_pages (g2 ++ [O.lst (([e2, e3] : List Int).map D.int)]) g2.length nr [e2, e3] rs P W get_last (o3 er) (by omega) (by intro d hd; simp at hd; omega) hW1 (by simp; omega) (by omega) hrl
    refine nx_drop (ok_append ?_)
    simp -implicitDefEqProofs only [ok_ok, ok_bind, ok_tb, bl_bl, x_bin, x_args, evR_cons, evR_nil, x_var, x_c, ofO_some, x_and, x_or, x_not, x_eif, x_chain, x_lst, x_tup, x_isi, List.getElem?_cons_zero, List.getElem?_cons_succ, List.set_cons_zero, List.set_cons_succ, o_cmp, o_sub, o_add, o_int, o_is_n, o_is_b, o_isN_n, o_isN_b, q_int, nq_int]
    refine ⟨nw, _, rfl, o2 (o1 ew), ?_⟩
    have ep' : m__law_pages [.ref g2.length, .ref nr, .int (1 + k2), .int (W : Nat)] (g2 ++ [O.lst (([e2, e3] : List Int).map D.int)]) = .ok (.tup (ps.map pD)) ((g2 ++ [O.lst (([e2, e3] : List Int).map D.int)]).set nr (.lst (rs'.map D.int)) ++ [.lst (ps.map pD)]) := by rw [← hP]; exact ep
    simp -implicitDefEqProofs only [ok_ok, ok_bind, ok_tb, bl_bl, x_bin, x_args, evR_cons, evR_nil, x_var, x_c, ofO_some, x_and, x_or, x_not, x_eif, x_chain, x_lst, x_tup, x_isi, List.getElem?_cons_zero, List.getElem?_cons_succ, List.set_cons_zero, List.set_cons_succ, o_cmp, o_sub, o_add, o_int, o_is_n, o_is_b, o_isN_n, o_isN_b, q_int, nq_int, x_slF, sl, hx2 _ (o3 eh), ep']
    have q1 : ∀ {n : Nat} {o : O}, n ≠ nr → g[n]? = some o → ((g2 ++ [O.lst (([e2, e3] : List Int).map D.int)]).set nr (.lst (rs'.map D.int)) ++ [O.lst (ps.map pD)])[n]? = some o := fun hn e => old (by rw [List.getElem?_set_ne (Ne.symm hn)]; exact o3 e)
    have q2 : ((g2 ++ [O.lst (([e2, e3] : List Int).map D.int)]).set nr (.lst (rs'.map D.int)) ++ [O.lst (ps.map pD)])[nr]? = some (.lst (rs'.map D.int)) := old (List.getElem?_set_self (lt_of_get (o3 er)))
    refine ⟨_, q1 n2 ew, by rw [List.length_map]; omega, acc ++ [(l, ps)], rs', _, _, _, _, rfl, ?_, ?_, ?_, ?_, by simp [hal], ?_, ?_⟩
    · rw [List.getElem?_set_ne (by omega)]; exact q1 n1 eh
    · rw [List.getElem?_set_ne n2]; exact q2
    · rw [List.getElem?_set_self (lt_of_get (q1 n2 ew)), List.map_append]
      rfl
    · have := p1.length_eq
      rw [List.length_append] at this
      omega
    · intro b hb
      rcases List.mem_append.mp hb with hb | hb
      · exact hbk b hb
      · simp at hb
        subst hb
        exact ⟨hlf, p2, W, hW1, hW2, p3⟩
    · rw [allKeys_snoc, List.append_assoc]
      exact (List.Perm.append_left _ p1).trans hpm
theorem sm5_ok {k0 k1 k2 k3 k4 k5 : Int} {nh nr nw j : Nat} {rs0 : List Int} {s : DS} {g : Hm} {N : DS → Hm → Prop} (hP : (P : Int) = 1 + k2) (hk0 : 0 ≤ k0 ∧ k0 < 3) (hk2 : 0 ≤ k2 ∧ k2 < 2) (hk3 : 0 ≤ k3 ∧ k3 < 3) (hk4 : 0 ≤ k4 ∧ k4 < 3) (hj : 1 ≤ j ∧ j ≤ 3) (i : SmI ns k0 k1 k2 k3 k4 k5 nh nr nw P rs0 j s g)
    (hrs : rs0.Nodup) (hrk : ∀ k ∈ rs0, 0 ≤ k ∧ k < 1 + k0) : NX (sm5 s g) N fun d _ => ∃ S, SdOk S P ∧ d = S.enc := by
  obtain ⟨acc, rs, x8, x9, x10, x11, rfl, eh, er, ew, hrl, hal, hbk, hpm⟩ := i
  have ix : ∀ (k : Nat) (v : Int), ([k0, k1, k2, k3, k4, k5] : List Int)[k]? = some v → dIx (.ref nh) (.int k) g = .ok (.int v) g := fun k v b => ix_ref eh (by rw [List.getElem?_map, b]; rfl)
  have j5 : dIx (.ref nh) (.int 5) g = .ok (.int k5) g := ix 5 k5 rfl
  have j3 : dIx (.ref nh) (.int 3) g = .ok (.int k3) g := ix 3 k3 rfl
  have j4 : dIx (.ref nh) (.int 4) g = .ok (.int k4) g := ix 4 k4 rfl
  refine nx_seq (nx_set ?_)
  simp -implicitDefEqProofs only [ok_ok, ok_bind, ok_tb, bl_bl, x_bin, x_args, evR_cons, evR_nil, x_var, x_c, ofO_some, x_and, x_or, x_not, x_eif, x_chain, x_lst, x_tup, x_isi, List.getElem?_cons_zero, List.getElem?_cons_succ, List.set_cons_zero, List.set_cons_succ, o_cmp, o_sub, o_add, o_int, o_is_n, o_is_b, o_isN_n, o_isN_b, q_int, nq_int]
  refine nx_seq (NX.mono (N := fun s h1 => ∃ due : Option Int, h1 = g ∧ (∀ k, due = some k → 0 ≤ k ∧ k < 1 + k0) ∧ s = [some (.scl (ns.map D.int)), some (.int 1), some (.int 2), some (.int 2), some (.ref nh), some (.int (1 + k0)), some (.ref nr), some (.ref nw), x8, x9, x10, x11, some (dueD due)]) (T := fun _ _ => False) ?_ ?_ (fun _ _ z => False.elim z))
  · refine nx_ifP (p := 2 ≤ k5) (h1 := g) (by simp only [x_bin, x_var, x_c, List.getElem?_cons_zero, List.getElem?_cons_succ, ofO_some, RD.bind_ok, j5, o_cmp]) (fun hc => ?_) (fun hc => ?_)
    · refine nx_set ?_
      simp -implicitDefEqProofs only [ok_ok, ok_bind, ok_tb, bl_bl, x_bin, x_args, evR_cons, evR_nil, x_var, x_c, ofO_some, x_and, x_or, x_not, x_eif, x_chain, x_lst, x_tup, x_isi, List.getElem?_cons_zero, List.getElem?_cons_succ, List.set_cons_zero, List.set_cons_succ, o_cmp, o_sub, o_add, o_int, o_is_n, o_is_b, o_isN_n, o_isN_b, q_int, nq_int, j5, o_mod, if_pos (show (0 : Int) < 1 + k0 by omega)]
      exact ⟨some (k5 % (1 + k0)), trivial, fun k hk => (by cases hk; exact ⟨Int.emod_nonneg _ (by omega), Int.emod_lt_of_pos _ (by omega)⟩), rfl⟩
    · exact nx_next ⟨none, rfl, fun k hk => (by cases hk), rfl⟩
  · rintro _ _ ⟨due, rfl, hdue, rfl⟩
    refine nx_ret ?_
    simp -implicitDefEqProofs only [ok_ok, ok_bind, ok_tb, bl_bl, x_bin, x_args, evR_cons, evR_nil, x_var, x_c, ofO_some, x_and, x_or, x_not, x_eif, x_chain, x_lst, x_tup, x_isi, List.getElem?_cons_zero, List.getElem?_cons_succ, List.set_cons_zero, List.set_cons_succ, o_cmp, o_sub, o_add, o_int, o_is_n, o_is_b, o_isN_n, o_isN_b, q_int, nq_int, tup_ref ew, j3, j4]
    have ndA : (allKeys acc ++ rs).Nodup := hpm.symm.nodup hrs
    exact ⟨⟨1 + k0, acc, k3, k4, due⟩, ⟨by show 1 ≤ 1 + k0; omega, by show 1 + k0 ≤ 9; omega, by show 1 ≤ acc.length; omega, by show acc.length ≤ 9; omega, by omega, by omega, hbk, (List.nodup_append.mp ndA).1, fun k hk => hrk k (hpm.subset (List.mem_append_left _ hk)), by show 0 ≤ k3 ∧ k3 ≤ 9; omega, by show 0 ≤ k4 ∧ k4 ≤ 9; omega, hdue⟩, rfl⟩
theorem x_small (h : Hm) : OK (m__law_small [.scl (ns.map D.int), .int 1, .int 2, .int 2] h) fun d _ => ∃ S P, SdOk S P ∧ d = S.enc := by
  obtain ⟨c, e0⟩ := x_cell ns 1 h (by omega)
  have hz : (h ++ [O.lst (([3, 3, 2, 3, 3, 4] : List Int).map D.int)])[h.length]? = some (.lst (([3, 3, 2, 3, 3, 4] : List Int).map D.int)) := get_last
  obtain ⟨ds, hD, e1⟩ := x_digits (h ++ [O.lst (([3, 3, 2, 3, 3, 4] : List Int).map D.int)]) h.length [3, 3, 2, 3, 3, 4] hz c (by intro z hz; simp at hz; omega) (by simp)
  have hdl := dig_len hD
  obtain ⟨k0, k1, k2, k3, k4, k5, rfl⟩ : ∃ k0 k1 k2 k3 k4 k5, ds = [k0, k1, k2, k3, k4, k5] := by
    match ds, hdl with
    | [k0, k1, k2, k3, k4, k5], _ => exact ⟨k0, k1, k2, k3, k4, k5, rfl⟩
  obtain ⟨d0, d1, d2, d3, d4, d5, _⟩ := hD
  refine ok_run ?_
  show NX (g__law_small [some (.scl (ns.map D.int)), some (.int 1), some (.int 2), some (.int 2), none, none, none, none, none, none, none, none, none] h) _ _
  unfold g__law_small
  refine nx_seq (nx_set ?_)
  have e1' : m__law_digits [.int c, .ref h.length] (h ++ [O.lst [.int 3, .int 3, .int 2, .int (2 + 1), .int (2 + 1), .int 4]]) = .ok (.ref (h ++ [O.lst [.int 3, .int 3, .int 2, .int 3, .int 3, .int 4]]).length) (h ++ [O.lst [.int 3, .int 3, .int 2, .int 3, .int 3, .int 4]] ++ [.lst (([k0, k1, k2, k3, k4, k5] : List Int).map D.int)]) := e1
  simp -implicitDefEqProofs only [ok_ok, ok_bind, ok_tb, bl_bl, x_bin, x_args, evR_cons, evR_nil, x_var, x_c, ofO_some, x_and, x_or, x_not, x_eif, x_chain, x_lst, x_tup, x_isi, List.getElem?_cons_zero, List.getElem?_cons_succ, List.set_cons_zero, List.set_cons_succ, o_cmp, o_sub, o_add, o_int, o_is_n, o_is_b, o_isN_n, o_isN_b, q_int, nq_int, e0, e1']
  generalize hnh : (h ++ [O.lst [.int 3, .int 3, .int 2, .int 3, .int 3, .int 4]]).length = nh
  obtain ⟨g, hg⟩ : ∃ g : Hm, g = h ++ [O.lst [.int 3, .int 3, .int 2, .int 3, .int 3, .int 4]] ++ [.lst (([k0, k1, k2, k3, k4, k5] : List Int).map D.int)] := ⟨_, rfl⟩
  rw [← hg]
  have eh : g[nh]? = some (.lst (([k0, k1, k2, k3, k4, k5] : List Int).map D.int)) := by rw [hg, ← hnh]; exact get_last
  have lnh := lt_of_get eh
  have ix : ∀ (t : Hm) (k : Nat) (v : Int), ([k0, k1, k2, k3, k4, k5] : List Int)[k]? = some v → dIx (.ref nh) (.int k) (g ++ t) = .ok (.int v) (g ++ t) := fun t k v b => ix_ref (old eh) (by rw [List.getElem?_map, b]; rfl)
  have i0 : dIx (.ref nh) (.int 0) g = .ok (.int k0) g := ix_ref (k := 0) eh rfl
  refine nx_seq (nx_set ?_)
  simp -implicitDefEqProofs only [ok_ok, ok_bind, ok_tb, bl_bl, x_bin, x_args, evR_cons, evR_nil, x_var, x_c, ofO_some, x_and, x_or, x_not, x_eif, x_chain, x_lst, x_tup, x_isi, List.getElem?_cons_zero, List.getElem?_cons_succ, List.set_cons_zero, List.set_cons_succ, o_cmp, o_sub, o_add, o_int, o_is_n, o_is_b, o_isN_n, o_isN_b, q_int, nq_int, i0]
  refine nx_seq (nx_set ?_)
  have elr : eListRg (eVar 5) [some (.scl (ns.map D.int)), some (.int 1), some (.int 2), some (.int 2), some (.ref nh), some (.int (1 + k0)), none, none, none, none, none, none, none] g = .ok (.ref g.length) (g ++ [.lst (rgD 0 (1 + k0))]) := by
    have hb : 1 + k0 ≤ 1000000 ∧ -1000000 ≤ 1 + k0 := by omega
    simp [eListRg, bListRg, hb]
  refine OK.of elr ?_
  simp only [List.set_cons_zero, List.set_cons_succ]
  refine nx_seq (nx_set ?_)
  simp -implicitDefEqProofs only [ok_ok, ok_bind, ok_tb, bl_bl, x_bin, x_args, evR_cons, evR_nil, x_var, x_c, ofO_some, x_and, x_or, x_not, x_eif, x_chain, x_lst, x_tup, x_isi, List.getElem?_cons_zero, List.getElem?_cons_succ, List.set_cons_zero, List.set_cons_succ, o_cmp, o_sub, o_add, o_int, o_is_n, o_is_b, o_isN_n, o_isN_b, q_int, nq_int]
  let rs0 : List Int := (List.range (1 + k0).toNat).map fun i : Nat => (i : Int)
  have er0 : rgD 0 (1 + k0) = rs0.map D.int := by simp [rgD, rs0]
  obtain ⟨M, hM⟩ := Int.eq_ofNat_of_zero_le (show 0 ≤ 1 + k1 by omega)
  have hnr : (g ++ [O.lst (rgD 0 (1 + k0))]).length = g.length + 1 := by simp
  rw [hnr]
  have n1 : nh ≠ g.length := by omega
  have n2 : g.length + 1 ≠ g.length := by omega
  have n3 : nh ≠ g.length + 1 := by omega
  have hP : (((1 + k2).toNat : Nat) : Int) = 1 + k2 := by omega
  refine nx_seq (nx_forR (n := M) (h1 := g ++ [.lst (rgD 0 (1 + k0))] ++ [.lst []]) (SmI ns k0 k1 k2 k3 k4 k5 nh g.length (g.length + 1) (1 + k2).toNat rs0) (by omega) ?_ ?_ ?_ ?_)
  · have e : dIx (.ref nh) (.int 1) (g ++ [.lst (rgD 0 (1 + k0))] ++ [.lst []]) = .ok (.int k1) (g ++ [.lst (rgD 0 (1 + k0))] ++ [.lst []]) := by
      have e := ix ([.lst (rgD 0 (1 + k0))] ++ [.lst []]) 1 k1 rfl
      rw [← List.append_assoc] at e
      exact e
    simp only [x_bin, x_var, x_c, List.getElem?_cons_zero, List.getElem?_cons_succ, ofO_some, RD.bind_ok, e, o_add]
    rw [show (1 + k1) = ((M : Nat) : Int) by omega]
  · refine ⟨[], rs0, _, _, _, _, rfl, old (old eh), ?_, ?_, by simp [rs0]; omega, rfl, fun b hb => (by cases hb), .refl _⟩
    · rw [← er0]; exact old get_last
    · rw [← hnr]; exact get_last
  · intro j s g' hj hi
    exact sm_turn n1 n2 n3 hP ⟨d2.1, by omega⟩ (by omega) hi
  · intro s g' hi
    have hrs : rs0.Nodup := by
      simp only [rs0]
      have hr : (List.range (1 + k0).toNat).Pairwise (fun a b => a ≠ b) := List.nodup_range
      refine List.pairwise_map.mpr ?_
      refine List.Pairwise.imp ?_ hr
      intro a b hab z
      exact hab (Int.ofNat.inj z)
    refine NX.mono (sm5_ok (N := fun _ _ => False) hP ⟨d0.1, by omega⟩ ⟨d2.1, by omega⟩ ⟨d3.1, by omega⟩ ⟨d4.1, by omega⟩ ⟨by omega, by omega⟩ hi hrs ?_) (fun _ _ z => False.elim z) ?_
    · intro k hk
      simp only [rs0, List.mem_map, List.mem_range] at hk
      obtain ⟨i, hi, rfl⟩ := hk
      omega
    · rintro d _ ⟨S, hS, rfl⟩
      exact ⟨S, _, hS, rfl⟩
theorem x_any (h : Hm) : OK (m__law_any_stand [.scl (ns.map D.int), .int 1] h) fun d _ => ∃ S P, SdOk S P ∧ d = S.enc := by
  obtain ⟨c, e0⟩ := x_cell ns 0 h (by omega)
  have hz : (h ++ [O.lst (([2] : List Int).map D.int)])[h.length]? = some (.lst (([2] : List Int).map D.int)) := get_last
  obtain ⟨ds, hD, e1⟩ := x_digits (h ++ [O.lst (([2] : List Int).map D.int)]) h.length [2] hz c (by intro z hz; simp at hz; omega) (by simp)
  have hdl := dig_len hD
  obtain ⟨k0, rfl⟩ : ∃ k0, ds = [k0] := by
    match ds, hdl with
    | [k0], _ => exact ⟨k0, rfl⟩
  have e1' : m__law_digits [.int c, .ref h.length] (h ++ [O.lst [.int 2]]) = .ok (.ref (h ++ [O.lst [.int 2]]).length) (h ++ [O.lst [.int 2]] ++ [.lst [.int k0]]) := e1
  have i0 : dIx (.ref (h ++ [O.lst [.int 2]]).length) (.int 0) (h ++ [O.lst [.int 2]] ++ [.lst [.int k0]]) = .ok (.int k0) (h ++ [O.lst [.int 2]] ++ [.lst [.int k0]]) := ix_ref (k := 0) get_last rfl
  refine ok_run ?_
  show NX (g__law_any_stand [some (.scl (ns.map D.int)), some (.int 1)] h) _ _
  unfold g__law_any_stand
  refine nx_seq (nx_ifP (p := k0 = 0) (h1 := h ++ [O.lst [.int 2]] ++ [.lst [.int k0]]) ?_ (fun hc => ?_) (fun hc => nx_next ?_))
  · simp only [x_bin, x_args, x_lst, evR_cons, evR_nil, x_var, x_c, List.getElem?_cons_zero, List.getElem?_cons_succ, ofO_some, RD.bind_ok, e0, e1', i0, q_int]
  · refine nx_ret ?_
    simp -implicitDefEqProofs only [ok_ok, ok_bind, ok_tb, bl_bl, x_bin, x_args, evR_cons, evR_nil, x_var, x_c, ofO_some, x_and, x_or, x_not, x_eif, x_chain, x_lst, x_tup, x_isi, List.getElem?_cons_zero, List.getElem?_cons_succ, List.set_cons_zero, List.set_cons_succ, o_cmp, o_sub, o_add, o_int, o_is_n, o_is_b, o_isN_n, o_isN_b, q_int, nq_int]
    obtain ⟨S, P, h', hS, e⟩ := x_drawn ns (h ++ [O.lst [.int 2]] ++ [.lst [.int k0]])
    exact OK.of e ⟨S, P, hS, rfl⟩
  · refine nx_ret ?_
    simp -implicitDefEqProofs only [ok_ok, ok_bind, ok_tb, bl_bl, x_bin, x_args, evR_cons, evR_nil, x_var, x_c, ofO_some, x_and, x_or, x_not, x_eif, x_chain, x_lst, x_tup, x_isi, List.getElem?_cons_zero, List.getElem?_cons_succ, List.set_cons_zero, List.set_cons_succ, o_cmp, o_sub, o_add, o_int, o_is_n, o_is_b, o_isN_n, o_isN_b, q_int, nq_int]
    exact x_small _
end
end Sh.k07

set_option linter.all false
set_option maxRecDepth 100000
namespace Sh.k07
open PySem L2 PyProof.Rows Sh
theorem nx_loopL {gt : GT} {gb : FS} {ck : Option (Nat × List D)} {N : DS → Hm → Prop} {T : D → Hm → Prop} (I : DS → Hm → Prop) (hck : ∀ s h, I s h → chkB ck h = true) : ∀ (xs : List D) (s : DS) (h : Hm),
    (∀ x ∈ xs, ∀ s h, I s h → ∃ s1, gt x s h = .nx s1 h ∧ NX (gb s1 h) I T) → I s h → (∀ s h, I s h → N s h) → NX (loopG ck gt gb xs s h) N T
  | [], s, h, _, i0, fin => by
    rw [loop_nil (hck _ _ i0)]
    exact .nx (fin _ _ i0)
  | x :: xs, s, h, turn, i0, fin => by
    obtain ⟨s1, e1, y⟩ := turn x List.mem_cons_self s h i0
    rw [loop_cons (hck _ _ i0) e1]
    generalize gb s1 h = r at y
    cases y with
    | nx q => exact nx_loopL I hck xs _ _ (fun z hz => turn z (List.mem_cons_of_mem _ hz)) q fin
    | rt q => exact .rt q
theorem nx_forL {f : FE} {gb : FS} {N : DS → Hm → Prop} {T : D → Hm → Prop} {v n : Nat} {xs : List D} {s : DS} {h h1 : Hm} (I : DS → Hm → Prop) (e : f s h = .ok (.ref n) h1) (e1 : h1[n]? = some (.lst xs)) (hck : ∀ s h, I s h → h[n]? = some (.lst xs)) (i0 : I s h1)
    (turn : ∀ x ∈ xs, ∀ s h, I s h → NX (gb (s.set v (some x)) h) I T) (fin : ∀ s h, I s h → N s h) : NX (gFor (fiSeq f) (tName v) gb s h) N T := by
  rw [for_ok (fi_ref e e1)]
  exact nx_loopL I (fun s h i => chk_ref (hck s h i)) xs s h1 (fun x hx s h i => ⟨_, rfl, turn x hx s h i⟩) i0 fin
theorem same_loop2 {F : FF} {xs ys : List D} {h : Hm} (hl : xs.length = ys.length) (hF : ∀ (k : Nat) (x y : D), xs[k]? = some x → ys[k]? = some y → F [x, y] h = .ok (.bl true) h) :
    ∀ (j k : Nat) (x2 : Option D), k + j = xs.length → ∃ x2', loopG none (tName 2) (gIf (eNot (eArgs F [(eBin dIx (eVar 0) (eVar 2)), (eBin dIx (eVar 1) (eVar 2))])) (gRet (eC (.bl false))) gNext) ((List.range' k j).map fun i => D.int (i : Nat)) [some (.tup xs), some (.tup ys), x2] h = .nx [some (.tup xs), some (.tup ys), x2'] h
  | 0, k, x2, _ => ⟨x2, by rw [List.range'_zero, List.map_nil, loop_nil chk_none]⟩
  | j + 1, k, x2, hk => by
    have hlt : k < xs.length := by omega
    have hlt2 : k < ys.length := by omega
    obtain ⟨x2', e⟩ := same_loop2 hl hF j (k + 1) (some (.int (k : Nat))) (by omega)
    refine ⟨x2', ?_⟩
    rw [List.range'_succ, List.map_cons, loop_cons chk_none (s1 := [some (.tup xs), some (.tup ys), some (.int (k : Nat))]) (h1 := h) rfl]
    have g1 := List.getElem?_eq_getElem hlt
    have g2 := List.getElem?_eq_getElem hlt2
    have e1 : dIx (.tup xs) (.int (k : Nat)) h = .ok xs[k] h := ix_tup g1
    have e2 : dIx (.tup ys) (.int (k : Nat)) h = .ok ys[k] h := ix_tup g2
    simp only [x_if, x_not, x_args, evR_cons, evR_nil, x_bin, x_var, List.getElem?_cons_zero, List.getElem?_cons_succ, ofO_some, RD.bind_ok, e1, e2, hF _ _ _ g1 g2, tb_ok, Bool.not_true, tst_ok, Bool.false_eq_true, if_false, x_next, lp_nx, e]
theorem x_sameT {n : Nat} {xs ys : List D} {h : Hm} (hl : xs.length = ys.length) (hb : xs.length < 1000000) (hF : ∀ (k : Nat) (x y : D), xs[k]? = some x → ys[k]? = some y → m__law_same n [x, y] h = .ok (.bl true) h) : m__law_same (n + 1) [.tup xs, .tup ys] h = .ok (.bl true) h := by
  obtain ⟨x2', e⟩ := same_loop2 hl hF xs.length 0 none (Nat.zero_add _)
  have t1 : isiB "tuple" h (.tup ys) = some true := by simp [kit_table]
  have t2 : isiB "tuple" h (.tup xs) = some true := by simp [kit_table]
  have t3 : isiB "list" h (.tup ys) = some false := by simp [kit_table]
  have ti : isiB "int" h (.tup ys) = some false := by simp [kit_table]
  have ts : isiB "str" h (.tup ys) = some false := by simp [kit_table]
  have hn : (D.tup ys) ≠ .non ∧ (D.tup ys) ≠ .bl true ∧ (D.tup ys) ≠ .bl false := ⟨by simp, by simp, by simp⟩
  have la : bLen [.tup xs] h = .ok (.int xs.length) h := rfl
  have lb : bLen [.tup ys] h = .ok (.int xs.length) h := by rw [hl]; rfl
  have hf : gFor (fiRg [eArgs bLen [eVar 1]]) (tName 2) (gIf (eNot (eArgs (m__law_same n) [(eBin dIx (eVar 0) (eVar 2)), (eBin dIx (eVar 1) (eVar 2))])) (gRet (eC (.bl false))) gNext) [some (.tup xs), some (.tup ys), none] h = .nx [some (.tup xs), some (.tup ys), x2'] h := by
    rw [for_ok (fi_rg (h1 := h) (j := (xs.length : Int)) (by simp only [x_args, evR_cons, evR_nil, x_var, List.getElem?_cons_zero, List.getElem?_cons_succ, ofO_some, RD.bind_ok, lb]) (by omega) (by omega)), Int.toNat_natCast, List.range_eq_range', e]
  show runB 3 (g__law_same (m__law_same n)) [.tup xs, .tup ys] h = _
  rw [x_run]
  unfold g__law_same
  simp -implicitDefEqProofs only [List.map_cons, List.map_nil, List.length_cons, List.length_nil, Nat.zero_add, Nat.reduceAdd, Nat.reduceSub, List.reduceReplicate, List.cons_append, List.nil_append, x_seq, x_if, x_bin, x_var, x_c, List.getElem?_cons_zero, List.getElem?_cons_succ, ofO_some, RD.bind_ok, o_is_n, o_is_b, tst_ok, hn.1, hn.2.1, hn.2.2, decide_false, Bool.false_eq_true, if_false, x_next, seq_nx, x_isi, ti, ts, x_and, x_not]
  simp -implicitDefEqProofs only [t1, t2, t3, x_seq, x_if, x_and, x_isi, x_not, tb_ok, if_true, Bool.not_true, tst_ok, Bool.false_eq_true, if_false, x_next, seq_nx, x_args, evR_cons, evR_nil, x_bin, x_var, List.getElem?_cons_zero, List.getElem?_cons_succ, ofO_some, RD.bind_ok, la, lb, nq_int, decide_true, hf, x_ret, x_c, RD.st_ok, out_rt]
theorem same_word {S : Sd} {pages : Nat} (o : SdOk S pages) (w : Str) (h : Hm) : m__law_same 8 [.tup [.str w, S.enc], .tup [.str w, S.enc]] h = .ok (.bl true) h := by
  refine x_same 7 _ h ?_
  have := pure_enc o 2
  simp [pureD, pureL, this]
theorem same_encD {S : Sd} {pages : Nat} (o : SdOk S pages) (h : Hm) : m__law_same 8 [S.enc, S.enc] h = .ok (.bl true) h := x_same 7 _ h (pure_enc o 3)
theorem same_flag (w : Str) (b : Bool) (h : Hm) : m__law_same 8 [.tup [.str w, .bl b], .tup [.str w, .bl b]] h = .ok (.bl true) h := x_same 7 _ h rfl
end Sh.k07

set_option linter.all false
set_option maxRecDepth 100000
namespace Sh.k07
open PySem L2 PyProof.Rows Sh
def rowsD (cs : List (Lf × List Pg)) (rs : List Nat) : List D := (cs.zip rs).map fun x => .tup [lD x.1.1, .ref x.2]
structure RowsAt (H : Hm) (p : Nat) (cs : List (Lf × List Pg)) (rs : List Nat) : Prop where
  at_ : H[p]? = some (.lst (rowsD cs rs))
  len : rs.length = cs.length
  pg : ∀ (j : Nat) (c : Lf × List Pg) (r : Nat), cs[j]? = some c → rs[j]? = some r → H[r]? = some (.lst (c.2.map pD))
theorem rowsD_get {cs : List (Lf × List Pg)} {rs : List Nat} {j : Nat} {c : Lf × List Pg} {r : Nat} (h1 : cs[j]? = some c) (h2 : rs[j]? = some r) : (rowsD cs rs)[j]? = some (.tup [lD c.1, .ref r]) := by
  unfold rowsD
  have h3 : (cs.zip rs)[j]? = some (c, r) := by
    rw [List.getElem?_zip_eq_some]
    exact ⟨h1, h2⟩
  rw [List.getElem?_map, h3]
  rfl
theorem rowsD_len {cs : List (Lf × List Pg)} {rs : List Nat} (h : rs.length = cs.length) : (rowsD cs rs).length = cs.length := by
  unfold rowsD
  rw [List.length_map, List.length_zip]
  omega
theorem rowsD_set {cs : List (Lf × List Pg)} {rs : List Nat} {i r : Nat} {l : Lf} {ps : List Pg} (hl : rs.length = cs.length) (hi : i < cs.length) : (rowsD cs rs).set i (.tup [lD l, .ref r]) = rowsD (cs.set i (l, ps)) (rs.set i r) := by
  apply List.ext_getElem?
  intro j
  by_cases hj : i = j
  · subst hj
    rw [List.getElem?_set_self (by rw [rowsD_len hl]; exact hi)]
    exact (rowsD_get (c := (l, ps)) (List.getElem?_set_self hi) (List.getElem?_set_self (by omega))).symm
  · rw [List.getElem?_set_ne hj]
    by_cases hlt : j < cs.length
    · have h1 : cs[j]? = some cs[j] := List.getElem?_eq_getElem hlt
      have h2 : rs[j]? = some rs[j] := List.getElem?_eq_getElem (by omega)
      rw [rowsD_get h1 h2]
      exact (rowsD_get (by rw [List.getElem?_set_ne hj]; exact h1) (by rw [List.getElem?_set_ne hj]; exact h2)).symm
    · rw [List.getElem?_eq_none (by rw [rowsD_len hl]; omega), List.getElem?_eq_none (by rw [rowsD_len (by simp [hl])]; simp; omega)]
theorem ok_lcL {gt : GT} {ft fe : FE} {p : Nat} {s0 : DS} {ck : Option (Nat × List D)} {Q : D → Hm → Prop} {xs : List D} (I : Nat → List D → Hm → Prop) (hb : xs.length < 1000000) (hck : ∀ j acc h, I j acc h → chkB ck h = true) (hl : ∀ j acc h, I j acc h → acc.length = j)
    (turn : ∀ (j : Nat) (x : D) acc h, xs[j]? = some x → I j acc h → ∃ s1, gt x s0 h = .nx s1 h ∧ ft s1 h = .ok (.bl true) h ∧ OK (fe s1 h) fun d h3 => h3[p]? = some (.lst acc) ∧ I (j + 1) (acc ++ [d]) (h3.set p (.lst (acc ++ [d])))) :
    ∀ (m j : Nat) (acc : List D) (h : Hm), j + m = xs.length → I j acc h → (∀ acc h, I xs.length acc h → Q (.ref p) h) → OK (lcLoop ck gt ft fe p s0 (xs.drop j) h) Q
  | 0, j, acc, h, e, i0, fin => by
    rw [List.drop_of_length_le (by omega)]
    unfold lcLoop
    rw [if_pos (hck _ _ _ i0)]
    have : j = xs.length := by omega
    subst this
    exact .mk (fin _ _ i0)
  | m + 1, j, acc, h, e, i0, fin => by
    have hj : j < xs.length := by omega
    obtain ⟨s1, e1, e2, x⟩ := turn j xs[j] acc h (List.getElem?_eq_getElem hj) i0
    obtain ⟨d, h3, e3, e4, q⟩ := x.get
    rw [List.drop_eq_getElem_cons hj]
    unfold lcLoop
    rw [if_pos (hck _ _ _ i0), e1]
    dsimp only
    rw [e2]
    dsimp only
    rw [e3]
    dsimp only
    rw [e4]
    dsimp only
    have hlt : acc.length < big := by
      have := hl _ _ _ i0
      show acc.length < 1000000
      omega
    rw [if_pos hlt]
    exact ok_lcL I hb hck hl turn m (j + 1) _ _ (by omega) q fin
theorem mk_rows {s : DS} {h : Hm} {f0 : FE} {i j : Nat} {bs : List (Lf × List Pg)} (hf : f0 s h = .ok (.tup (bs.map bD)) h) (hij : i ≠ j) (hi : i < s.length) (hj : j < s.length) (hb : bs.length ≤ 9) {w : List Nat} (hw : ∀ s : DS, (wipeD s w).length = s.length) :
    ∃ rs u, eLc (fiSeq f0) (tTup [tName i, tName j]) (eC (.bl true)) (eTup [eVar i, eArgs bList [eVar j]]) w s h = .ok (.ref h.length) (h ++ u) ∧ RowsAt (h ++ u) h.length bs rs ∧ rs.Nodup ∧ ∀ r ∈ rs, h.length < r := by
  have key : OK (eLc (fiSeq f0) (tTup [tName i, tName j]) (eC (.bl true)) (eTup [eVar i, eArgs bList [eVar j]]) w s h) fun d h' => ∃ rs u, d = .ref h.length ∧ h' = h ++ u ∧ RowsAt h' h.length bs rs ∧ rs.Nodup ∧ ∀ r ∈ rs, h.length < r := by
    unfold eLc
    rw [fi_tup hf]
    dsimp only
    have hn : (bs.map bD).length = bs.length := List.length_map ..
    refine ok_lcL (xs := bs.map bD) (fun k acc g => k ≤ bs.length ∧ ∃ rs u, acc = rowsD (bs.take k) rs ∧ g = h ++ .lst acc :: u ∧ rs.length = k ∧ (∀ (q : Nat) (c : Lf × List Pg) (r : Nat), bs[q]? = some c → rs[q]? = some r → g[r]? = some (.lst (c.2.map pD))) ∧ rs.Nodup ∧ ∀ r ∈ rs, h.length < r ∧ r < g.length) (by omega) (fun _ _ _ _ => rfl) ?_ ?_ (bs.map bD).length 0 [] _ (by omega) ?_ ?_
    · rintro k acc g ⟨hk, rs, u, rfl, rfl, hr, _⟩
      rw [rowsD_len (by rw [hr, List.length_take]; omega), List.length_take]
      omega
    · rintro k x acc g hx ⟨hk, rs, u, rfl, rfl, hr, hpg, hnd, hgt⟩
      have hkl : k < bs.length := by
        have := (List.getElem?_eq_some_iff.mp hx).1
        omega
      rw [List.getElem?_map] at hx
      have hc : bs[k]? = some bs[k] := List.getElem?_eq_getElem hkl
      generalize bs[k] = c at hc
      rw [hc] at hx
      cases hx
      let s1 : DS := ((wipeD s w).set i (some (lD c.1))).set j (some (.tup (c.2.map pD)))
      have g1 : s1[i]? = some (some (lD c.1)) := by
        show (((wipeD s w).set i _).set j _)[i]? = _
        rw [List.getElem?_set_ne (fun z => hij z.symm), List.getElem?_set_self (by rw [hw]; exact hi)]
      have g2 : s1[j]? = some (some (.tup (c.2.map pD))) := List.getElem?_set_self (by rw [List.length_set, hw]; exact hj)
      have hlen : rs.length = (bs.take k).length := by rw [hr, List.length_take]; omega
      have hbl : ∀ g : Hm, bList [.tup (c.2.map pD)] g = .ok (.ref g.length) (g ++ [.lst (c.2.map pD)]) := fun g => by simp [bList, items]
      refine ⟨s1, rfl, rfl, OK.of (d := .tup [lD c.1, .ref (h ++ O.lst (rowsD (bs.take k) rs) :: u).length]) (h := h ++ O.lst (rowsD (bs.take k) rs) :: u ++ [.lst (c.2.map pD)]) ?_ ?_⟩
      · simp only [x_tup, evR_cons, evR_nil, x_var, g1, g2, ofO_some, RD.bind_ok, x_args, hbl]
      · generalize hN : (h ++ O.lst (rowsD (bs.take k) rs) :: u).length = N
        have hNl : h.length < N := by rw [← hN]; simp
        have eacc : rowsD (bs.take k) rs ++ [.tup [lD c.1, .ref N]] = rowsD (bs.take (k + 1)) (rs ++ [N]) := by
          unfold rowsD
          rw [List.take_succ, hc, List.zip_append (by rw [hlen]), List.map_append]
          rfl
        have eset : (h ++ O.lst (rowsD (bs.take k) rs) :: u ++ [O.lst (c.2.map pD)]).set h.length (.lst (rowsD (bs.take (k + 1)) (rs ++ [N]))) = h ++ .lst (rowsD (bs.take (k + 1)) (rs ++ [N])) :: (u ++ [.lst (c.2.map pD)]) := by
          rw [List.append_assoc]
          exact set_mid
        refine ⟨by rw [List.append_assoc]; exact get_mid, by omega, rs ++ [N], u ++ [.lst (c.2.map pD)], eacc, ?_, by simp [hr], ?_, ?_, ?_⟩
        · rw [eacc, eset]
        · rw [eacc, eset]
          intro q c' r hq hr'
          have look : ∀ {r : Nat} {o : O}, h.length < r → (h ++ O.lst (rowsD (bs.take k) rs) :: u ++ [O.lst (c.2.map pD)])[r]? = some o → (h ++ O.lst (rowsD (bs.take (k + 1)) (rs ++ [N])) :: (u ++ [.lst (c.2.map pD)]))[r]? = some o := by
            intro r o hr e
            rw [← eset, List.getElem?_set_ne (by omega)]
            exact e
          by_cases hqk : q < rs.length
          · rw [List.getElem?_append_left hqk] at hr'
            exact look (hgt r (List.mem_of_getElem? hr')).1 (old (hpg q c' r hq hr'))
          · rw [List.getElem?_append_right (by omega)] at hr'
            have hq0 : q = k := by
              have := (List.getElem?_eq_some_iff.mp hr').1
              simp at this
              omega
            subst hq0
            rw [hr, Nat.sub_self] at hr'
            cases hr'
            rw [hc] at hq
            cases hq
            exact look hNl (by rw [← hN]; exact get_last)
        · refine List.nodup_append.mpr ⟨hnd, by simp, fun x hx y hy z => ?_⟩
          simp at hy
          have := (hgt x hx).2
          omega
        · intro r hr'
          rw [eacc, eset]
          rcases List.mem_append.mp hr' with hr' | hr'
          · have := hgt r hr'
            simp at this ⊢
            omega
          · simp at hr'
            subst hr'
            refine ⟨hNl, ?_⟩
            rw [← hN]
            simp
    · exact ⟨Nat.zero_le _, [], [], rfl, rfl, rfl, fun q c r _ z => by simp at z, List.nodup_nil, fun r hr => by cases hr⟩
    · rintro acc g ⟨hk, rs, u, rfl, rfl, hr, hpg, hnd, hgt⟩
      rw [hn] at hr
      refine ⟨rs, .lst (rowsD (bs.take (bs.map bD).length) rs) :: u, rfl, rfl, ⟨?_, hr, hpg⟩, hnd, fun r hr => (hgt r hr).1⟩
      rw [get_mid, hn, List.take_of_length_le (Nat.le_refl _)]
  obtain ⟨d, h', e, rs, u, rfl, rfl, hR, h1, h2⟩ := key.get
  exact ⟨rs, u, e, hR, h1, h2⟩
def readD (H : Hm) : D → D
  | .tup [l, .ref r] => match H[r]? with
    | some (.lst ps) => .tup [l, .tup ps]
    | _ => .tup [l, .ref r]
  | d => d
theorem read_rows {s : DS} {H : Hm} {fl : FE} {i j p : Nat} {cs : List (Lf × List Pg)} {rs : List Nat} (R : RowsAt H p cs rs) (hf : fl s H = .ok (.ref p) H) (hij : i ≠ j) (hi : i < s.length) (hj : j < s.length) (hb : cs.length ≤ 9) {w : List Nat} (hw : ∀ s : DS, (wipeD s w).length = s.length) :
    ∃ t, (eArgs bTuple [eLc (fiSeq fl) (tTup [tName i, tName j]) (eC (.bl true)) (eTup [eVar i, eArgs bTuple [eVar j]]) w]) s H = .ok (.tup (cs.map bD)) (H ++ t) := by
  have hl := rowsD_len R.len
  have each : ∀ x ∈ rowsD cs rs, ∃ (q : Nat) (c : Lf × List Pg) (r : Nat), x = .tup [lD c.1, .ref r] ∧ H[r]? = some (.lst (c.2.map pD)) := by
    intro x hx
    obtain ⟨q, hq, e⟩ := List.mem_iff_getElem.mp hx
    have hqc : q < cs.length := by omega
    have h1 : cs[q]? = some cs[q] := List.getElem?_eq_getElem hqc
    obtain ⟨r, h2⟩ : ∃ r, rs[q]? = some r := ⟨_, List.getElem?_eq_getElem (by have := R.len; omega)⟩
    have h3 := rowsD_get h1 h2
    rw [List.getElem?_eq_getElem hq, e] at h3
    exact ⟨q, _, _, Option.some.inj h3, R.pg q _ _ h1 h2⟩
  obtain ⟨t2, e1⟩ := elc_map (fi := fiSeq fl) (gt := tTup [tName i, tName j]) (ft := eC (.bl true)) (fe := eTup [eVar i, eArgs bTuple [eVar j]]) (own := w) (s := s) (h := H) (ck := some (p, rowsD cs rs)) (xs := rowsD cs rs) (val := readD H)
    (fi_ref hf R.at_) (fun u => chk_old R.at_ u) (fun x hx u => by
      obtain ⟨q, c, r, rfl, er⟩ := each x hx
      let s1 : DS := ((wipeD s w).set i (some (lD c.1))).set j (some (.ref r))
      have g1 : s1[i]? = some (some (lD c.1)) := by
        show (((wipeD s w).set i _).set j _)[i]? = _
        rw [List.getElem?_set_ne (fun z => hij z.symm), List.getElem?_set_self (by rw [hw]; exact hi)]
      have g2 : s1[j]? = some (some (.ref r)) := List.getElem?_set_self (by rw [List.length_set, hw]; exact hj)
      refine ⟨s1, [], rfl, rfl, ?_⟩
      have ev : readD H (.tup [lD c.1, .ref r]) = .tup [lD c.1, .tup (c.2.map pD)] := by simp only [readD, er]
      rw [ev, List.append_nil]
      simp only [x_tup, evR_cons, evR_nil, x_var, g1, g2, ofO_some, RD.bind_ok, x_args, tup_ref (old er)]) (by omega)
  have em : (rowsD cs rs).map (readD H) = cs.map bD := by
    apply List.ext_getElem?
    intro q
    rw [List.getElem?_map, List.getElem?_map]
    by_cases hq : q < cs.length
    · have h1 : cs[q]? = some cs[q] := List.getElem?_eq_getElem hq
      obtain ⟨r, h2⟩ : ∃ r, rs[q]? = some r := ⟨_, List.getElem?_eq_getElem (by have := R.len; omega)⟩
      rw [rowsD_get h1 h2, h1]
      have er := R.pg q _ _ h1 h2
      simp only [Option.map_some, readD, er]
      rfl
    · rw [List.getElem?_eq_none (by omega), List.getElem?_eq_none (by omega)]
      rfl
  rw [em] at e1
  exact ⟨.lst (cs.map bD) :: t2, by simp only [x_args, evR_cons, evR_nil, e1, RD.bind_ok, tup_last]⟩
theorem upd_rows {H : Hm} {p : Nat} {cs : List (Lf × List Pg)} {rs : List Nat} {i r : Nat} {l : Lf} {ps : List Pg} (R : RowsAt H p cs rs) (hnd : rs.Nodup) (hp : p ∉ rs) (hi : rs[i]? = some r) : RowsAt ((H.set r (.lst (ps.map pD))).set p (.lst ((rowsD cs rs).set i (.tup [lD l, .ref r])))) p (cs.set i (l, ps)) rs := by
  have hil : i < cs.length := by
    have := (List.getElem?_eq_some_iff.mp hi).1
    have := R.len
    omega
  have hself : rs.set i r = rs := by
    apply List.ext_getElem?
    intro j
    by_cases hj : i = j
    · subst hj
      rw [List.getElem?_set_self (List.getElem?_eq_some_iff.mp hi).1, hi]
    · rw [List.getElem?_set_ne hj]
  have hrl : r < H.length := lt_of_get (R.pg i _ r (List.getElem?_eq_getElem hil) hi)
  refine ⟨?_, by simp [R.len], fun j c q hc hq => ?_⟩
  · rw [List.getElem?_set_self (by rw [List.length_set]; exact lt_of_get R.at_), rowsD_set R.len hil, hself]
  · have hqp : p ≠ q := fun z => hp (by rw [z]; exact List.mem_of_getElem? hq)
    rw [List.getElem?_set_ne hqp]
    by_cases hj : i = j
    · subst hj
      rw [hi] at hq
      cases hq
      rw [List.getElem?_set_self hil] at hc
      cases hc
      rw [List.getElem?_set_self hrl]
    · rw [List.getElem?_set_ne hj] at hc
      have hqr : r ≠ q := by
        intro z
        subst z
        obtain ⟨a1, a2⟩ := List.getElem?_eq_some_iff.mp hi
        obtain ⟨b1, b2⟩ := List.getElem?_eq_some_iff.mp hq
        exact hj ((List.getElem_inj hnd).mp (a2.trans b2.symm))
      rw [List.getElem?_set_ne hqr]
      exact R.pg j c q hc hq
end Sh.k07

set_option linter.all false
set_option maxRecDepth 100000
namespace Sh.k07
open PySem L2 PyProof.Rows Sh
theorem set_ge {h u : Hm} {r : Nat} (o : O) (hr : h.length ≤ r) : ∃ u', (h ++ u).set r o = h ++ u' := ⟨u.set (r - h.length) o, by rw [List.set_append_right _ _ hr]⟩
theorem ne_noreply (h : Hm) : dNe (.tup [.str "no reply"]) (.tup [.str "no reply"]) h = .ok (.bl false) h := by
  have s1 : SeqAt.shaped (.tuple [.str "no reply"]) = true := by decide +kernel
  have e1 : toPy 20 h (.tup [.str "no reply"]) = some (.tuple [.str "no reply"]) := rfl
  have e2 : PyData.eqv (.tuple [.str "no reply"]) (.tuple [.str "no reply"]) = true := by decide +kernel
  have e : eqB h (.tup [.str "no reply"]) (.tup [.str "no reply"]) = some true := by
    unfold eqB
    simp only [eqSc, e1]
    rw [if_pos ⟨s1, s1⟩, e2]
  simp only [dNe, e]
  rfl
theorem cps_eq {S T : Sd} (h : S.blocks = T.blocks) : ∀ j i, cpsL S j i = cpsL T j i
  | 0, _ => rfl
  | j + 1, i => by simp only [cpsL, h, cps_eq h j]
theorem acts_calm (S : Sd) (f c : Int) : actsD { S with fails := f, cuts := c } = actsD S := by
  obtain ⟨keys, blocks, fails, cuts, due⟩ := S
  cases due with
  | none => rfl
  | some k =>
    show (roomsL 0 blocks).map wrD ++ cpsL ⟨keys, blocks, f, c, some k⟩ keys.toNat 0 ++ ersL 0 blocks = (roomsL 0 blocks).map wrD ++ cpsL ⟨keys, blocks, fails, cuts, some k⟩ keys.toNat 0 ++ ersL 0 blocks
    rw [cps_eq (S := ⟨keys, blocks, f, c, some k⟩) (T := ⟨keys, blocks, fails, cuts, some k⟩) rfl]
theorem AcOk.calm {S : Sd} {a : Ac} {b : Lf × List Pg} (h : AcOk S a b) (f c : Int) : AcOk { S with fails := f, cuts := c } a b := ⟨h.at_, h.due, h.room, h.era, h.key⟩
theorem x_two {ns : List Int} (h : Hm) {s : DS} (hs : s[0]? = some (some (.scl (ns.map D.int)))) : ∃ d0 d1 n t, (eArgs m__law_digits [(eArgs m__law_cell [(eVar 0), (eC (.int 11))]), (eLst [(eC (.int 9)), (eC (.int 9))])]) s h = .ok (.ref n) (h ++ t) ∧ (h ++ t)[n]? = some (.lst [.int d0, .int d1]) ∧ (0 ≤ d0 ∧ d0 < 9) ∧ (0 ≤ d1 ∧ d1 < 9) := by
  obtain ⟨c, e0⟩ := x_cell ns 11 h (by omega)
  have hz : (h ++ [O.lst (([9, 9] : List Int).map D.int)])[h.length]? = some (.lst (([9, 9] : List Int).map D.int)) := get_last
  obtain ⟨ds, hD, e1⟩ := x_digits (h ++ [O.lst (([9, 9] : List Int).map D.int)]) h.length [9, 9] hz c (by intro z hz; simp at hz; omega) (by simp)
  have hdl := dig_len hD
  obtain ⟨d0, d1, rfl⟩ : ∃ d0 d1, ds = [d0, d1] := by
    match ds, hdl with
    | [d0, d1], _ => exact ⟨d0, d1, rfl⟩
  obtain ⟨b0, b1, _⟩ := hD
  have e1' : m__law_digits [.int c, .ref h.length] (h ++ [O.lst [.int 9, .int 9]]) = .ok (.ref (h ++ [O.lst [.int 9, .int 9]]).length) (h ++ [O.lst [.int 9, .int 9]] ++ [.lst [.int d0, .int d1]]) := e1
  refine ⟨d0, d1, (h ++ [O.lst [.int 9, .int 9]]).length, [O.lst [.int 9, .int 9]] ++ [.lst [.int d0, .int d1]], ?_, ?_, b0, b1⟩
  · simp only [x_args, x_lst, evR_cons, evR_nil, x_var, x_c, hs, ofO_some, RD.bind_ok, e0, e1', List.append_assoc]
  · rw [← List.append_assoc]; exact get_last
end Sh.k07

set_option linter.all false
set_option maxRecDepth 100000
namespace Sh.k07
open PySem L2 PyProof.Rows Sh
theorem x_lawreplies {S : Sd} (h : Hm) : ∃ n t, m__law_replies [S.enc] h = .ok (.ref n) (h ++ t) ∧ (h ++ t)[n]? = some (.lst (repsD S.fails S.cuts)) ∧ h.length ≤ n := by
  have i2 : ∀ h : Hm, dIx S.enc (.int 2) h = .ok (.int S.fails) h := fun h => ix_tup (k := 2) rfl
  have i3 : ∀ h : Hm, dIx S.enc (.int 3) h = .ok (.int S.cuts) h := fun h => ix_tup (k := 3) rfl
  have key : OK (m__law_replies [S.enc] h) fun d h' => ∃ n t, d = .ref n ∧ h' = h ++ t ∧ h'[n]? = some (.lst (repsD S.fails S.cuts)) ∧ h.length ≤ n := by
    refine ok_run ?_
    show NX (g__law_replies [some S.enc, none] h) _ _
    unfold g__law_replies
    refine nx_seq (nx_set ?_)
    simp -implicitDefEqProofs only [ok_ok, ok_bind, ok_tb, bl_bl, x_bin, x_args, evR_cons, evR_nil, x_var, x_c, ofO_some, x_and, x_or, x_not, x_eif, x_chain, x_lst, x_tup, x_isi, List.getElem?_cons_zero, List.getElem?_cons_succ, List.set_cons_zero, List.set_cons_succ, o_cmp, o_sub, o_add, o_int, o_is_n, o_is_b, o_isN_n, o_isN_b, q_int, nq_int]
    refine nx_seq (NX.mono (N := fun s h1 => s = [some S.enc, some (.ref h.length)] ∧ h1 = h ++ [.lst ([.str "done"] ++ if 0 < S.fails then [.str "bad"] else [])]) (T := fun _ _ => False) ?_ ?_ (fun _ _ z => False.elim z))
    · refine nx_ifP (p := 0 < S.fails) (h1 := h ++ [.lst [.str "done"]]) (by simp [i2]) (fun hf => ?_) (fun hf => ?_)
      · refine nx_drop (OK.of (app_last rfl rfl (by simp)) ?_)
        simp [hf]
      · refine nx_next ?_
        simp [hf]
    · rintro _ _ ⟨rfl, rfl⟩
      generalize hX : ([D.str "done"] ++ if 0 < S.fails then [D.str "bad"] else []) = X
      have hXl : X.length ≤ 2 := by rw [← hX]; split <;> simp
      refine nx_seq (NX.mono (N := fun s h1 => ∃ n t, s[1]? = some (some (.ref n)) ∧ h1 = h ++ t ∧ h1[n]? = some (.lst (repsD S.fails S.cuts)) ∧ h.length ≤ n) (T := fun _ _ => False) ?_ ?_ (fun _ _ z => False.elim z))
      · refine nx_ifP (p := 0 < S.cuts) (h1 := h ++ [.lst X]) (by simp [i3]) (fun hc => ?_) (fun hc => ?_)
        · refine nx_set ?_
          have e1 : (h ++ [O.lst X] ++ [O.lst [.str "cut", .str "late"]])[h.length]? = some (.lst X) := by simp
          have e2 : (h ++ [O.lst X] ++ [O.lst [.str "cut", .str "late"]])[(h ++ [O.lst X]).length]? = some (.lst [.str "cut", .str "late"]) := by simp
          have ea := addL e1 e2 (by simp; omega)
          simp -implicitDefEqProofs only [ok_ok, ok_bind, ok_tb, bl_bl, x_bin, x_args, evR_cons, evR_nil, x_var, x_c, ofO_some, x_and, x_or, x_not, x_eif, x_chain, x_lst, x_tup, x_isi, List.getElem?_cons_zero, List.getElem?_cons_succ, List.set_cons_zero, List.set_cons_succ, o_cmp, o_sub, o_add, o_int, o_is_n, o_is_b, o_isN_n, o_isN_b, q_int, nq_int, ea]
          refine ⟨(h ++ [O.lst X] ++ [O.lst [.str "cut", .str "late"]]).length, [O.lst X] ++ [O.lst [.str "cut", .str "late"]] ++ [O.lst (X ++ [.str "cut", .str "late"])], rfl, by simp, ?_, by simp⟩
          rw [get_last, ← hX]
          simp [repsD, hc]
        · refine nx_next ⟨h.length, [.lst X], rfl, rfl, ?_, Nat.le_refl _⟩
          rw [get_last, ← hX]
          simp [repsD, hc]
      · rintro s h1 ⟨n, t, e, rfl, e2, hl⟩
        refine nx_ret ?_
        rw [x_var, e, ofO_some, ok_ok]
        exact ⟨n, t, rfl, rfl, e2, hl⟩
  obtain ⟨d, h', e, n, t, rfl, rfl, e2, hl⟩ := key.get
  exact ⟨n, t, e, e2, hl⟩
theorem reps_pure (f c : Int) : pureL 5 (repsD f c) = true ∧ (repsD f c).length < 1000000 := by
  unfold repsD
  by_cases hf : 0 < f <;> by_cases hc : 0 < c <;> simp [hf, hc, pureL, pureD]

/-! loops that may be left -/
inductive NB : RT → (DS → Hm → Prop) → (DS → Hm → Prop) → (D → Hm → Prop) → Prop
  | nx {s : DS} {h : Hm} {N B : DS → Hm → Prop} {T : D → Hm → Prop} (q : N s h) : NB (.nx s h) N B T
  | bk {s : DS} {h : Hm} {N B : DS → Hm → Prop} {T : D → Hm → Prop} (q : B s h) : NB (.bk s h) N B T
  | rt {d : D} {h : Hm} {N B : DS → Hm → Prop} {T : D → Hm → Prop} (q : T d h) : NB (.rt d h) N B T
section
variable {r : RT} {N B : DS → Hm → Prop} {T : D → Hm → Prop} {s : DS} {h h1 : Hm} {ga gb : FS} {c f : FE}
theorem nb_last (x : NX r N T) : NB r N B T := by
  cases x with
  | nx q => exact .nx q
  | rt q => exact .rt q
theorem nb_seqN (x : NX (ga s h) (fun s1 h1 => NB (gb s1 h1) N B T) T) : NB (gSeq ga gb s h) N B T := by
  rw [x_seq]
  generalize ga s h = r at x
  cases x with
  | nx q => exact q
  | rt q => exact .rt q
theorem nb_break {p : Prop} [Decidable p] (e : c s h = .ok (.bl (decide p)) h1) (x : p → B s h1) (y : ¬ p → NB (gb s h1) N B T) : NB (gSeq (gIf c gBreak gNext) gb s h) N B T := by
  rw [x_seq, x_if, e]
  by_cases hp : p
  · rw [decide_eq_true hp]
    exact .bk (x hp)
  · rw [decide_eq_false hp]
    exact y hp
theorem nb_loopR {gt : GT} (I : Nat → DS → Hm → Prop) {n : Nat} (val : Nat → D)
    (turn : ∀ j s h, j < n → I j s h → ∃ s1, gt (val j) s h = .nx s1 h ∧ NB (gb s1 h) (I (j + 1)) N T) : ∀ (m j : Nat) (s : DS) (h : Hm), j + m = n → I j s h → (∀ s h, I n s h → N s h) → NX (loopG none gt gb ((List.range' j m).map val) s h) N T
  | 0, j, s, h, e, i0, fin => by
    rw [List.range'_zero, List.map_nil, loop_nil chk_none]
    have : j = n := by omega
    subst this
    exact .nx (fin _ _ i0)
  | m + 1, j, s, h, e, i0, fin => by
    obtain ⟨s1, e1, x⟩ := turn j s h (by omega) i0
    rw [List.range'_succ, List.map_cons, loop_cons chk_none e1]
    generalize gb s1 h = r at x
    cases x with
    | nx q => exact nb_loopR I val turn m (j + 1) _ _ (by omega) q fin
    | bk q => exact .nx q
    | rt q => exact .rt q
theorem nb_forR {v : Nat} (I : Nat → DS → Hm → Prop) {n : Nat} (hn : n < 1000000) (e : f s h = .ok (.int (n : Int)) h1) (i0 : I 0 s h1)
    (turn : ∀ j s h, j < n → I j s h → NB (gb (s.set v (some (.int (j : Nat)))) h) (I (j + 1)) N T) (fin : ∀ s h, I n s h → N s h) : NX (gFor (fiRg [f]) (tName v) gb s h) N T := by
  rw [for_ok (fi_rg e (by omega) (by omega)), Int.toNat_natCast, List.range_eq_range']
  exact nb_loopR I (fun i => D.int (i : Nat)) (fun j s h hj hi => ⟨_, rfl, turn j s h hj hi⟩) n 0 s h1 (by omega) i0 fin
/-- for x in a list that stays, with its place -/
theorem nx_forI {v n : Nat} {xs : List D} (I : Nat → DS → Hm → Prop) (e : f s h = .ok (.ref n) h1) (e1 : h1[n]? = some (.lst xs)) (hck : ∀ j s h, I j s h → h[n]? = some (.lst xs)) (i0 : I 0 s h1)
    (turn : ∀ (j : Nat) (x : D) s h, xs[j]? = some x → I j s h → NX (gb (s.set v (some x)) h) (I (j + 1)) T) (fin : ∀ s h, I xs.length s h → N s h) : NX (gFor (fiSeq f) (tName v) gb s h) N T := by
  rw [for_ok (fi_ref e e1)]
  have ex : xs = (List.range' 0 xs.length).map fun i => xs.getD i .non := by
    refine List.ext_getElem (by simp) fun i h1 h2 => ?_
    simp [h1]
  have key := nx_loopR (gt := tName v) (gb := gb) (ck := some (n, xs)) (N := N) (T := T) I (n := xs.length) (fun i => xs.getD i .non) (fun j s h hi => chk_ref (hck j s h hi)) (fun j s h hj hi => ⟨_, rfl, turn j _ s h (by simp [List.getElem?_eq_getElem hj]) hi⟩) xs.length 0 s h1 (by omega) i0 fin
  rw [← ex] at key
  exact key
end
/-! one step: a key, or an act and a reply -/
inductive It where
  | key (k : Int) | act (a : Ac) (r : Rp)
def itD : It → D
  | .key k => .int k
  | .act a r => .tup [acD a, .str r.s]
def Step (S : Sd) : It → Sd → Prop
  | .key k, S' => S.due = none ∧ (0 ≤ k ∧ k < S.keys) ∧ S' = { S with due := some k }
  | .act a r, S' => ∃ (acs : List Ac) (b : Lf × List Pg), actsD S = acs.map acD ∧ a ∈ acs ∧ AcOk S a b ∧ letB S r = true ∧ S' = beh S a r b
theorem Step.ok {S S' : Sd} {pages : Nat} {it : It} (o : SdOk S pages) (h : Step S it S') : SdOk S' pages := by
  cases it with
  | key k =>
    obtain ⟨_, h2, rfl⟩ := h
    exact ⟨o.k1, o.k2, o.b1, o.b2, o.p1, o.p2, o.bk, o.nd, o.kr, o.f, o.c, fun j hj => by cases hj; exact h2⟩
  | act a r =>
    obtain ⟨acs, b, _, _, h3, h4, rfl⟩ := h
    exact beh_ok o h3 (rp_ok h4)
theorem step_model {S S' : Sd} {pages : Nat} {it : It} (o : SdOk S pages) (st : Step S it S') (h : Hm) : ∃ t, m__law_model_step [S.enc, itD it] h = .ok S'.enc (h ++ t) := by
  cases it with
  | key k =>
    obtain ⟨_, _, rfl⟩ := st
    refine ⟨[], ?_⟩
    rw [m__law_model_step, x_run]
    show ((gSeq _ _) [some S.enc, some (.int k)] h).out = _
    simp -implicitDefEqProofs only [x_seq, x_if, x_isi, x_var, List.getElem?_cons_zero, List.getElem?_cons_succ, ofO_some, RD.bind_ok, t_int, kit_table, tst_ok, Bool.false_eq_true, if_false, x_next, seq_nx, x_ret, x_args, evR_cons, evR_nil, itD, x_put, RD.st_ok, out_rt, List.append_nil]
  | act a r =>
    obtain ⟨acs, b, _, _, h3, h4, rfl⟩ := st
    obtain ⟨t, e⟩ := x_lawafter o h3 r h
    refine ⟨t, ?_⟩
    rw [m__law_model_step, x_run]
    show ((gSeq _ _) [some S.enc, some (.tup [acD a, .str r.s])] h).out = _
    have j0 : ∀ h : Hm, dIx (.tup [acD a, .str r.s]) (.int 0) h = .ok (acD a) h := fun h => ix_tup (k := 0) rfl
    have j1 : ∀ h : Hm, dIx (.tup [acD a, .str r.s]) (.int 1) h = .ok (.str r.s) h := fun h => ix_tup (k := 1) rfl
    simp -implicitDefEqProofs only [x_seq, x_if, x_isi, x_var, x_bin, x_c, List.getElem?_cons_zero, List.getElem?_cons_succ, ofO_some, RD.bind_ok, t_tup, kit_table, tst_ok, if_true, x_ret, x_args, evR_cons, evR_nil, j0, j1, e, RD.st_ok, seq_rt, out_rt]
theorem step_prog {S S' : Sd} {pages : Nat} {it : It} (o : SdOk S pages) (st : Step S it S') {h : Hm} {p : Nat} (hp : h[p]? = some (stO S)) : ∃ q t, m__law_program_step [.ref p, itD it] h = .ok (.ref q) (h ++ t) ∧ (h ++ t)[q]? = some (stO S') := by
  cases it with
  | key k =>
    obtain ⟨h1, h2, rfl⟩ := st
    obtain ⟨q, t, e1, e2⟩ := put_good o hp h1 h2
    refine ⟨q, t, ?_, e2⟩
    rw [m__law_program_step, x_run]
    show ((gSeq _ _) [some (.ref p), some (.int k)] h).out = _
    have em : eMeth "Stand" "put" m_Stand_put (eVar 0) [eVar 1] [some (.ref p), some (.int k)] h = .ok (.ref q) (h ++ t) := by
      rw [meth_okv (S := S) (p := p) (h1 := h) rfl hp (by decide)]
      simp only [evR_cons, evR_nil, x_var, List.getElem?_cons_zero, List.getElem?_cons_succ, ofO_some, RD.bind_ok, e1]
    simp -implicitDefEqProofs only [x_seq, x_if, x_isi, x_var, List.getElem?_cons_zero, List.getElem?_cons_succ, ofO_some, RD.bind_ok, t_int, kit_table, tst_ok, Bool.false_eq_true, if_false, x_next, seq_nx, x_ret, em, RD.st_ok, out_rt]
  | act a r =>
    obtain ⟨acs, b, h1, h2, h3, h4, rfl⟩ := st
    obtain ⟨q, t, e1, e2⟩ := after_good o hp h1 h2 h3 h4
    refine ⟨q, t, ?_, e2⟩
    rw [m__law_program_step, x_run]
    show ((gSeq _ _) [some (.ref p), some (.tup [acD a, .str r.s])] h).out = _
    have j0 : ∀ h : Hm, dIx (.tup [acD a, .str r.s]) (.int 0) h = .ok (acD a) h := fun h => ix_tup (k := 0) rfl
    have j1 : ∀ h : Hm, dIx (.tup [acD a, .str r.s]) (.int 1) h = .ok (.str r.s) h := fun h => ix_tup (k := 1) rfl
    have em : eMeth "Stand" "after" m_Stand_after (eVar 0) [(eBin dIx (eVar 1) (eC (.int 0))), (eBin dIx (eVar 1) (eC (.int 1)))] [some (.ref p), some (.tup [acD a, .str r.s])] h = .ok (.ref q) (h ++ t) := by
      rw [meth_okv (S := S) (p := p) (h1 := h) rfl hp (by decide)]
      simp only [evR_cons, evR_nil, x_bin, x_c, x_var, List.getElem?_cons_zero, List.getElem?_cons_succ, ofO_some, RD.bind_ok, j0, j1, e1]
    simp -implicitDefEqProofs only [x_seq, x_if, x_isi, x_var, List.getElem?_cons_zero, List.getElem?_cons_succ, ofO_some, RD.bind_ok, t_tup, kit_table, tst_ok, if_true, x_ret, em, RD.st_ok, seq_rt, out_rt]
/-- the stand agrees with its shape -/
theorem agrees_ok {S : Sd} {pages : Nat} (o : SdOk S pages) {h : Hm} {p : Nat} (hp : h[p]? = some (stO S)) : ∃ t, m__law_agrees [.ref p, S.enc] h = .ok (.bl true) (h ++ t) := by
  have i0 : ∀ h : Hm, dIx S.enc (.int 0) h = .ok (.int S.keys) h := fun h => ix_tup (k := 0) rfl
  have i4 : ∀ h : Hm, dIx S.enc (.int 4) h = .ok (dueD S.due) h := fun h => ix_tup (k := 4) rfl
  have e1 : eMeth "Stand" "shape" m_Stand_shape (eVar 0) [] [some (.ref p), some S.enc, none] h = .ok S.enc h := by
    rw [meth_okv (S := S) rfl hp (by decide), evR_nil, x_shape hp]
  obtain ⟨n1, t1, a1, b1, _⟩ := (x_acts o hp).app
  obtain ⟨n2, t2, a2, b2, _⟩ := (x_lawacts o (h ++ t1)).app
  have e2 : eMeth "Stand" "acts" m_Stand_acts (eVar 0) [] [some (.ref p), some S.enc, none] h = .ok (.ref n1) (h ++ t1) := by
    rw [meth_okv (S := S) rfl hp (by decide), evR_nil, a1]
  have sL : m__law_same 8 [.ref n1, .ref n2] (h ++ t1 ++ t2) = .ok (.bl true) (h ++ t1 ++ t2) := x_sameL (old b1) b2 (pure_acts S) (acts_len o)
  have hp2 : (h ++ t1 ++ t2)[p]? = some (stO S) := old (old hp)
  have e3 : eMeth "Stand" "asked" m_Stand_asked (eVar 0) [] [some (.ref p), some S.enc, none] (h ++ t1 ++ t2) = .ok (dueD S.due) (h ++ t1 ++ t2) := by
    rw [meth_okv (S := S) rfl hp2 (by decide), evR_nil, x_asked hp2]
  have sD : ∀ h, m__law_same 8 [dueD S.due, dueD S.due] h = .ok (.bl true) h := fun h => x_same 7 _ h (pure_dD 7 S.due)
  obtain ⟨K, hK⟩ := Int.eq_ofNat_of_zero_le (show 0 ≤ S.keys by have := o.k1; omega)
  refine of_ok (ok_run ?_)
  show NX (g__law_agrees [some (.ref p), some S.enc, none] h) _ _
  unfold g__law_agrees
  refine nx_seq (nx_ifF (h1 := h ++ t1 ++ t2) ?_ (nx_next ?_))
  · rw [x_or, x_not, x_args, evR_cons, e1]
    simp -implicitDefEqProofs only [RD.bind_ok, evR_cons, evR_nil, x_var, List.getElem?_cons_zero, List.getElem?_cons_succ, ofO_some, same_encD o, tb_ok, Bool.not_true, Bool.false_eq_true, if_false, x_not, x_args, e2, a2, sL]
  refine nx_seq (nx_ifF (h1 := h ++ t1 ++ t2) ?_ (nx_next ?_))
  · rw [x_not, x_args, evR_cons, e3]
    simp -implicitDefEqProofs only [RD.bind_ok, evR_cons, evR_nil, x_bin, x_c, x_var, List.getElem?_cons_zero, List.getElem?_cons_succ, ofO_some, i4, sD, tb_ok, Bool.not_true]
  refine nx_seq (nx_forR (n := K) (h1 := h ++ t1 ++ t2) (fun j s g => (∃ x2, s = [some (.ref p), some S.enc, x2]) ∧ ∃ t, g = h ++ t1 ++ t2 ++ t) (by have := o.k2; omega) ?_ ⟨⟨_, rfl⟩, [], by simp⟩ ?_ ?_)
  · simp only [x_bin, x_var, x_c, List.getElem?_cons_zero, List.getElem?_cons_succ, ofO_some, RD.bind_ok, i0, hK]
  · rintro j _ g hj ⟨⟨x2, rfl⟩, t, rfl⟩
    simp only [List.set_cons_zero, List.set_cons_succ]
    have hp3 : (h ++ t1 ++ t2 ++ t)[p]? = some (stO S) := old hp2
    have hk : 0 ≤ (j : Int) ∧ (j : Int) < S.keys := by omega
    have w1 := where_good o hp3 hk
    have e4 : eMeth "Stand" "where" m_Stand_where (eVar 0) [eVar 2] [some (.ref p), some S.enc, some (.int (j : Nat))] (h ++ t1 ++ t2 ++ t) = .ok (plD (plF (plB 0 S.blocks) (j : Int))) (h ++ t1 ++ t2 ++ t ++ [.dk ((plB 0 S.blocks).map kvT)]) := by
      rw [meth_okv (S := S) (p := p) (h1 := h ++ t1 ++ t2 ++ t) rfl hp3 (by decide)]
      simp only [evR_cons, evR_nil, x_var, List.getElem?_cons_zero, List.getElem?_cons_succ, ofO_some, RD.bind_ok, w1]
    have sp : ∀ h, m__law_same 8 [plD (plF (plB 0 S.blocks) (j : Int)), plD (plF (plB 0 S.blocks) (j : Int))] h = .ok (.bl true) h := fun h => x_same 7 _ h (pure_plD 6 _)
    refine nx_ifF (h1 := h ++ t1 ++ t2 ++ t ++ [.dk ((plB 0 S.blocks).map kvT)]) ?_ (nx_next ⟨⟨_, rfl⟩, t ++ [.dk ((plB 0 S.blocks).map kvT)], by simp⟩)
    rw [x_not, x_args, evR_cons, e4]
    simp -implicitDefEqProofs only [RD.bind_ok, evR_cons, evR_nil, x_args, x_var, List.getElem?_cons_zero, List.getElem?_cons_succ, ofO_some, x_place o, sp, tb_ok, Bool.not_true]
  · rintro _ g ⟨⟨x2, rfl⟩, t, rfl⟩
    refine nx_ret ?_
    simp -implicitDefEqProofs only [ok_ok, ok_bind, ok_tb, bl_bl, x_bin, x_args, evR_cons, evR_nil, x_var, x_c, ofO_some, x_and, x_or, x_not, x_eif, x_chain, x_lst, x_tup, x_isi, List.getElem?_cons_zero, List.getElem?_cons_succ, List.set_cons_zero, List.set_cons_succ, o_cmp, o_sub, o_add, o_int, o_is_n, o_is_b, o_isN_n, o_isN_b, q_int, nq_int]
    exact ⟨trivial, t1 ++ t2 ++ t, by simp⟩
end Sh.k07

set_option linter.all false
namespace Sh.k07
open PySem L2 PyProof.Rows Sh
abbrev ch4 : FS := (gSeq (gSet 4 (eLc (fiSeq (eVar 2)) (tName 5) (eBin dEq (eBin dIx (eVar 5) (eC (.int 0))) (eC (.str "write"))) (eVar 5) [5]))
    (gSeq (gSet 5 (eBin dIx (eVar 2) (eBin dIx (eVar 3) (eC (.int 1)))))
    (gSeq (gIf (eAnd (eBin dEq (eBin dIx (eVar 3) (eC (.int 0))) (eC (.int 0))) (eBin (dCmp fun i j => decide (j < i)) (eArgs bLen [(eVar 4)]) (eC (.int 0)))) (gSet 5 (eBin dIx (eVar 4) (eBin dMod (eArgs bInt [(eBin dIx (eVar 3) (eC (.int 1)))]) (eArgs bLen [(eVar 4)])))) gNext)
    (gSeq (gSet 6 (eArgs m__law_replies [(eVar 0)]))
    (gSeq (gIf (eBin (dCmp fun i j => decide (i < j)) (eBin dIx (eVar 3) (eC (.int 2))) (eC (.int 3))) (gRet (eTup [(eVar 5), (eC (.str "done"))])) gNext)
    (gRet (eTup [(eVar 5), (eBin dIx (eVar 6) (eBin dMod (eArgs bInt [(eBin dIx (eVar 3) (eC (.int 2)))]) (eArgs bLen [(eVar 6)])))])))))))
abbrev ch6 : FS := (gSeq (gIf (eAnd (eBin dEq (eBin dIx (eVar 3) (eC (.int 0))) (eC (.int 0))) (eBin (dCmp fun i j => decide (j < i)) (eArgs bLen [(eVar 4)]) (eC (.int 0)))) (gSet 5 (eBin dIx (eVar 4) (eBin dMod (eArgs bInt [(eBin dIx (eVar 3) (eC (.int 1)))]) (eArgs bLen [(eVar 4)])))) gNext)
    (gSeq (gSet 6 (eArgs m__law_replies [(eVar 0)]))
    (gSeq (gIf (eBin (dCmp fun i j => decide (i < j)) (eBin dIx (eVar 3) (eC (.int 2))) (eC (.int 3))) (gRet (eTup [(eVar 5), (eC (.str "done"))])) gNext)
    (gRet (eTup [(eVar 5), (eBin dIx (eVar 6) (eBin dMod (eArgs bInt [(eBin dIx (eVar 3) (eC (.int 2)))]) (eArgs bLen [(eVar 6)])))])))))
abbrev ch7 : FS := (gSeq (gSet 6 (eArgs m__law_replies [(eVar 0)]))
    (gSeq (gIf (eBin (dCmp fun i j => decide (i < j)) (eBin dIx (eVar 3) (eC (.int 2))) (eC (.int 3))) (gRet (eTup [(eVar 5), (eC (.str "done"))])) gNext)
    (gRet (eTup [(eVar 5), (eBin dIx (eVar 6) (eBin dMod (eArgs bInt [(eBin dIx (eVar 3) (eC (.int 2)))]) (eArgs bLen [(eVar 6)])))]))))
abbrev lw6 : FS := (gSeq (gFor (fiRg [(eArgs bMax2 [(eC (.int 6)), (eBin dSub (eArgs bMin2 [(eArgs bLen [(eVar 0)]), (eC (.int 63))]) (eC (.int 11)))])]) (tName 6) (gSeq (gSet 7 (eArgs m__law_choice [(eBin dIx (eVar 4) (eVar 6)), (eArgs m__law_cell [(eVar 0), (eBin dAdd (eC (.int 11)) (eVar 6))])]))
    (gSeq (gIf (eBin dIs (eVar 7) (eC .non)) gBreak gNext)
    (gSeq (gIf (eIsi "tuple" (eVar 7)) (gSeq (gSet 8 (eAnd (eBin dEq (eBin dIx (eBin dIx (eVar 7) (eC (.int 0))) (eC (.int 0))) (eC (.str "write"))) (eBin dEq (eBin dIx (eVar 7) (eC (.int 1))) (eC (.str "done")))))
    (gSeq (gIf (eNot (eArgs (m__law_same 8) [(eMeth "Stand" "replies" m_Stand_replies (eBin dIx (eVar 3) (eVar 6)) [(eBin dIx (eVar 7) (eC (.int 0)))]), (eArgs m__law_replies [(eBin dIx (eVar 4) (eVar 6))])])) (gRet (eC (.bl false))) gNext)
    (gIf (eNot (eArgs (m__law_same 8) [(eMeth "Stand" "served" m_Stand_served (eBin dIx (eVar 3) (eVar 6)) [(eBin dIx (eVar 7) (eC (.int 0))), (eBin dIx (eVar 7) (eC (.int 1)))]), (eVar 8)])) (gRet (eC (.bl false))) gNext))) gNext)
    (gSeq (gDrop (eLm lAppend (eVar 5) [(eVar 7)]))
    (gSeq (gDrop (eLm lAppend (eVar 4) [(eArgs m__law_model_step [(eBin dIx (eVar 4) (eVar 6)), (eVar 7)])]))
    (gSeq (gDrop (eLm lAppend (eVar 3) [(eArgs m__law_program_step [(eBin dIx (eVar 3) (eVar 6)), (eVar 7)])]))
    (gIf (eNot (eArgs m__law_agrees [(eBin dIx (eVar 3) (eBin dAdd (eVar 6) (eC (.int 1)))), (eBin dIx (eVar 4) (eBin dAdd (eVar 6) (eC (.int 1))))])) (gRet (eC (.bl false))) gNext))))))))
    (gSeq (gSet 9 (eVar 2))
    (gSeq (gFor (fiSeq (eVar 5)) (tName 7) (gSet 9 (eArgs m__law_program_step [(eVar 9), (eVar 7)])))
    (gSeq (gFor (fiRg [(eArgs bLen [(eVar 3)])]) (tName 6) (gIf (eNot (eArgs (m__law_same 8) [(eMeth "Stand" "shape" m_Stand_shape (eBin dIx (eVar 3) (eVar 6)) []), (eBin dIx (eVar 4) (eVar 6))])) (gRet (eC (.bl false))) gNext))
    (gRet (eArgs (m__law_same 8) [(eMeth "Stand" "shape" m_Stand_shape (eVar 9) []), (eBin dIx (eVar 4) (eBin dSub (eArgs bLen [(eVar 4)]) (eC (.int 1))))]))))))
abbrev lwB : FS := (gSeq (gSet 7 (eArgs m__law_choice [(eBin dIx (eVar 4) (eVar 6)), (eArgs m__law_cell [(eVar 0), (eBin dAdd (eC (.int 11)) (eVar 6))])]))
    (gSeq (gIf (eBin dIs (eVar 7) (eC .non)) gBreak gNext)
    (gSeq (gIf (eIsi "tuple" (eVar 7)) (gSeq (gSet 8 (eAnd (eBin dEq (eBin dIx (eBin dIx (eVar 7) (eC (.int 0))) (eC (.int 0))) (eC (.str "write"))) (eBin dEq (eBin dIx (eVar 7) (eC (.int 1))) (eC (.str "done")))))
    (gSeq (gIf (eNot (eArgs (m__law_same 8) [(eMeth "Stand" "replies" m_Stand_replies (eBin dIx (eVar 3) (eVar 6)) [(eBin dIx (eVar 7) (eC (.int 0)))]), (eArgs m__law_replies [(eBin dIx (eVar 4) (eVar 6))])])) (gRet (eC (.bl false))) gNext)
    (gIf (eNot (eArgs (m__law_same 8) [(eMeth "Stand" "served" m_Stand_served (eBin dIx (eVar 3) (eVar 6)) [(eBin dIx (eVar 7) (eC (.int 0))), (eBin dIx (eVar 7) (eC (.int 1)))]), (eVar 8)])) (gRet (eC (.bl false))) gNext))) gNext)
    (gSeq (gDrop (eLm lAppend (eVar 5) [(eVar 7)]))
    (gSeq (gDrop (eLm lAppend (eVar 4) [(eArgs m__law_model_step [(eBin dIx (eVar 4) (eVar 6)), (eVar 7)])]))
    (gSeq (gDrop (eLm lAppend (eVar 3) [(eArgs m__law_program_step [(eBin dIx (eVar 3) (eVar 6)), (eVar 7)])]))
    (gIf (eNot (eArgs m__law_agrees [(eBin dIx (eVar 3) (eBin dAdd (eVar 6) (eC (.int 1)))), (eBin dIx (eVar 4) (eBin dAdd (eVar 6) (eC (.int 1))))])) (gRet (eC (.bl false))) gNext)))))))
abbrev lwC : FS := (gSeq (gIf (eIsi "tuple" (eVar 7)) (gSeq (gSet 8 (eAnd (eBin dEq (eBin dIx (eBin dIx (eVar 7) (eC (.int 0))) (eC (.int 0))) (eC (.str "write"))) (eBin dEq (eBin dIx (eVar 7) (eC (.int 1))) (eC (.str "done")))))
    (gSeq (gIf (eNot (eArgs (m__law_same 8) [(eMeth "Stand" "replies" m_Stand_replies (eBin dIx (eVar 3) (eVar 6)) [(eBin dIx (eVar 7) (eC (.int 0)))]), (eArgs m__law_replies [(eBin dIx (eVar 4) (eVar 6))])])) (gRet (eC (.bl false))) gNext)
    (gIf (eNot (eArgs (m__law_same 8) [(eMeth "Stand" "served" m_Stand_served (eBin dIx (eVar 3) (eVar 6)) [(eBin dIx (eVar 7) (eC (.int 0))), (eBin dIx (eVar 7) (eC (.int 1)))]), (eVar 8)])) (gRet (eC (.bl false))) gNext))) gNext)
    (gSeq (gDrop (eLm lAppend (eVar 5) [(eVar 7)]))
    (gSeq (gDrop (eLm lAppend (eVar 4) [(eArgs m__law_model_step [(eBin dIx (eVar 4) (eVar 6)), (eVar 7)])]))
    (gSeq (gDrop (eLm lAppend (eVar 3) [(eArgs m__law_program_step [(eBin dIx (eVar 3) (eVar 6)), (eVar 7)])]))
    (gIf (eNot (eArgs m__law_agrees [(eBin dIx (eVar 3) (eBin dAdd (eVar 6) (eC (.int 1)))), (eBin dIx (eVar 4) (eBin dAdd (eVar 6) (eC (.int 1))))])) (gRet (eC (.bl false))) gNext)))))
abbrev lwD : FS := (gSeq (gDrop (eLm lAppend (eVar 5) [(eVar 7)]))
    (gSeq (gDrop (eLm lAppend (eVar 4) [(eArgs m__law_model_step [(eBin dIx (eVar 4) (eVar 6)), (eVar 7)])]))
    (gSeq (gDrop (eLm lAppend (eVar 3) [(eArgs m__law_program_step [(eBin dIx (eVar 3) (eVar 6)), (eVar 7)])]))
    (gIf (eNot (eArgs m__law_agrees [(eBin dIx (eVar 3) (eBin dAdd (eVar 6) (eC (.int 1)))), (eBin dIx (eVar 4) (eBin dAdd (eVar 6) (eC (.int 1))))])) (gRet (eC (.bl false))) gNext))))
abbrev lw7 : FS := (gSeq (gSet 9 (eVar 2))
    (gSeq (gFor (fiSeq (eVar 5)) (tName 7) (gSet 9 (eArgs m__law_program_step [(eVar 9), (eVar 7)])))
    (gSeq (gFor (fiRg [(eArgs bLen [(eVar 3)])]) (tName 6) (gIf (eNot (eArgs (m__law_same 8) [(eMeth "Stand" "shape" m_Stand_shape (eBin dIx (eVar 3) (eVar 6)) []), (eBin dIx (eVar 4) (eVar 6))])) (gRet (eC (.bl false))) gNext))
    (gRet (eArgs (m__law_same 8) [(eMeth "Stand" "shape" m_Stand_shape (eVar 9) []), (eBin dIx (eVar 4) (eBin dSub (eArgs bLen [(eVar 4)]) (eC (.int 1))))])))))
abbrev lw9 : FS := (gSeq (gFor (fiRg [(eArgs bLen [(eVar 3)])]) (tName 6) (gIf (eNot (eArgs (m__law_same 8) [(eMeth "Stand" "shape" m_Stand_shape (eBin dIx (eVar 3) (eVar 6)) []), (eBin dIx (eVar 4) (eVar 6))])) (gRet (eC (.bl false))) gNext))
    (gRet (eArgs (m__law_same 8) [(eMeth "Stand" "shape" m_Stand_shape (eVar 9) []), (eBin dIx (eVar 4) (eBin dSub (eArgs bLen [(eVar 4)]) (eC (.int 1))))])))
abbrev lwA : FS := (gIf (eIsi "tuple" (eVar 7)) (gSeq (gSet 8 (eAnd (eBin dEq (eBin dIx (eBin dIx (eVar 7) (eC (.int 0))) (eC (.int 0))) (eC (.str "write"))) (eBin dEq (eBin dIx (eVar 7) (eC (.int 1))) (eC (.str "done")))))
    (gSeq (gIf (eNot (eArgs (m__law_same 8) [(eMeth "Stand" "replies" m_Stand_replies (eBin dIx (eVar 3) (eVar 6)) [(eBin dIx (eVar 7) (eC (.int 0)))]), (eArgs m__law_replies [(eBin dIx (eVar 4) (eVar 6))])])) (gRet (eC (.bl false))) gNext)
    (gIf (eNot (eArgs (m__law_same 8) [(eMeth "Stand" "served" m_Stand_served (eBin dIx (eVar 3) (eVar 6)) [(eBin dIx (eVar 7) (eC (.int 0))), (eBin dIx (eVar 7) (eC (.int 1)))]), (eVar 8)])) (gRet (eC (.bl false))) gNext))) gNext)
end Sh.k07

set_option linter.all false
set_option maxRecDepth 100000
namespace Sh.k07
open PySem L2 PyProof.Rows Sh
theorem reps_mem {S : Sd} {x : D} (h : x ∈ repsD S.fails S.cuts) : ∃ r : Rp, x = .str r.s ∧ letB S r = true := by
  unfold repsD at h
  rcases List.mem_append.mp h with h | h
  · simp at h
    exact ⟨.done, h, rfl⟩
  · rcases List.mem_append.mp h with h | h
    · split at h
      · rename_i hf
        simp at h
        exact ⟨.bad, h, decide_eq_true hf⟩
      · cases h
    · split at h
      · rename_i hc
        simp at h
        rcases h with h | h
        · exact ⟨.cut, h, decide_eq_true hc⟩
        · exact ⟨.late, h, decide_eq_true hc⟩
      · cases h
theorem reps_pos (f c : Int) : 0 < (repsD f c).length ∧ (repsD f c).length ≤ 4 := by
  unfold repsD
  by_cases hf : 0 < f <;> by_cases hc : 0 < c <;> simp [hf, hc]
theorem reps_pure6 (f c : Int) : pureL 6 (repsD f c) = true ∧ (repsD f c).length < 1000000 := by
  unfold repsD
  by_cases hf : 0 < f <;> by_cases hc : 0 < c <;> simp [hf, hc, pureL, pureD]
def ttW : D → Bool
  | .tup (.str w :: _) => decide (w = "write")
  | _ => false
/-- what choice tells -/
def ChQ (S : Sd) (h : Hm) : D → Hm → Prop := fun d h' => (∃ t, h' = h ++ t) ∧ (d = .non ∨ ∃ it S', d = itD it ∧ Step S it S')
theorem ix_mem {h : Hm} {n : Nat} {xs : List D} {i : Int} (e : h[n]? = some (.lst xs)) (hi : 0 ≤ i ∧ i < (xs.length : Int)) : ∃ x ∈ xs, dIx (.ref n) (.int i) h = .ok x h := by
  obtain ⟨k, rfl⟩ := Int.eq_ofNat_of_zero_le hi.1
  have hk : k < xs.length := by omega
  exact ⟨xs[k], List.getElem_mem hk, ix_ref e (List.getElem?_eq_getElem hk)⟩
theorem ch7_ok {S : Sd} {pages : Nat} (o : SdOk S pages) {a : Ac} {acs : List Ac} {b : Lf × List Pg} (hacs : actsD S = acs.map acD) (hm : a ∈ acs) (hb : AcOk S a b) {h g : Hm} {u : Hm} {nd : Nat} {d0 d1 d2 : Int} {a1 a2 a4 : Option D} {N : DS → Hm → Prop} (hg : g = h ++ u) (ed : g[nd]? = some (.lst [.int d0, .int d1, .int d2])) (b2 : 0 ≤ d2) :
    NX (ch7 [some S.enc, a1, a2, some (.ref nd), a4, some (acD a), none] g) N (ChQ S h) := by
  obtain ⟨nr, t, e1, e2, _⟩ := x_lawreplies (S := S) g
  refine nx_seq (nx_set ?_)
  simp -implicitDefEqProofs only [ok_ok, ok_bind, ok_tb, bl_bl, x_bin, x_args, evR_cons, evR_nil, x_var, x_c, ofO_some, x_and, x_or, x_not, x_eif, x_chain, x_lst, x_tup, x_isi, List.getElem?_cons_zero, List.getElem?_cons_succ, List.set_cons_zero, List.set_cons_succ, o_cmp, o_sub, o_add, o_int, o_is_n, o_is_b, o_isN_n, o_isN_b, q_int, nq_int, e1]
  have i2 : dIx (.ref nd) (.int 2) (g ++ t) = .ok (.int d2) (g ++ t) := ix_ref (k := 2) (old ed) rfl
  refine nx_seq (nx_ifP (p := d2 < 3) (h1 := g ++ t) ?_ (fun hc => ?_) (fun hc => nx_next ?_))
  · simp only [x_bin, x_var, x_c, List.getElem?_cons_zero, List.getElem?_cons_succ, ofO_some, RD.bind_ok, i2, o_cmp]
  · refine nx_ret ?_
    simp -implicitDefEqProofs only [ok_ok, ok_bind, ok_tb, bl_bl, x_bin, x_args, evR_cons, evR_nil, x_var, x_c, ofO_some, x_and, x_or, x_not, x_eif, x_chain, x_lst, x_tup, x_isi, List.getElem?_cons_zero, List.getElem?_cons_succ, List.set_cons_zero, List.set_cons_succ, o_cmp, o_sub, o_add, o_int, o_is_n, o_is_b, o_isN_n, o_isN_b, q_int, nq_int]
    exact ⟨⟨u ++ t, by rw [hg, List.append_assoc]⟩, .inr ⟨.act a .done, beh S a .done b, rfl, acs, b, hacs, hm, hb, rfl, rfl⟩⟩
  · have hp := reps_pos S.fails S.cuts
    have hlen : bLen [.ref nr] (g ++ t) = .ok (.int ((repsD S.fails S.cuts).length : Nat)) (g ++ t) := len_ref e2
    have bi : 0 ≤ d2 % ((repsD S.fails S.cuts).length : Int) ∧ d2 % ((repsD S.fails S.cuts).length : Int) < ((repsD S.fails S.cuts).length : Int) := ⟨Int.emod_nonneg _ (by omega), Int.emod_lt_of_pos _ (by omega)⟩
    obtain ⟨x, hx, ex⟩ := ix_mem e2 bi
    obtain ⟨r, rfl, hr⟩ := reps_mem hx
    refine nx_ret ?_
    simp -implicitDefEqProofs only [ok_ok, ok_bind, ok_tb, bl_bl, x_bin, x_args, evR_cons, evR_nil, x_var, x_c, ofO_some, x_and, x_or, x_not, x_eif, x_chain, x_lst, x_tup, x_isi, List.getElem?_cons_zero, List.getElem?_cons_succ, List.set_cons_zero, List.set_cons_succ, o_cmp, o_sub, o_add, o_int, o_is_n, o_is_b, o_isN_n, o_isN_b, q_int, nq_int, i2, hlen, o_mod, if_pos (show (0 : Int) < ((repsD S.fails S.cuts).length : Int) by omega), ex]
    exact ⟨⟨u ++ t, by rw [hg, List.append_assoc]⟩, .inr ⟨.act a r, beh S a r b, rfl, acs, b, hacs, hm, hb, hr, rfl⟩⟩
theorem x_choice {S : Sd} {pages : Nat} (o : SdOk S pages) (c : Int) (h : Hm) : OK (m__law_choice [S.enc, .int c] h) (ChQ S h) := by
  have i0 : ∀ h : Hm, dIx S.enc (.int 0) h = .ok (.int S.keys) h := fun h => ix_tup (k := 0) rfl
  have i4 : ∀ h : Hm, dIx S.enc (.int 4) h = .ok (dueD S.due) h := fun h => ix_tup (k := 4) rfl
  have hk1 := o.k1
  have hk2 := o.k2
  refine ok_run ?_
  show NX (g__law_choice [some S.enc, some (.int c), none, none, none, none, none] h) _ _
  unfold g__law_choice
  refine nx_seq (nx_ifP (p := dueD S.due = .non) (h1 := h) ?_ (fun hd => ?_) (fun hd => nx_next ?_))
  · simp only [x_bin, x_var, x_c, List.getElem?_cons_zero, ofO_some, RD.bind_ok, i4, o_is_n]
  · have hdn : S.due = none := by
      cases q : S.due with
      | none => rfl
      | some k => rw [q] at hd; cases hd
    have hz : (h ++ [O.lst (([S.keys] : List Int).map D.int)])[h.length]? = some (.lst (([S.keys] : List Int).map D.int)) := get_last
    obtain ⟨ds, hD, e1⟩ := x_digits (h ++ [O.lst (([S.keys] : List Int).map D.int)]) h.length [S.keys] hz c (by intro z hz; simp at hz; omega) (by simp)
    have hdl := dig_len hD
    obtain ⟨k0, rfl⟩ : ∃ k0, ds = [k0] := by
      match ds, hdl with
      | [k0], _ => exact ⟨k0, rfl⟩
    have e1' : m__law_digits [.int c, .ref h.length] (h ++ [O.lst [.int S.keys]]) = .ok (.ref (h ++ [O.lst [.int S.keys]]).length) (h ++ [O.lst [.int S.keys]] ++ [.lst [.int k0]]) := e1
    have j0 : dIx (.ref (h ++ [O.lst [.int S.keys]]).length) (.int 0) (h ++ [O.lst [.int S.keys]] ++ [.lst [.int k0]]) = .ok (.int k0) (h ++ [O.lst [.int S.keys]] ++ [.lst [.int k0]]) := ix_ref (k := 0) get_last rfl
    refine nx_ret ?_
    simp -implicitDefEqProofs only [ok_ok, ok_bind, ok_tb, bl_bl, x_bin, x_args, evR_cons, evR_nil, x_var, x_c, ofO_some, x_and, x_or, x_not, x_eif, x_chain, x_lst, x_tup, x_isi, List.getElem?_cons_zero, List.getElem?_cons_succ, List.set_cons_zero, List.set_cons_succ, o_cmp, o_sub, o_add, o_int, o_is_n, o_is_b, o_isN_n, o_isN_b, q_int, nq_int, i0, e1', j0]
    exact ⟨⟨_, List.append_assoc ..⟩, .inr ⟨.key k0, _, rfl, hdn, hD.1, rfl⟩⟩
  · obtain ⟨acs, hacs, hok⟩ := acts_list S
    obtain ⟨n, t, e1, e2, _⟩ := (x_lawacts o h).app
    have hlt := acts_len o
    rw [hacs] at e2 hlt
    refine nx_seq (nx_set ?_)
    simp -implicitDefEqProofs only [ok_ok, ok_bind, ok_tb, bl_bl, x_bin, x_args, evR_cons, evR_nil, x_var, x_c, ofO_some, x_and, x_or, x_not, x_eif, x_chain, x_lst, x_tup, x_isi, List.getElem?_cons_zero, List.getElem?_cons_succ, List.set_cons_zero, List.set_cons_succ, o_cmp, o_sub, o_add, o_int, o_is_n, o_is_b, o_isN_n, o_isN_b, q_int, nq_int, e1]
    have hlen : bLen [.ref n] (h ++ t) = .ok (.int ((acs.map acD).length : Nat)) (h ++ t) := len_ref e2
    refine nx_seq (nx_ifP (p := ((acs.map acD).length : Int) = 0) (h1 := h ++ t) ?_ (fun hc => ?_) (fun hc => nx_next ?_))
    · simp only [x_bin, x_args, evR_cons, evR_nil, x_var, x_c, List.getElem?_cons_zero, List.getElem?_cons_succ, ofO_some, RD.bind_ok, hlen, q_int]
    · refine nx_ret ?_
      simp -implicitDefEqProofs only [ok_ok, ok_bind, ok_tb, bl_bl, x_bin, x_args, evR_cons, evR_nil, x_var, x_c, ofO_some, x_and, x_or, x_not, x_eif, x_chain, x_lst, x_tup, x_isi, List.getElem?_cons_zero, List.getElem?_cons_succ, List.set_cons_zero, List.set_cons_succ, o_cmp, o_sub, o_add, o_int, o_is_n, o_is_b, o_isN_n, o_isN_b, q_int, nq_int]
      exact ⟨⟨t, rfl⟩, .inl rfl⟩
    · generalize hL : ((acs.map acD).length : Int) = L at hlen hc
      have hLb : 0 < L ∧ L < 1000000 := by omega
      have hz : (h ++ t ++ [O.lst (([3, L, 7] : List Int).map D.int)])[(h ++ t).length]? = some (.lst (([3, L, 7] : List Int).map D.int)) := get_last
      obtain ⟨ds, hD, ed⟩ := x_digits (h ++ t ++ [O.lst (([3, L, 7] : List Int).map D.int)]) (h ++ t).length [3, L, 7] hz c (by intro z hz; simp at hz; omega) (by simp)
      have hdl := dig_len hD
      obtain ⟨d0, d1, d2, rfl⟩ : ∃ d0 d1 d2, ds = [d0, d1, d2] := by
        match ds, hdl with
        | [d0, d1, d2], _ => exact ⟨d0, d1, d2, rfl⟩
      obtain ⟨b0, b1, b2, _⟩ := hD
      have ed' : m__law_digits [.int c, .ref (h ++ t).length] (h ++ t ++ [O.lst [.int 3, .int L, .int 7]]) = .ok (.ref (h ++ t ++ [O.lst [.int 3, .int L, .int 7]]).length) (h ++ t ++ [O.lst [.int 3, .int L, .int 7]] ++ [.lst [.int d0, .int d1, .int d2]]) := ed
      refine nx_seq (nx_set ?_)
      simp -implicitDefEqProofs only [ok_ok, ok_bind, ok_tb, bl_bl, x_bin, x_args, evR_cons, evR_nil, x_var, x_c, ofO_some, x_and, x_or, x_not, x_eif, x_chain, x_lst, x_tup, x_isi, List.getElem?_cons_zero, List.getElem?_cons_succ, List.set_cons_zero, List.set_cons_succ, o_cmp, o_sub, o_add, o_int, o_is_n, o_is_b, o_isN_n, o_isN_b, q_int, nq_int, hlen, ed']
      generalize hnd : (h ++ t ++ [O.lst [.int 3, .int L, .int 7]]).length = nd
      obtain ⟨g, hg⟩ : ∃ g : Hm, g = h ++ t ++ [O.lst [.int 3, .int L, .int 7]] ++ [.lst [.int d0, .int d1, .int d2]] := ⟨_, rfl⟩
      rw [← hg]
      have end_ : g[nd]? = some (.lst [.int d0, .int d1, .int d2]) := by rw [hg, ← hnd]; exact get_last
      have eac : g[n]? = some (.lst (acs.map acD)) := by rw [hg, List.append_assoc]; exact old e2
      obtain ⟨t3, e3⟩ := elc_ok (fi := fiSeq (eVar 2)) (gt := tName 5) (ft := eBin dEq (eBin dIx (eVar 5) (eC (.int 0))) (eC (.str "write"))) (fe := eVar 5) (own := [5]) (s := [some S.enc, some (.int c), some (.ref n), some (.ref nd), none, none, none]) (h := g) (ck := some (n, acs.map acD)) (xs := acs.map acD) (val := id) (tt := ttW)
        (fi_ref rfl eac) (fun u => chk_old eac u) (fun x hx u => by
          obtain ⟨a, ha, rfl⟩ := List.mem_map.mp hx
          refine ⟨[some S.enc, some (.int c), some (.ref n), some (.ref nd), none, some (acD a), none], [], rfl, ?_, fun _ => by rw [List.append_nil]; rfl⟩
          simp only [x_bin, x_var, x_c, List.getElem?_cons_zero, List.getElem?_cons_succ, ofO_some, RD.bind_ok, ac_word, q_str]
          cases a <;> rfl) hlt
      rw [List.map_id] at e3
      refine nx_seq (nx_set (OK.of e3 ?_))
      simp only [List.set_cons_zero, List.set_cons_succ]
      generalize hw : (acs.map acD).filter ttW = ws
      have hws : ∀ d ∈ ws, d ∈ acs.map acD := fun d hd => by rw [← hw] at hd; exact (List.mem_filter.mp hd).1
      have ewl : (g ++ O.lst ws :: t3)[g.length]? = some (.lst ws) := by simp
      have ea2 : (g ++ O.lst ws :: t3)[n]? = some (.lst (acs.map acD)) := old eac
      have ed2 : (g ++ O.lst ws :: t3)[nd]? = some (.lst [.int d0, .int d1, .int d2]) := old end_
      obtain ⟨G, hG⟩ : ∃ G : Hm, G = g ++ O.lst ws :: t3 := ⟨_, rfl⟩
      rw [← hG] at ewl ea2 ed2 ⊢
      have hGh : ∃ u, G = h ++ u := ⟨_, by rw [hG, hg, List.append_assoc, List.append_assoc, List.append_assoc]⟩
      have j1 : dIx (.ref nd) (.int 1) G = .ok (.int d1) G := ix_ref (k := 1) ed2 rfl
      have j0 : dIx (.ref nd) (.int 0) G = .ok (.int d0) G := ix_ref (k := 0) ed2 rfl
      obtain ⟨x, hx, ex⟩ := ix_mem ea2 (i := d1) ⟨b1.1, by omega⟩
      refine nx_seq (nx_set ?_)
      simp -implicitDefEqProofs only [ok_ok, ok_bind, ok_tb, bl_bl, x_bin, x_args, evR_cons, evR_nil, x_var, x_c, ofO_some, x_and, x_or, x_not, x_eif, x_chain, x_lst, x_tup, x_isi, List.getElem?_cons_zero, List.getElem?_cons_succ, List.set_cons_zero, List.set_cons_succ, o_cmp, o_sub, o_add, o_int, o_is_n, o_is_b, o_isN_n, o_isN_b, q_int, nq_int, j1, ex]
      refine nx_seq (NX.mono (N := fun s g' => G = g' ∧ ∃ a ∈ acs, s = [some S.enc, some (.int c), some (.ref n), some (.ref nd), some (.ref g.length), some (acD a), none]) (T := fun _ _ => False) ?_ ?_ (fun _ _ z => False.elim z))
      · have hwl : bLen [.ref g.length] G = .ok (.int (ws.length : Nat)) G := len_ref ewl
        refine nx_ifP (p := d0 = 0 ∧ (0 : Int) < (ws.length : Int)) (h1 := G) ?_ (fun hp => ?_) (fun hp => ?_)
        · simp only [x_and, x_bin, x_args, evR_cons, evR_nil, x_var, x_c, List.getElem?_cons_zero, List.getElem?_cons_succ, ofO_some, RD.bind_ok, j0, q_int, tb_ok, hwl, o_cmp]
          by_cases z : d0 = 0 <;> simp [z]
        · obtain ⟨y, hy, ey⟩ := ix_mem ewl (i := d1 % (ws.length : Int)) ⟨Int.emod_nonneg _ (by omega), Int.emod_lt_of_pos _ hp.2⟩
          obtain ⟨a, ha, rfl⟩ := List.mem_map.mp (hws y hy)
          refine nx_set ?_
          simp -implicitDefEqProofs only [ok_ok, ok_bind, ok_tb, bl_bl, x_bin, x_args, evR_cons, evR_nil, x_var, x_c, ofO_some, x_and, x_or, x_not, x_eif, x_chain, x_lst, x_tup, x_isi, List.getElem?_cons_zero, List.getElem?_cons_succ, List.set_cons_zero, List.set_cons_succ, o_cmp, o_sub, o_add, o_int, o_is_n, o_is_b, o_isN_n, o_isN_b, q_int, nq_int, j1, hwl, o_mod, if_pos hp.2, ey]
          exact ⟨trivial, a, ha, rfl⟩
        · obtain ⟨a, ha, rfl⟩ := List.mem_map.mp hx
          exact nx_next ⟨rfl, a, ha, rfl⟩
      · rintro _ _ ⟨rfl, a, ha, rfl⟩
        obtain ⟨b, hb⟩ := hok a ha
        obtain ⟨u, hu⟩ := hGh
        exact ch7_ok o hacs ha hb hu ed2 b2.1
end Sh.k07

set_option linter.all false
set_option maxRecDepth 100000
namespace Sh.k07
open PySem L2 PyProof.Rows Sh
/-- the stands, the shapes and the row so far -/
structure Chain (P : Nat) (g : Hm) (n1 n2 n3 : Nat) (Ss : List Sd) (its : List It) (ps : List Nat) : Prop where
  l1 : Ss.length = its.length + 1
  l2 : ps.length = Ss.length
  e1 : g[n1]? = some (.lst (ps.map D.ref))
  e2 : g[n2]? = some (.lst (Ss.map Sd.enc))
  e3 : g[n3]? = some (.lst (its.map itD))
  st : ∀ (i : Nat) (S : Sd) (p : Nat), Ss[i]? = some S → ps[i]? = some p → g[p]? = some (stO S)
  ok : ∀ S ∈ Ss, SdOk S P
  step : ∀ (i : Nat) (S S' : Sd) (it : It), Ss[i]? = some S → Ss[i + 1]? = some S' → its[i]? = some it → Step S it S'
theorem Chain.app {P : Nat} {g : Hm} {n1 n2 n3 : Nat} {Ss : List Sd} {its : List It} {ps : List Nat} (c : Chain P g n1 n2 n3 Ss its ps) (t : Hm) : Chain P (g ++ t) n1 n2 n3 Ss its ps :=
  ⟨c.l1, c.l2, old c.e1, old c.e2, old c.e3, fun i S p h1 h2 => old (c.st i S p h1 h2), c.ok, c.step⟩
theorem ne_st {g : Hm} {p n : Nat} {S : Sd} {xs : List D} (h1 : g[p]? = some (stO S)) (h2 : g[n]? = some (.lst xs)) : n ≠ p := by
  intro z
  subst z
  rw [h1] at h2
  cases h2
/-- what is left to do behind the row -/
def Fin (ns : List Int) (n1 n2 n3 p0 P : Nat) (S0 : Sd) : DS → Hm → Prop := fun s g => ∃ (Ss : List Sd) (its : List It) (ps : List Nat) (x6 x7 x8 x9 : Option D), s = [some (.scl (ns.map D.int)), some S0.enc, some (.ref p0), some (.ref n1), some (.ref n2), some (.ref n3), x6, x7, x8, x9] ∧ Chain P g n1 n2 n3 Ss its ps ∧ Ss[0]? = some S0 ∧ ps[0]? = some p0 ∧ its.length ≤ 60
theorem map_snocD {α : Type} (f : α → D) (l : List α) (x : α) : l.map f ++ [f x] = (l ++ [x]).map f := by simp
theorem isw_eval {a : Ac} {r : Rp} {s : DS} {h : Hm} (hs : s[7]? = some (some (itD (.act a r)))) : (eAnd (eBin dEq (eBin dIx (eBin dIx (eVar 7) (eC (.int 0))) (eC (.int 0))) (eC (.str "write"))) (eBin dEq (eBin dIx (eVar 7) (eC (.int 1))) (eC (.str "done")))) s h = .ok (.bl (isWr a && decide (r = .done))) h := by
  have j0 : ∀ h : Hm, dIx (.tup [acD a, .str r.s]) (.int 0) h = .ok (acD a) h := fun h => ix_tup (k := 0) rfl
  have j1 : ∀ h : Hm, dIx (.tup [acD a, .str r.s]) (.int 1) h = .ok (.str r.s) h := fun h => ix_tup (k := 1) rfl
  have hd : decide (r.s = ("done" : Str)) = decide (r = .done) := rs_eq r .done
  simp only [x_and, x_bin, x_var, x_c, hs, ofO_some, RD.bind_ok, itD, j0, j1, ac_word, q_str, wr_word, tb_ok, hd]
  cases isWr a <;> simp
section
variable {ns : List Int} {n1 n2 n3 p0 P : Nat} {S0 : Sd}
/-- the act of an item answers as it should -/
theorem asked_ok {S S' : Sd} {it : It} {g : Hm} {j p : Nat} {Ss : List Sd} {its : List It} {ps : List Nat} {x8 x9 : Option D} {T : D → Hm → Prop} {N : DS → Hm → Prop} (c : Chain P g n1 n2 n3 Ss its ps) (hS : Ss[j]? = some S) (hp : ps[j]? = some p) (st : Step S it S')
    (fin : ∀ x8' t, N [some (.scl (ns.map D.int)), some S0.enc, some (.ref p0), some (.ref n1), some (.ref n2), some (.ref n3), some (.int (j : Nat)), some (itD it), x8', x9] (g ++ t)) :
    NX (lwA [some (.scl (ns.map D.int)), some S0.enc, some (.ref p0), some (.ref n1), some (.ref n2), some (.ref n3), some (.int (j : Nat)), some (itD it), x8, x9] g) N T := by
  have o := c.ok S (List.mem_of_getElem? hS)
  have hst := c.st j S p hS hp
  cases it with
  | key k =>
    refine nx_ifF (h1 := g) ?_ (nx_next ?_)
    · simp -implicitDefEqProofs only [x_isi, x_var, List.getElem?_cons_zero, List.getElem?_cons_succ, ofO_some, RD.bind_ok, itD, t_int, kit_table]
    · have := fin x8 []
      rw [List.append_nil] at this
      exact this
  | act a r =>
    obtain ⟨acs, b, h1, h2, h3, h4, rfl⟩ := st
    have j0 : ∀ h : Hm, dIx (itD (.act a r)) (.int 0) h = .ok (acD a) h := fun h => ix_tup (k := 0) rfl
    have j1 : ∀ h : Hm, dIx (itD (.act a r)) (.int 1) h = .ok (.str r.s) h := fun h => ix_tup (k := 1) rfl
    refine nx_ifT (h1 := g) ?_ ?_
    · simp -implicitDefEqProofs only [x_isi, x_var, List.getElem?_cons_zero, List.getElem?_cons_succ, ofO_some, RD.bind_ok, itD, t_tup, kit_table]
    refine nx_seq (nx_set (OK.of (isw_eval rfl) ?_))
    simp only [List.set_cons_zero, List.set_cons_succ]
    have ip : ∀ t : Hm, (eBin dIx (eVar 3) (eVar 6)) [some (.scl (ns.map D.int)), some S0.enc, some (.ref p0), some (.ref n1), some (.ref n2), some (.ref n3), some (.int (j : Nat)), some (itD (.act a r)), some (.bl (isWr a && decide (r = .done))), x9] (g ++ t) = .ok (.ref p) (g ++ t) := by
      intro t
      have : dIx (.ref n1) (.int (j : Int)) (g ++ t) = .ok (.ref p) (g ++ t) := ix_ref (old c.e1) (by rw [List.getElem?_map, hp]; rfl)
      simp only [x_bin, x_var, List.getElem?_cons_zero, List.getElem?_cons_succ, ofO_some, RD.bind_ok, this]
    have iS : ∀ t : Hm, dIx (.ref n2) (.int (j : Int)) (g ++ t) = .ok S.enc (g ++ t) := fun t => ix_ref (old c.e2) (by rw [List.getElem?_map, hS]; rfl)
    obtain ⟨m1, t1, q1, q2, _⟩ := x_replies o hst h1 h2
    obtain ⟨m2, t2, q3, q4, _⟩ := x_lawreplies (S := S) (g ++ t1)
    have em : eMeth "Stand" "replies" m_Stand_replies (eBin dIx (eVar 3) (eVar 6)) [(eBin dIx (eVar 7) (eC (.int 0)))] [some (.scl (ns.map D.int)), some S0.enc, some (.ref p0), some (.ref n1), some (.ref n2), some (.ref n3), some (.int (j : Nat)), some (itD (.act a r)), some (.bl (isWr a && decide (r = .done))), x9] g = .ok (.ref m1) (g ++ t1) := by
      have ip0 := ip []
      rw [List.append_nil] at ip0
      rw [meth_okv (S := S) (p := p) (h1 := g) ip0 hst (by decide)]
      simp only [evR_cons, evR_nil, x_bin, x_c, x_var, List.getElem?_cons_zero, List.getElem?_cons_succ, ofO_some, RD.bind_ok, j0, q1]
    have hp6 := reps_pure6 S.fails S.cuts
    have sL : m__law_same 8 [.ref m1, .ref m2] (g ++ t1 ++ t2) = .ok (.bl true) (g ++ t1 ++ t2) := x_sameL (old q2) q4 hp6.1 hp6.2
    refine nx_seq (nx_ifF (h1 := g ++ t1 ++ t2) ?_ (nx_next ?_))
    · rw [x_not, x_args, evR_cons, em]
      simp -implicitDefEqProofs only [RD.bind_ok, evR_cons, evR_nil, x_args, x_bin, x_var, List.getElem?_cons_zero, List.getElem?_cons_succ, ofO_some, iS t1, q3, sL, tb_ok, Bool.not_true]
    have hst2 : (g ++ t1 ++ t2)[p]? = some (stO S) := old (old hst)
    obtain ⟨t3, q5⟩ := served_good o hst2 h1 h2 h4
    have es : eMeth "Stand" "served" m_Stand_served (eBin dIx (eVar 3) (eVar 6)) [(eBin dIx (eVar 7) (eC (.int 0))), (eBin dIx (eVar 7) (eC (.int 1)))] [some (.scl (ns.map D.int)), some S0.enc, some (.ref p0), some (.ref n1), some (.ref n2), some (.ref n3), some (.int (j : Nat)), some (itD (.act a r)), some (.bl (isWr a && decide (r = .done))), x9] (g ++ t1 ++ t2) = .ok (.bl (isWr a && decide (r = .done))) (g ++ t1 ++ t2 ++ t3) := by
      have ip2 := ip (t1 ++ t2)
      rw [← List.append_assoc] at ip2
      rw [meth_okv (S := S) (p := p) (h1 := g ++ t1 ++ t2) ip2 hst2 (by decide)]
      simp only [evR_cons, evR_nil, x_bin, x_c, x_var, List.getElem?_cons_zero, List.getElem?_cons_succ, ofO_some, RD.bind_ok, j0, j1, q5]
    have sB : ∀ (b : Bool) h, m__law_same 8 [.bl b, .bl b] h = .ok (.bl true) h := fun b h => x_same 7 _ h rfl
    refine nx_ifF (h1 := g ++ t1 ++ t2 ++ t3) ?_ (nx_next ?_)
    · rw [x_not, x_args, evR_cons, es]
      simp -implicitDefEqProofs only [RD.bind_ok, evR_cons, evR_nil, x_var, List.getElem?_cons_zero, List.getElem?_cons_succ, ofO_some, sB, tb_ok, Bool.not_true]
    · have := fin (some (.bl (isWr a && decide (r = .done)))) (t1 ++ t2 ++ t3)
      rw [← List.append_assoc, ← List.append_assoc] at this
      exact this
theorem turn_ok (d12 : n1 ≠ n2) (d13 : n1 ≠ n3) (d23 : n2 ≠ n3) {j : Nat} (hj : j < 60) {s : DS} {g : Hm} {T : D → Hm → Prop} (i : ∃ (Ss : List Sd) (its : List It) (ps : List Nat) (x6 x7 x8 x9 : Option D), s = [some (.scl (ns.map D.int)), some S0.enc, some (.ref p0), some (.ref n1), some (.ref n2), some (.ref n3), x6, x7, x8, x9] ∧ Chain P g n1 n2 n3 Ss its ps ∧ Ss[0]? = some S0 ∧ ps[0]? = some p0 ∧ its.length = j) :
    NB (lwB (s.set 6 (some (.int (j : Nat)))) g) (fun s g => ∃ (Ss : List Sd) (its : List It) (ps : List Nat) (x6 x7 x8 x9 : Option D), s = [some (.scl (ns.map D.int)), some S0.enc, some (.ref p0), some (.ref n1), some (.ref n2), some (.ref n3), x6, x7, x8, x9] ∧ Chain P g n1 n2 n3 Ss its ps ∧ Ss[0]? = some S0 ∧ ps[0]? = some p0 ∧ its.length = j + 1) (Fin ns n1 n2 n3 p0 P S0) T := by
  obtain ⟨Ss, its, ps, x6, x7, x8, x9, rfl, c, h0, hp0, hjl⟩ := i
  simp only [List.set_cons_zero, List.set_cons_succ]
  have hSl : j < Ss.length := by have := c.l1; omega
  obtain ⟨S, hS⟩ : ∃ S, Ss[j]? = some S := ⟨_, List.getElem?_eq_getElem hSl⟩
  obtain ⟨p, hp⟩ : ∃ p, ps[j]? = some p := ⟨_, List.getElem?_eq_getElem (by have := c.l2; omega)⟩
  have o := c.ok S (List.mem_of_getElem? hS)
  obtain ⟨cl, ec⟩ := x_cell ns (11 + (j : Int)) g (by omega)
  have iS : dIx (.ref n2) (.int (j : Int)) g = .ok S.enc g := ix_ref c.e2 (by rw [List.getElem?_map, hS]; rfl)
  refine nb_seqN (nx_set ?_)
  simp -implicitDefEqProofs only [ok_ok, ok_bind, ok_tb, bl_bl, x_bin, x_args, evR_cons, evR_nil, x_var, x_c, ofO_some, x_and, x_or, x_not, x_eif, x_chain, x_lst, x_tup, x_isi, List.getElem?_cons_zero, List.getElem?_cons_succ, List.set_cons_zero, List.set_cons_succ, o_cmp, o_sub, o_add, o_int, o_is_n, o_is_b, o_isN_n, o_isN_b, q_int, nq_int, iS, ec]
  refine (x_choice o cl g).mono ?_
  rintro d _ ⟨⟨t, rfl⟩, hd⟩
  have c1 := c.app t
  refine nb_break (p := d = .non) (h1 := g ++ t) (by simp only [x_bin, x_var, x_c, List.getElem?_cons_zero, List.getElem?_cons_succ, ofO_some, RD.bind_ok, o_is_n]) (fun hn => ?_) (fun hn => ?_)
  · exact ⟨Ss, its, ps, _, _, _, _, rfl, c1, h0, hp0, by omega⟩
  obtain ⟨it, S', rfl, st⟩ : ∃ it S', d = itD it ∧ Step S it S' := by
    rcases hd with hd | hd
    · exact absurd hd hn
    · exact hd
  refine nb_seqN (asked_ok c1 hS hp st fun x8' t2 => ?_)
  have c2 := c1.app t2
  generalize g ++ t ++ t2 = g2 at c2
  have hstp := c2.st j S p hS hp
  have lps : ps.length < 100 := by have := c2.l2; have := c2.l1; omega
  have lSs : Ss.length < 100 := by have := c2.l1; omega
  refine nb_last ?_
  -- the row
  refine nx_seq (nx_drop (ok_append ?_))
  simp -implicitDefEqProofs only [ok_ok, ok_bind, ok_tb, bl_bl, x_bin, x_args, evR_cons, evR_nil, x_var, x_c, ofO_some, x_and, x_or, x_not, x_eif, x_chain, x_lst, x_tup, x_isi, List.getElem?_cons_zero, List.getElem?_cons_succ, List.set_cons_zero, List.set_cons_succ, o_cmp, o_sub, o_add, o_int, o_is_n, o_is_b, o_isN_n, o_isN_b, q_int, nq_int]
  refine ⟨n3, _, rfl, c2.e3, _, c2.e3, by rw [List.length_map]; omega, ?_⟩
  rw [map_snocD]
  -- the shape
  have f2 : (g2.set n3 (.lst ((its ++ [it]).map itD)))[n2]? = some (.lst (Ss.map Sd.enc)) := by rw [List.getElem?_set_ne (Ne.symm d23)]; exact c2.e2
  have f1 : (g2.set n3 (.lst ((its ++ [it]).map itD)))[n1]? = some (.lst (ps.map D.ref)) := by rw [List.getElem?_set_ne (Ne.symm d13)]; exact c2.e1
  have f3 : (g2.set n3 (.lst ((its ++ [it]).map itD)))[n3]? = some (.lst ((its ++ [it]).map itD)) := List.getElem?_set_self (lt_of_get c2.e3)
  have fs : ∀ (i : Nat) (S : Sd) (p : Nat), Ss[i]? = some S → ps[i]? = some p → (g2.set n3 (.lst ((its ++ [it]).map itD)))[p]? = some (stO S) := fun i S p h1 h2 => by
    have := c2.st i S p h1 h2
    rw [List.getElem?_set_ne (ne_st this c2.e3)]
    exact this
  generalize g2.set n3 (.lst ((its ++ [it]).map itD)) = g3 at f1 f2 f3 fs
  obtain ⟨u1, m1⟩ := step_model o st g3
  have iS3 : dIx (.ref n2) (.int (j : Int)) g3 = .ok S.enc g3 := ix_ref f2 (by rw [List.getElem?_map, hS]; rfl)
  refine nx_seq (nx_drop (ok_append ?_))
  simp -implicitDefEqProofs only [ok_ok, ok_bind, ok_tb, bl_bl, x_bin, x_args, evR_cons, evR_nil, x_var, x_c, ofO_some, x_and, x_or, x_not, x_eif, x_chain, x_lst, x_tup, x_isi, List.getElem?_cons_zero, List.getElem?_cons_succ, List.set_cons_zero, List.set_cons_succ, o_cmp, o_sub, o_add, o_int, o_is_n, o_is_b, o_isN_n, o_isN_b, q_int, nq_int]
  refine ⟨n2, _, rfl, f2, ?_⟩
  simp -implicitDefEqProofs only [ok_ok, ok_bind, ok_tb, bl_bl, x_bin, x_args, evR_cons, evR_nil, x_var, x_c, ofO_some, x_and, x_or, x_not, x_eif, x_chain, x_lst, x_tup, x_isi, List.getElem?_cons_zero, List.getElem?_cons_succ, List.set_cons_zero, List.set_cons_succ, o_cmp, o_sub, o_add, o_int, o_is_n, o_is_b, o_isN_n, o_isN_b, q_int, nq_int, iS3, m1]
  refine ⟨_, old f2, by rw [List.length_map]; omega, ?_⟩
  rw [map_snocD]
  have k1 : ((g3 ++ u1).set n2 (.lst ((Ss ++ [S']).map Sd.enc)))[n1]? = some (.lst (ps.map D.ref)) := by rw [List.getElem?_set_ne (Ne.symm d12)]; exact old f1
  have k2 : ((g3 ++ u1).set n2 (.lst ((Ss ++ [S']).map Sd.enc)))[n2]? = some (.lst ((Ss ++ [S']).map Sd.enc)) := List.getElem?_set_self (lt_of_get (old f2))
  have k3 : ((g3 ++ u1).set n2 (.lst ((Ss ++ [S']).map Sd.enc)))[n3]? = some (.lst ((its ++ [it]).map itD)) := by rw [List.getElem?_set_ne d23]; exact old f3
  have ks : ∀ (i : Nat) (S : Sd) (p : Nat), Ss[i]? = some S → ps[i]? = some p → ((g3 ++ u1).set n2 (.lst ((Ss ++ [S']).map Sd.enc)))[p]? = some (stO S) := fun i S p h1 h2 => by
    have h3 : (g3 ++ u1)[p]? = some (stO S) := old (fs i S p h1 h2)
    have h4 : (g3 ++ u1)[n2]? = some (.lst (Ss.map Sd.enc)) := old f2
    rw [List.getElem?_set_ne (ne_st h3 h4)]
    exact h3
  generalize (g3 ++ u1).set n2 (.lst ((Ss ++ [S']).map Sd.enc)) = g4 at k1 k2 k3 ks
  -- the stand
  obtain ⟨q, u2, m2, hq⟩ := step_prog o st (ks j S p hS hp)
  have ip4 : dIx (.ref n1) (.int (j : Int)) g4 = .ok (.ref p) g4 := ix_ref k1 (by rw [List.getElem?_map, hp]; rfl)
  refine nx_seq (nx_drop (ok_append ?_))
  simp -implicitDefEqProofs only [ok_ok, ok_bind, ok_tb, bl_bl, x_bin, x_args, evR_cons, evR_nil, x_var, x_c, ofO_some, x_and, x_or, x_not, x_eif, x_chain, x_lst, x_tup, x_isi, List.getElem?_cons_zero, List.getElem?_cons_succ, List.set_cons_zero, List.set_cons_succ, o_cmp, o_sub, o_add, o_int, o_is_n, o_is_b, o_isN_n, o_isN_b, q_int, nq_int]
  refine ⟨n1, _, rfl, k1, ?_⟩
  simp -implicitDefEqProofs only [ok_ok, ok_bind, ok_tb, bl_bl, x_bin, x_args, evR_cons, evR_nil, x_var, x_c, ofO_some, x_and, x_or, x_not, x_eif, x_chain, x_lst, x_tup, x_isi, List.getElem?_cons_zero, List.getElem?_cons_succ, List.set_cons_zero, List.set_cons_succ, o_cmp, o_sub, o_add, o_int, o_is_n, o_is_b, o_isN_n, o_isN_b, q_int, nq_int, ip4, m2]
  refine ⟨_, old k1, by rw [List.length_map]; omega, ?_⟩
  rw [map_snocD]
  have hk1 : (g4 ++ u2)[n1]? = some (.lst (ps.map D.ref)) := old k1
  have w1 : ((g4 ++ u2).set n1 (.lst ((ps ++ [q]).map D.ref)))[n1]? = some (.lst ((ps ++ [q]).map D.ref)) := List.getElem?_set_self (lt_of_get hk1)
  have w2 : ((g4 ++ u2).set n1 (.lst ((ps ++ [q]).map D.ref)))[n2]? = some (.lst ((Ss ++ [S']).map Sd.enc)) := by rw [List.getElem?_set_ne d12]; exact old k2
  have w3 : ((g4 ++ u2).set n1 (.lst ((ps ++ [q]).map D.ref)))[n3]? = some (.lst ((its ++ [it]).map itD)) := by rw [List.getElem?_set_ne d13]; exact old k3
  have ws : ∀ (p : Nat) (S : Sd), (g4 ++ u2)[p]? = some (stO S) → ((g4 ++ u2).set n1 (.lst ((ps ++ [q]).map D.ref)))[p]? = some (stO S) := fun p S h3 => by
    rw [List.getElem?_set_ne (ne_st h3 hk1)]
    exact h3
  have o' := st.ok o
  have c5 : Chain P ((g4 ++ u2).set n1 (.lst ((ps ++ [q]).map D.ref))) n1 n2 n3 (Ss ++ [S']) (its ++ [it]) (ps ++ [q]) := by
    refine ⟨by simp [c2.l1], by simp [c2.l2], w1, w2, w3, fun i A r hA hr => ?_, fun A hA => ?_, fun i A B x hA hB hx => ?_⟩
    · by_cases hi : i < Ss.length
      · rw [List.getElem?_append_left hi] at hA
        rw [List.getElem?_append_left (by rw [c2.l2]; exact hi)] at hr
        exact ws r A (old (ks i A r hA hr))
      · rw [List.getElem?_append_right (by omega)] at hA
        rw [List.getElem?_append_right (by rw [c2.l2]; omega)] at hr
        have hi0 : i - Ss.length = 0 := by
          have := (List.getElem?_eq_some_iff.mp hA).1
          simp at this
          omega
        rw [hi0] at hA
        rw [c2.l2, hi0] at hr
        cases hA
        cases hr
        exact ws q S' hq
    · rcases List.mem_append.mp hA with hA | hA
      · exact c2.ok A hA
      · simp at hA
        subst hA
        exact o'
    · by_cases hi : i < its.length
      · rw [List.getElem?_append_left (by have := c2.l1; omega)] at hA hB
        rw [List.getElem?_append_left hi] at hx
        exact c2.step i A B x hA hB hx
      · have hij : i = its.length := by
          have := (List.getElem?_eq_some_iff.mp hx).1
          simp at this
          omega
        subst hij
        rw [List.getElem?_append_left (by have := c2.l1; omega)] at hA
        rw [List.getElem?_append_right (by have := c2.l1; omega)] at hB
        rw [List.getElem?_append_right (Nat.le_refl _), Nat.sub_self] at hx
        cases hx
        rw [hjl] at hA
        rw [hS] at hA
        cases hA
        have : its.length + 1 - Ss.length = 0 := by have := c2.l1; omega
        rw [this] at hB
        cases hB
        exact st
  generalize (g4 ++ u2).set n1 (.lst ((ps ++ [q]).map D.ref)) = g5 at c5
  have hS5 : (Ss ++ [S'])[j + 1]? = some S' := by
    rw [List.getElem?_append_right (by have := c2.l1; omega)]
    have : j + 1 - Ss.length = 0 := by have := c2.l1; omega
    rw [this]
    rfl
  have hq5 : (ps ++ [q])[j + 1]? = some q := by
    rw [List.getElem?_append_right (by have := c2.l1; have := c2.l2; omega)]
    have : j + 1 - ps.length = 0 := by have := c2.l1; have := c2.l2; omega
    rw [this]
    rfl
  obtain ⟨u3, m3⟩ := agrees_ok o' (c5.st _ _ _ hS5 hq5)
  have i1 : dIx (.ref n1) (.int ((j : Int) + 1)) g5 = .ok (.ref q) g5 := by
    have : dIx (.ref n1) (.int ((j + 1 : Nat) : Int)) g5 = .ok (.ref q) g5 := ix_ref c5.e1 (by rw [List.getElem?_map, hq5]; rfl)
    exact this
  have i2 : dIx (.ref n2) (.int ((j : Int) + 1)) g5 = .ok S'.enc g5 := by
    have : dIx (.ref n2) (.int ((j + 1 : Nat) : Int)) g5 = .ok S'.enc g5 := ix_ref c5.e2 (by rw [List.getElem?_map, hS5]; rfl)
    exact this
  refine nx_ifF (h1 := g5 ++ u3) ?_ (nx_next ⟨Ss ++ [S'], its ++ [it], ps ++ [q], _, _, _, _, rfl, c5.app u3, ?_, ?_, by simp [hjl]⟩)
  · simp -implicitDefEqProofs only [x_not, x_args, evR_cons, evR_nil, x_bin, x_c, x_var, List.getElem?_cons_zero, List.getElem?_cons_succ, ofO_some, RD.bind_ok, o_add, i1, i2, m3, tb_ok, Bool.not_true]
  · rw [List.getElem?_append_left (by omega)]; exact h0
  · rw [List.getElem?_append_left (by have := c2.l2; omega)]; exact hp0
theorem fin_ok {s : DS} {g : Hm} {N : DS → Hm → Prop} (i : Fin ns n1 n2 n3 p0 P S0 s g) : NX (lw7 s g) N fun d _ => d = .bl true := by
  obtain ⟨Ss, its, ps, x6, x7, x8, x9, rfl, c, h0, hp0, hil⟩ := i
  refine nx_seq (nx_set ?_)
  simp -implicitDefEqProofs only [ok_ok, ok_bind, ok_tb, bl_bl, x_bin, x_args, evR_cons, evR_nil, x_var, x_c, ofO_some, x_and, x_or, x_not, x_eif, x_chain, x_lst, x_tup, x_isi, List.getElem?_cons_zero, List.getElem?_cons_succ, List.set_cons_zero, List.set_cons_succ, o_cmp, o_sub, o_add, o_int, o_is_n, o_is_b, o_isN_n, o_isN_b, q_int, nq_int]
  refine nx_seq (nx_forI (n := n3) (xs := its.map itD) (h1 := g) (fun j s h => ∃ (q : Nat) (S : Sd) (x7 : Option D) (t : Hm), s = [some (.scl (ns.map D.int)), some S0.enc, some (.ref p0), some (.ref n1), some (.ref n2), some (.ref n3), x6, x7, x8, some (.ref q)] ∧ h = g ++ t ∧ h[q]? = some (stO S) ∧ Ss[j]? = some S) rfl c.e3 ?_ ?_ ?_ ?_)
  · rintro j s h ⟨q, S, x7, t, rfl, rfl, _⟩
    exact old c.e3
  · exact ⟨p0, S0, _, [], rfl, by simp, c.st 0 S0 p0 h0 hp0, h0⟩
  · rintro j x _ _ hx ⟨q, S, x7, t, rfl, rfl, hq, hS⟩
    rw [List.getElem?_map] at hx
    obtain ⟨it, hit, rfl⟩ := Option.map_eq_some_iff.mp hx
    have hjl : j < its.length := (List.getElem?_eq_some_iff.mp hit).1
    obtain ⟨S', hS'⟩ : ∃ S', Ss[j + 1]? = some S' := ⟨_, List.getElem?_eq_getElem (by have := c.l1; omega)⟩
    have st := c.step j S S' it hS hS' hit
    obtain ⟨q', t', e1, e2⟩ := step_prog (c.ok S (List.mem_of_getElem? hS)) st hq
    simp only [List.set_cons_zero, List.set_cons_succ]
    refine nx_set ?_
    simp -implicitDefEqProofs only [ok_ok, ok_bind, ok_tb, bl_bl, x_bin, x_args, evR_cons, evR_nil, x_var, x_c, ofO_some, x_and, x_or, x_not, x_eif, x_chain, x_lst, x_tup, x_isi, List.getElem?_cons_zero, List.getElem?_cons_succ, List.set_cons_zero, List.set_cons_succ, o_cmp, o_sub, o_add, o_int, o_is_n, o_is_b, o_isN_n, o_isN_b, q_int, nq_int, e1]
    exact ⟨q', S', _, t ++ t', rfl, by rw [List.append_assoc], e2, hS'⟩
  · rintro _ _ ⟨q, S, x7, t, rfl, rfl, hq, hS⟩
    rw [List.length_map] at hS
    have c1 := c.app t
    generalize g ++ t = g1 at c1 hq
    have lps : ps.length < 100 := by have := c1.l2; have := c1.l1; omega
    refine nx_seq (nx_forR (n := ps.length) (h1 := g1) (fun j s h => (∃ x6, s = [some (.scl (ns.map D.int)), some S0.enc, some (.ref p0), some (.ref n1), some (.ref n2), some (.ref n3), x6, x7, x8, some (.ref q)]) ∧ h = g1) (by omega) ?_ ⟨⟨_, rfl⟩, rfl⟩ ?_ ?_)
    · simp only [x_args, evR_cons, evR_nil, x_var, List.getElem?_cons_zero, List.getElem?_cons_succ, ofO_some, RD.bind_ok, len_ref c1.e1, List.length_map]
    · rintro j _ _ hj ⟨⟨x6, rfl⟩, rfl⟩
      simp only [List.set_cons_zero, List.set_cons_succ]
      obtain ⟨A, hA⟩ : ∃ A, Ss[j]? = some A := ⟨_, List.getElem?_eq_getElem (by have := c1.l2; omega)⟩
      obtain ⟨r, hr⟩ : ∃ r, ps[j]? = some r := ⟨_, List.getElem?_eq_getElem hj⟩
      have hst := c1.st j A r hA hr
      have oA := c1.ok A (List.mem_of_getElem? hA)
      rename_i g2
      have i1 : (eBin dIx (eVar 3) (eVar 6)) [some (.scl (ns.map D.int)), some S0.enc, some (.ref p0), some (.ref n1), some (.ref n2), some (.ref n3), some (.int (j : Nat)), x7, x8, some (.ref q)] g2 = .ok (.ref r) g2 := by
        have : dIx (.ref n1) (.int (j : Int)) g2 = .ok (.ref r) g2 := ix_ref c1.e1 (by rw [List.getElem?_map, hr]; rfl)
        simp only [x_bin, x_var, List.getElem?_cons_zero, List.getElem?_cons_succ, ofO_some, RD.bind_ok, this]
      have i2 : dIx (.ref n2) (.int (j : Int)) g2 = .ok A.enc g2 := ix_ref c1.e2 (by rw [List.getElem?_map, hA]; rfl)
      have es : eMeth "Stand" "shape" m_Stand_shape (eBin dIx (eVar 3) (eVar 6)) [] [some (.scl (ns.map D.int)), some S0.enc, some (.ref p0), some (.ref n1), some (.ref n2), some (.ref n3), some (.int (j : Nat)), x7, x8, some (.ref q)] g2 = .ok A.enc g2 := by
        rw [meth_okv (S := A) (p := r) (h1 := g2) i1 hst (by decide), evR_nil, x_shape hst]
      refine nx_ifF (h1 := g2) ?_ (nx_next ⟨⟨_, rfl⟩, rfl⟩)
      rw [x_not, x_args, evR_cons, es]
      simp -implicitDefEqProofs only [RD.bind_ok, evR_cons, evR_nil, x_bin, x_var, List.getElem?_cons_zero, List.getElem?_cons_succ, ofO_some, i2, same_encD oA, tb_ok, Bool.not_true]
    · rintro _ _ ⟨⟨x6, rfl⟩, rfl⟩
      rename_i g2
      have oS := c1.ok S (List.mem_of_getElem? hS)
      have es : eMeth "Stand" "shape" m_Stand_shape (eVar 9) [] [some (.scl (ns.map D.int)), some S0.enc, some (.ref p0), some (.ref n1), some (.ref n2), some (.ref n3), x6, x7, x8, some (.ref q)] g2 = .ok S.enc g2 := by
        rw [meth_okv (S := S) (p := q) (h1 := g2) rfl hq (by decide), evR_nil, x_shape hq]
      have el : bLen [.ref n2] g2 = .ok (.int (Ss.length : Nat)) g2 := by
        have := len_ref c1.e2
        rw [List.length_map] at this
        exact this
      have il : dIx (.ref n2) (.int ((Ss.length : Int) - 1)) g2 = .ok S.enc g2 := by
        have e : ((Ss.length : Int) - 1) = ((its.length : Nat) : Int) := by have := c1.l1; omega
        rw [e]
        exact ix_ref c1.e2 (by rw [List.getElem?_map, hS]; rfl)
      refine nx_ret (OK.of (d := .bl true) (h := g2) ?_ rfl)
      rw [x_args, evR_cons, es]
      simp -implicitDefEqProofs only [RD.bind_ok, evR_cons, evR_nil, x_bin, x_args, x_c, x_var, List.getElem?_cons_zero, List.getElem?_cons_succ, ofO_some, el, o_sub, il, same_encD oS]
end
theorem law_true : ∀ ns : List Int, ns.length ≤ 63 → ∃ h', m_law [.scl (ns.map D.int)] [] = .ok (.bl true) h' := by
  intro ns hns
  suffices hh : OK (m_law [.scl (ns.map D.int)] []) (fun d _ => d = .bl true) by
    obtain ⟨d, h', e, hd⟩ := hh.get
    exact ⟨h', by rw [e, hd]⟩
  refine ok_run ?_
  show NX (g_law [some (.scl (ns.map D.int)), none, none, none, none, none, none, none, none, none] []) _ _
  unfold g_law
  refine nx_seq (nx_set ?_)
  simp -implicitDefEqProofs only [ok_ok, ok_bind, ok_tb, bl_bl, x_bin, x_args, evR_cons, evR_nil, x_var, x_c, ofO_some, x_and, x_or, x_not, x_eif, x_chain, x_lst, x_tup, x_isi, List.getElem?_cons_zero, List.getElem?_cons_succ, List.set_cons_zero, List.set_cons_succ, o_cmp, o_sub, o_add, o_int, o_is_n, o_is_b, o_isN_n, o_isN_b, q_int, nq_int]
  refine (x_any (ns := ns) []).mono ?_
  rintro _ h ⟨S, P, o, rfl⟩
  try simp -implicitDefEqProofs only [ok_ok, ok_bind, ok_tb, bl_bl, x_bin, x_args, evR_cons, evR_nil, x_var, x_c, ofO_some, x_and, x_or, x_not, x_eif, x_chain, x_lst, x_tup, x_isi, List.getElem?_cons_zero, List.getElem?_cons_succ, List.set_cons_zero, List.set_cons_succ, o_cmp, o_sub, o_add, o_int, o_is_n, o_is_b, o_isN_n, o_isN_b, q_int, nq_int]
  refine nx_seq (nx_set ?_)
  obtain ⟨p, t1, f1, hp, _⟩ := x_stand o h
  simp -implicitDefEqProofs only [ok_ok, ok_bind, ok_tb, bl_bl, x_bin, x_args, evR_cons, evR_nil, x_var, x_c, ofO_some, x_and, x_or, x_not, x_eif, x_chain, x_lst, x_tup, x_isi, List.getElem?_cons_zero, List.getElem?_cons_succ, List.set_cons_zero, List.set_cons_succ, o_cmp, o_sub, o_add, o_int, o_is_n, o_is_b, o_isN_n, o_isN_b, q_int, nq_int, f1]
  obtain ⟨t2, f2⟩ := agrees_ok o hp
  refine nx_seq (nx_ifF (h1 := h ++ t1 ++ t2) ?_ (nx_next ?_))
  · simp only [x_not, x_args, evR_cons, evR_nil, x_var, List.getElem?_cons_zero, List.getElem?_cons_succ, ofO_some, RD.bind_ok, f2, tb_ok, Bool.not_true]
  have hp2 : (h ++ t1 ++ t2)[p]? = some (stO S) := old hp
  generalize h ++ t1 ++ t2 = g at hp2
  refine nx_seq (nx_set ?_)
  simp -implicitDefEqProofs only [ok_ok, ok_bind, ok_tb, bl_bl, x_bin, x_args, evR_cons, evR_nil, x_var, x_c, ofO_some, x_and, x_or, x_not, x_eif, x_chain, x_lst, x_tup, x_isi, List.getElem?_cons_zero, List.getElem?_cons_succ, List.set_cons_zero, List.set_cons_succ, o_cmp, o_sub, o_add, o_int, o_is_n, o_is_b, o_isN_n, o_isN_b, q_int, nq_int]
  refine nx_seq (nx_set ?_)
  simp -implicitDefEqProofs only [ok_ok, ok_bind, ok_tb, bl_bl, x_bin, x_args, evR_cons, evR_nil, x_var, x_c, ofO_some, x_and, x_or, x_not, x_eif, x_chain, x_lst, x_tup, x_isi, List.getElem?_cons_zero, List.getElem?_cons_succ, List.set_cons_zero, List.set_cons_succ, o_cmp, o_sub, o_add, o_int, o_is_n, o_is_b, o_isN_n, o_isN_b, q_int, nq_int]
  refine nx_seq (nx_set ?_)
  simp -implicitDefEqProofs only [ok_ok, ok_bind, ok_tb, bl_bl, x_bin, x_args, evR_cons, evR_nil, x_var, x_c, ofO_some, x_and, x_or, x_not, x_eif, x_chain, x_lst, x_tup, x_isi, List.getElem?_cons_zero, List.getElem?_cons_succ, List.set_cons_zero, List.set_cons_succ, o_cmp, o_sub, o_add, o_int, o_is_n, o_is_b, o_isN_n, o_isN_b, q_int, nq_int]
  have e1 : (g ++ [O.lst [.ref p]] ++ [O.lst [S.enc]] ++ [O.lst []])[g.length]? = some (.lst [.ref p]) := by simp
  have e2 : (g ++ [O.lst [.ref p]] ++ [O.lst [S.enc]] ++ [O.lst []])[(g ++ [O.lst [.ref p]]).length]? = some (.lst [S.enc]) := by simp
  have e3 : (g ++ [O.lst [.ref p]] ++ [O.lst [S.enc]] ++ [O.lst []])[(g ++ [O.lst [.ref p]] ++ [O.lst [S.enc]]).length]? = some (.lst []) := get_last
  have c : Chain P (g ++ [O.lst [.ref p]] ++ [O.lst [S.enc]] ++ [O.lst []]) g.length (g ++ [O.lst [.ref p]]).length (g ++ [O.lst [.ref p]] ++ [O.lst [S.enc]]).length [S] [] [p] := by
    refine ⟨rfl, rfl, e1, e2, e3, fun i A r hA hr => ?_, fun A hA => by simp at hA; subst hA; exact o, fun i A B x _ _ hx => by simp at hx⟩
    have : i = 0 := by
      have := (List.getElem?_eq_some_iff.mp hA).1
      simp at this
      omega
    subst this
    cases hA
    cases hr
    exact old (old (old hp2))
  generalize hG : g ++ [O.lst [.ref p]] ++ [O.lst [S.enc]] ++ [O.lst []] = G at c
  obtain ⟨M, hM, hMb⟩ : ∃ M : Nat, (if (if (63 : Int) < (ns.length : Int) then (63 : Int) else (ns.length : Int)) - 11 > 6 then (if (63 : Int) < (ns.length : Int) then (63 : Int) else (ns.length : Int)) - 11 else 6) = (M : Int) ∧ M ≤ 60 := by
    refine ⟨(if (if (63 : Int) < (ns.length : Int) then (63 : Int) else (ns.length : Int)) - 11 > 6 then (if (63 : Int) < (ns.length : Int) then (63 : Int) else (ns.length : Int)) - 11 else 6).toNat, ?_, ?_⟩
    · split <;> split <;> omega
    · split <;> split <;> omega
  have hn1 : g.length ≠ (g ++ [O.lst [.ref p]]).length := by simp
  have hn2 : g.length ≠ (g ++ [O.lst [.ref p]] ++ [O.lst [S.enc]]).length := by simp
  have hn3 : (g ++ [O.lst [.ref p]]).length ≠ (g ++ [O.lst [.ref p]] ++ [O.lst [S.enc]]).length := by simp
  generalize g.length = n1, (g ++ [O.lst [.ref p]]).length = n2, (g ++ [O.lst [.ref p]] ++ [O.lst [S.enc]]).length = n3 at c hn1 hn2 hn3 ⊢
  refine nx_seq (NX.mono (N := Fin ns n1 n2 n3 p P S) (T := fun d _ => d = .bl true) (nb_forR (n := M) (h1 := G) (fun j s g => ∃ (Ss : List Sd) (its : List It) (ps : List Nat) (x6 x7 x8 x9 : Option D), s = [some (.scl (ns.map D.int)), some S.enc, some (.ref p), some (.ref n1), some (.ref n2), some (.ref n3), x6, x7, x8, x9] ∧ Chain P g n1 n2 n3 Ss its ps ∧ Ss[0]? = some S ∧ ps[0]? = some p ∧ its.length = j) (by omega) ?_ ⟨_, _, _, _, _, _, _, rfl, c, rfl, rfl, rfl⟩ (fun j s h hj i => turn_ok hn1 hn2 hn3 (by omega) i) ?_) (fun s g i => fin_ok i) (fun _ _ z => z))
  · rw [← hM]
    have e : ∀ h, bLen [.scl (ns.map D.int)] h = .ok (.int (ns.length : Int)) h := fun h => by rw [o_len_s, List.length_map]
    simp only [x_args, evR_cons, evR_nil, x_var, x_c, x_bin, List.getElem?_cons_zero, List.getElem?_cons_succ, ofO_some, RD.bind_ok, e, bMin2, bMax2, bTwo, o_sub]
  · rintro s g ⟨Ss, its, ps, x6, x7, x8, x9, rfl, c, h0, hp0, hl⟩
    exact ⟨Ss, its, ps, x6, x7, x8, x9, rfl, c, h0, hp0, by omega⟩
end Sh.k07


open PySem PySem.W PyProof.Rows in
set_option maxRecDepth 100000 in
set_option maxHeartbeats 0 in
theorem PySem.Challenge.cw_spentblocks_k07_whole_rows_of_acts_holds : PySem.Challenge.rw_spentblocks_k07_whole_rows_of_acts.Holds := by
  w_on; o_law; k_head; (case hw => w_witness2)
  k_fill
  refine Sh.walkS (l := PySem.Challenge.rw_spentblocks_k07_whole_rows_of_acts) (k := 11) rfl rfl ⟨rfl, by decide, by decide⟩ (fun w h Y => PySem.W.kIn_of Y) ?F
  case F =>
    intro w mg fa h KX G hmg
    refine' Sh.k07.all_mk Sh.k07.law_true KX G hmg ?b_all ?b_any ?b_bool ?b_enumerate ?b_int ?b_isinstance ?b_len ?b_list ?b_max ?b_min ?b_range ?b_set ?b_sorted ?b_str ?b_tuple ?c_MOST_BLOCKS ?c_MOST_KEYS ?c_MOST_LEFT ?c_MOST_LOSSES ?c_MOST_PAGES ?a_Stand ?pg_Stand ?hd_Stand ?po_Stand ?sa_Stand ?mk_Stand ?kc_Stand ?na_Stand__shape ?e_NoAct ?x_NoAct ?ke_NoAct ?be_NoAct ?te_NoAct ?he_NoAct ?e_NoKey ?x_NoKey ?ke_NoKey ?be_NoKey ?te_NoKey ?he_NoKey ?e_NoReply ?x_NoReply ?ke_NoReply ?be_NoReply ?te_NoReply ?he_NoReply ?e_NotAtRest ?x_NotAtRest ?ke_NotAtRest ?be_NotAtRest ?te_NotAtRest ?he_NotAtRest ?a_f__law_cell ?l_f__law_cell ?a_f__law_mixed ?l_f__law_mixed ?a_f__law_digits ?l_f__law_digits ?a_f__law_left ?l_f__law_left ?a_f__law_pages ?l_f__law_pages ?a_f__law_block ?l_f__law_block ?a_f__law_drawn ?l_f__law_drawn ?a_f__law_small_left ?l_f__law_small_left ?a_f__law_small ?l_f__law_small ?a_f__law_any_stand ?l_f__law_any_stand ?a_f_is_whole ?l_f_is_whole ?a_f_is_left ?l_f_is_left ?a_f_is_key ?l_f_is_key ?a_f_is_block ?l_f_is_block ?a_f_are_blocks ?l_f_are_blocks ?a_f_wrong_part ?l_f_wrong_part ?a_f_Stand_init ?i_f_Stand_init ?l_f_Stand_init ?a_f__law_stand ?l_f__law_stand ?a_f_Stand_shape ?i_f_Stand_shape ?l_f_Stand_shape ?a_f__law_same ?l_f__law_same ?a_f_has_room ?l_f_has_room ?a_f_places ?l_f_places ?a_f_held ?l_f_held ?a_f_can_be_erased ?l_f_can_be_erased ?a_f_acts_on ?l_f_acts_on ?a_f_shape_acts ?l_f_shape_acts ?a_f_Stand_acts ?i_f_Stand_acts ?l_f_Stand_acts ?a_f__law_rooms ?l_f__law_rooms ?a_f__law_place ?l_f__law_place ?a_f__law_erasable ?l_f__law_erasable ?a_f__law_acts ?l_f__law_acts ?a_f_Stand_asked ?i_f_Stand_asked ?l_f_Stand_asked ?a_f_Stand_many ?i_f_Stand_many ?l_f_Stand_many ?a_f_Stand_where ?i_f_Stand_where ?l_f_Stand_where ?a_f__law_agrees ?l_f__law_agrees ?a_f__law_replies ?l_f__law_replies ?a_f__law_choice ?l_f__law_choice ?a_f_is_act ?l_f_is_act ?a_f_Stand_fails ?i_f_Stand_fails ?l_f_Stand_fails ?a_f_Stand_cuts ?i_f_Stand_cuts ?l_f_Stand_cuts ?a_f_let_replies ?l_f_let_replies ?a_f_Stand_replies ?i_f_Stand_replies ?l_f_Stand_replies ?a_f_is_served ?l_f_is_served ?a_f_Stand_served ?i_f_Stand_served ?l_f_Stand_served ?a_f__law_bad ?l_f__law_bad ?a_f__law_erased ?l_f__law_erased ?a_f__law_filled ?l_f__law_filled ?a_f__law_aged ?l_f__law_aged ?a_f__law_rows_after ?l_f__law_rows_after ?a_f__law_after ?l_f__law_after ?a_f__law_put ?l_f__law_put ?a_f__law_model_step ?l_f__law_model_step ?a_f_gone_bad ?l_f_gone_bad ?a_f_with_block ?l_f_with_block ?a_f_erased ?l_f_erased ?a_f_filled ?l_f_filled ?a_f_with_copy ?l_f_with_copy ?a_f_blocks_behind ?l_f_blocks_behind ?a_f_shape_behind ?l_f_shape_behind ?a_f_is_shape ?l_f_is_shape ?a_f_stand_of ?l_f_stand_of ?a_f_Stand_after ?i_f_Stand_after ?l_f_Stand_after ?a_f_shape_asked ?l_f_shape_asked ?a_f_Stand_put ?i_f_Stand_put ?l_f_Stand_put ?a_f__law_program_step ?l_f__law_program_step ?a_f_law ?l_f_law
    (case b_all => k_is)
    (case b_any => k_is)
    (case b_bool => k_is)
    (case b_enumerate => k_is)
    (case b_int => k_is)
    (case b_isinstance => k_is)
    (case b_len => k_is)
    (case b_list => k_is)
    (case b_max => k_is)
    (case b_min => k_is)
    (case b_range => k_is)
    (case b_set => k_is)
    (case b_sorted => k_is)
    (case b_str => k_is)
    (case b_tuple => k_is)
    (case c_MOST_BLOCKS => k_is)
    (case c_MOST_KEYS => k_is)
    (case c_MOST_LEFT => k_is)
    (case c_MOST_LOSSES => k_is)
    (case c_MOST_PAGES => k_is)
    (case a_Stand => k_is)
    (case pg_Stand => k_is)
    (case hd_Stand => k_is)
    (case po_Stand => k_is)
    (case sa_Stand => k_is)
    (case mk_Stand => k_is)
    (case kc_Stand => k_is)
    (case na_Stand__shape => k_is)
    (case e_NoAct => k_is)
    (case x_NoAct => first | k_is | k_exc)
    (case ke_NoAct => k_is)
    (case be_NoAct => k_is)
    (case te_NoAct => k_is)
    (case he_NoAct => k_is)
    (case e_NoKey => k_is)
    (case x_NoKey => first | k_is | k_exc)
    (case ke_NoKey => k_is)
    (case be_NoKey => k_is)
    (case te_NoKey => k_is)
    (case he_NoKey => k_is)
    (case e_NoReply => k_is)
    (case x_NoReply => first | k_is | k_exc)
    (case ke_NoReply => k_is)
    (case be_NoReply => k_is)
    (case te_NoReply => k_is)
    (case he_NoReply => k_is)
    (case e_NotAtRest => k_is)
    (case x_NotAtRest => first | k_is | k_exc)
    (case ke_NotAtRest => k_is)
    (case be_NotAtRest => k_is)
    (case te_NotAtRest => k_is)
    (case he_NotAtRest => k_is)
    (case a_f__law_cell => k_is)
    (case l_f__law_cell => (refine' Sh.fnFact ?l ?c ?k; (case l => k_is); (case c => k_is); (case k => k_is)))
    (case a_f__law_mixed => k_is)
    (case l_f__law_mixed => (refine' Sh.fnFact ?l ?c ?k; (case l => k_is); (case c => k_is); (case k => k_is)))
    (case a_f__law_digits => k_is)
    (case l_f__law_digits => (refine' Sh.fnFact ?l ?c ?k; (case l => k_is); (case c => k_is); (case k => k_is)))
    (case a_f__law_left => k_is)
    (case l_f__law_left => (refine' Sh.fnFact ?l ?c ?k; (case l => k_is); (case c => k_is); (case k => k_is)))
    (case a_f__law_pages => k_is)
    (case l_f__law_pages => (refine' Sh.fnFact ?l ?c ?k; (case l => k_is); (case c => k_is); (case k => k_is)))
    (case a_f__law_block => k_is)
    (case l_f__law_block => (refine' Sh.fnFact ?l ?c ?k; (case l => k_is); (case c => k_is); (case k => k_is)))
    (case a_f__law_drawn => k_is)
    (case l_f__law_drawn => (refine' Sh.fnFact ?l ?c ?k; (case l => k_is); (case c => k_is); (case k => k_is)))
    (case a_f__law_small_left => k_is)
    (case l_f__law_small_left => (refine' Sh.fnFact ?l ?c ?k; (case l => k_is); (case c => k_is); (case k => k_is)))
    (case a_f__law_small => k_is)
    (case l_f__law_small => (refine' Sh.fnFact ?l ?c ?k; (case l => k_is); (case c => k_is); (case k => k_is)))
    (case a_f__law_any_stand => k_is)
    (case l_f__law_any_stand => (refine' Sh.fnFact ?l ?c ?k; (case l => k_is); (case c => k_is); (case k => k_is)))
    (case a_f_is_whole => k_is)
    (case l_f_is_whole => (refine' Sh.fnFact ?l ?c ?k; (case l => k_is); (case c => k_is); (case k => k_is)))
    (case a_f_is_left => k_is)
    (case l_f_is_left => (refine' Sh.fnFact ?l ?c ?k; (case l => k_is); (case c => k_is); (case k => k_is)))
    (case a_f_is_key => k_is)
    (case l_f_is_key => (refine' Sh.fnFact ?l ?c ?k; (case l => k_is); (case c => k_is); (case k => k_is)))
    (case a_f_is_block => k_is)
    (case l_f_is_block => (refine' Sh.fnFact ?l ?c ?k; (case l => k_is); (case c => k_is); (case k => k_is)))
    (case a_f_are_blocks => k_is)
    (case l_f_are_blocks => (refine' Sh.fnFact ?l ?c ?k; (case l => k_is); (case c => k_is); (case k => k_is)))
    (case a_f_wrong_part => k_is)
    (case l_f_wrong_part => (refine' Sh.fnFact ?l ?c ?k; (case l => k_is); (case c => k_is); (case k => k_is)))
    (case a_f_Stand_init => k_is)
    (case i_f_Stand_init => k_is)
    (case l_f_Stand_init => (refine' Sh.fnFact ?l ?c ?k; (case l => k_is); (case c => k_is); (case k => k_is)))
    (case a_f__law_stand => k_is)
    (case l_f__law_stand => (refine' Sh.fnFact ?l ?c ?k; (case l => k_is); (case c => k_is); (case k => k_is)))
    (case a_f_Stand_shape => k_is)
    (case i_f_Stand_shape => k_is)
    (case l_f_Stand_shape => (refine' Sh.fnFact ?l ?c ?k; (case l => k_is); (case c => k_is); (case k => k_is)))
    (case a_f__law_same => k_is)
    (case l_f__law_same => (refine' Sh.fnFact ?l ?c ?k; (case l => k_is); (case c => k_is); (case k => k_is)))
    (case a_f_has_room => k_is)
    (case l_f_has_room => (refine' Sh.fnFact ?l ?c ?k; (case l => k_is); (case c => k_is); (case k => k_is)))
    (case a_f_places => k_is)
    (case l_f_places => (refine' Sh.fnFact ?l ?c ?k; (case l => k_is); (case c => k_is); (case k => k_is)))
    (case a_f_held => k_is)
    (case l_f_held => (refine' Sh.fnFact ?l ?c ?k; (case l => k_is); (case c => k_is); (case k => k_is)))
    (case a_f_can_be_erased => k_is)
    (case l_f_can_be_erased => (refine' Sh.fnFact ?l ?c ?k; (case l => k_is); (case c => k_is); (case k => k_is)))
    (case a_f_acts_on => k_is)
    (case l_f_acts_on => (refine' Sh.fnFact ?l ?c ?k; (case l => k_is); (case c => k_is); (case k => k_is)))
    (case a_f_shape_acts => k_is)
    (case l_f_shape_acts => (refine' Sh.fnFact ?l ?c ?k; (case l => k_is); (case c => k_is); (case k => k_is)))
    (case a_f_Stand_acts => k_is)
    (case i_f_Stand_acts => k_is)
    (case l_f_Stand_acts => (refine' Sh.fnFact ?l ?c ?k; (case l => k_is); (case c => k_is); (case k => k_is)))
    (case a_f__law_rooms => k_is)
    (case l_f__law_rooms => (refine' Sh.fnFact ?l ?c ?k; (case l => k_is); (case c => k_is); (case k => k_is)))
    (case a_f__law_place => k_is)
    (case l_f__law_place => (refine' Sh.fnFact ?l ?c ?k; (case l => k_is); (case c => k_is); (case k => k_is)))
    (case a_f__law_erasable => k_is)
    (case l_f__law_erasable => (refine' Sh.fnFact ?l ?c ?k; (case l => k_is); (case c => k_is); (case k => k_is)))
    (case a_f__law_acts => k_is)
    (case l_f__law_acts => (refine' Sh.fnFact ?l ?c ?k; (case l => k_is); (case c => k_is); (case k => k_is)))
    (case a_f_Stand_asked => k_is)
    (case i_f_Stand_asked => k_is)
    (case l_f_Stand_asked => (refine' Sh.fnFact ?l ?c ?k; (case l => k_is); (case c => k_is); (case k => k_is)))
    (case a_f_Stand_many => k_is)
    (case i_f_Stand_many => k_is)
    (case l_f_Stand_many => (refine' Sh.fnFact ?l ?c ?k; (case l => k_is); (case c => k_is); (case k => k_is)))
    (case a_f_Stand_where => k_is)
    (case i_f_Stand_where => k_is)
    (case l_f_Stand_where => (refine' Sh.fnFact ?l ?c ?k; (case l => k_is); (case c => k_is); (case k => k_is)))
    (case a_f__law_agrees => k_is)
    (case l_f__law_agrees => (refine' Sh.fnFact ?l ?c ?k; (case l => k_is); (case c => k_is); (case k => k_is)))
    (case a_f__law_replies => k_is)
    (case l_f__law_replies => (refine' Sh.fnFact ?l ?c ?k; (case l => k_is); (case c => k_is); (case k => k_is)))
    (case a_f__law_choice => k_is)
    (case l_f__law_choice => (refine' Sh.fnFact ?l ?c ?k; (case l => k_is); (case c => k_is); (case k => k_is)))
    (case a_f_is_act => k_is)
    (case l_f_is_act => (refine' Sh.fnFact ?l ?c ?k; (case l => k_is); (case c => k_is); (case k => k_is)))
    (case a_f_Stand_fails => k_is)
    (case i_f_Stand_fails => k_is)
    (case l_f_Stand_fails => (refine' Sh.fnFact ?l ?c ?k; (case l => k_is); (case c => k_is); (case k => k_is)))
    (case a_f_Stand_cuts => k_is)
    (case i_f_Stand_cuts => k_is)
    (case l_f_Stand_cuts => (refine' Sh.fnFact ?l ?c ?k; (case l => k_is); (case c => k_is); (case k => k_is)))
    (case a_f_let_replies => k_is)
    (case l_f_let_replies => (refine' Sh.fnFact ?l ?c ?k; (case l => k_is); (case c => k_is); (case k => k_is)))
    (case a_f_Stand_replies => k_is)
    (case i_f_Stand_replies => k_is)
    (case l_f_Stand_replies => (refine' Sh.fnFact ?l ?c ?k; (case l => k_is); (case c => k_is); (case k => k_is)))
    (case a_f_is_served => k_is)
    (case l_f_is_served => (refine' Sh.fnFact ?l ?c ?k; (case l => k_is); (case c => k_is); (case k => k_is)))
    (case a_f_Stand_served => k_is)
    (case i_f_Stand_served => k_is)
    (case l_f_Stand_served => (refine' Sh.fnFact ?l ?c ?k; (case l => k_is); (case c => k_is); (case k => k_is)))
    (case a_f__law_bad => k_is)
    (case l_f__law_bad => (refine' Sh.fnFact ?l ?c ?k; (case l => k_is); (case c => k_is); (case k => k_is)))
    (case a_f__law_erased => k_is)
    (case l_f__law_erased => (refine' Sh.fnFact ?l ?c ?k; (case l => k_is); (case c => k_is); (case k => k_is)))
    (case a_f__law_filled => k_is)
    (case l_f__law_filled => (refine' Sh.fnFact ?l ?c ?k; (case l => k_is); (case c => k_is); (case k => k_is)))
    (case a_f__law_aged => k_is)
    (case l_f__law_aged => (refine' Sh.fnFact ?l ?c ?k; (case l => k_is); (case c => k_is); (case k => k_is)))
    (case a_f__law_rows_after => k_is)
    (case l_f__law_rows_after => (refine' Sh.fnFact ?l ?c ?k; (case l => k_is); (case c => k_is); (case k => k_is)))
    (case a_f__law_after => k_is)
    (case l_f__law_after => (refine' Sh.fnFact ?l ?c ?k; (case l => k_is); (case c => k_is); (case k => k_is)))
    (case a_f__law_put => k_is)
    (case l_f__law_put => (refine' Sh.fnFact ?l ?c ?k; (case l => k_is); (case c => k_is); (case k => k_is)))
    (case a_f__law_model_step => k_is)
    (case l_f__law_model_step => (refine' Sh.fnFact ?l ?c ?k; (case l => k_is); (case c => k_is); (case k => k_is)))
    (case a_f_gone_bad => k_is)
    (case l_f_gone_bad => (refine' Sh.fnFact ?l ?c ?k; (case l => k_is); (case c => k_is); (case k => k_is)))
    (case a_f_with_block => k_is)
    (case l_f_with_block => (refine' Sh.fnFact ?l ?c ?k; (case l => k_is); (case c => k_is); (case k => k_is)))
    (case a_f_erased => k_is)
    (case l_f_erased => (refine' Sh.fnFact ?l ?c ?k; (case l => k_is); (case c => k_is); (case k => k_is)))
    (case a_f_filled => k_is)
    (case l_f_filled => (refine' Sh.fnFact ?l ?c ?k; (case l => k_is); (case c => k_is); (case k => k_is)))
    (case a_f_with_copy => k_is)
    (case l_f_with_copy => (refine' Sh.fnFact ?l ?c ?k; (case l => k_is); (case c => k_is); (case k => k_is)))
    (case a_f_blocks_behind => k_is)
    (case l_f_blocks_behind => (refine' Sh.fnFact ?l ?c ?k; (case l => k_is); (case c => k_is); (case k => k_is)))
    (case a_f_shape_behind => k_is)
    (case l_f_shape_behind => (refine' Sh.fnFact ?l ?c ?k; (case l => k_is); (case c => k_is); (case k => k_is)))
    (case a_f_is_shape => k_is)
    (case l_f_is_shape => (refine' Sh.fnFact ?l ?c ?k; (case l => k_is); (case c => k_is); (case k => k_is)))
    (case a_f_stand_of => k_is)
    (case l_f_stand_of => (refine' Sh.fnFact ?l ?c ?k; (case l => k_is); (case c => k_is); (case k => k_is)))
    (case a_f_Stand_after => k_is)
    (case i_f_Stand_after => k_is)
    (case l_f_Stand_after => (refine' Sh.fnFact ?l ?c ?k; (case l => k_is); (case c => k_is); (case k => k_is)))
    (case a_f_shape_asked => k_is)
    (case l_f_shape_asked => (refine' Sh.fnFact ?l ?c ?k; (case l => k_is); (case c => k_is); (case k => k_is)))
    (case a_f_Stand_put => k_is)
    (case i_f_Stand_put => k_is)
    (case l_f_Stand_put => (refine' Sh.fnFact ?l ?c ?k; (case l => k_is); (case c => k_is); (case k => k_is)))
    (case a_f__law_program_step => k_is)
    (case l_f__law_program_step => (refine' Sh.fnFact ?l ?c ?k; (case l => k_is); (case c => k_is); (case k => k_is)))
    (case a_f_law => k_is)
    (case l_f_law => (refine' Sh.fnFact ?l ?c ?k; (case l => k_is); (case c => k_is); (case k => k_is)))
