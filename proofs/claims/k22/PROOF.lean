import PyProof.Rows.All
import HandS.ForMost
import HandS.ForExc
import HandS.SetKeys
import HandS.TupAny
import HandS.StrMore
import HandS.RaiseMore
import HandS.IsInst
import HandS.Flow
import HandS.Deep
import HandS.Zip
import HandS.Comp
import HandS.Iter
import HandS.Text
import HandS.TryMany
import HandS.ExcInit
import HandS.ExcField
import HandS.SetBool
import HandS.Sort
import HandS.EndBits
import KE.GoesMore
import PyProof.Draws
import PyProof.EnumMake
import HandS.MakeKw
import KE.KExcIs
import Wide.All
import OpenK.AllK
import Wide.FinOn
import PySem.Challenge.RW_surestreams_k22_error_classes
set_option Elab.async false
set_option linter.all false
set_option maxRecDepth 100000
namespace Pz
open PySem L2

/-! ### values, objects -/
inductive SV where
  | non | bl (b : Bool) | int (i : Int) | str (x : Str)
  | tup (xs : List SV) | ref (i : Nat) | obj (c : Nat) | ty (n : String) | scr (ns : List Int) | xn (c j : Nat) | rng (lo hi : Int)
instance : Inhabited SV := ⟨.non⟩

mutual
def SV.beq : SV → SV → Bool
  | .non, .non => true
  | .bl a, .bl b => a == b
  | .int a, .int b => decide (a = b)
  | .str a, .str b => decide (a = b)
  | .tup a, .tup b => SV.beqs a b
  | .ref a, .ref b => decide (a = b)
  | .obj a, .obj b => decide (a = b)
  | .ty a, .ty b => decide (a = b)
  | .scr a, .scr b => decide (a = b)
  | .xn a i, .xn b j => decide (a = b ∧ i = j)
  | .rng a i, .rng b j => decide (a = b ∧ i = j)
  | _, _ => false
def SV.beqs : List SV → List SV → Bool
  | [], [] => true
  | a :: as, b :: bs => SV.beq a b && SV.beqs as bs
  | _, _ => false
end
mutual
theorem SV.beq_eq : ∀ a b : SV, SV.beq a b = true → a = b
  | .tup a, .tup b, h => by rw [SV.beqs_eq a b (by simpa [SV.beq] using h)]
  | .non, b, h => by cases b <;> simp_all [SV.beq]
  | .bl _, b, h => by cases b <;> simp_all [SV.beq]
  | .int _, b, h => by cases b <;> simp_all [SV.beq]
  | .str _, b, h => by cases b <;> simp_all [SV.beq]
  | .ref _, b, h => by cases b <;> simp_all [SV.beq]
  | .obj _, b, h => by cases b <;> simp_all [SV.beq]
  | .ty _, b, h => by cases b <;> simp_all [SV.beq]
  | .scr _, b, h => by cases b <;> simp_all [SV.beq]
  | .xn _ _, b, h => by cases b <;> simp_all [SV.beq]
  | .rng _ _, b, h => by cases b <;> simp_all [SV.beq]
  | .tup _, .non, h => by simp [SV.beq] at h
  | .tup _, .bl _, h => by simp [SV.beq] at h
  | .tup _, .int _, h => by simp [SV.beq] at h
  | .tup _, .str _, h => by simp [SV.beq] at h
  | .tup _, .ref _, h => by simp [SV.beq] at h
  | .tup _, .obj _, h => by simp [SV.beq] at h
  | .tup _, .ty _, h => by simp [SV.beq] at h
  | .tup _, .scr _, h => by simp [SV.beq] at h
  | .tup _, .xn _ _, h => by simp [SV.beq] at h
  | .tup _, .rng _ _, h => by simp [SV.beq] at h
theorem SV.beqs_eq : ∀ a b : List SV, SV.beqs a b = true → a = b
  | [], [], _ => rfl
  | [], _ :: _, h => by simp [SV.beqs] at h
  | _ :: _, [], h => by simp [SV.beqs] at h
  | a :: as, b :: bs, h => by
    simp only [SV.beqs, Bool.and_eq_true] at h
    rw [SV.beq_eq a b h.1, SV.beqs_eq as bs h.2]
end
mutual
theorem SV.beq_refl : ∀ a : SV, SV.beq a a = true
  | .tup a => by simpa [SV.beq] using SV.beqs_refl a
  | .non | .bl _ | .int _ | .str _ | .ref _ | .obj _ | .ty _ | .scr _ | .xn _ _ | .rng _ _ => by simp [SV.beq]
theorem SV.beqs_refl : ∀ a : List SV, SV.beqs a a = true
  | [] => rfl
  | a :: as => by simp [SV.beqs, SV.beq_refl a, SV.beqs_refl as]
end
instance : DecidableEq SV := fun a b => if h : SV.beq a b = true then isTrue (SV.beq_eq a b h) else isFalse fun e => h (e ▸ SV.beq_refl a)

inductive SO where
  | lst (xs : List SV) | dct (kvs : List (Key × SV)) | ins (c : Nat) (fs : List (Str × SV))
  | exc (c : Nat) (fs : List (Str × SV)) | set (ks : List Key)
  deriving DecidableEq
def hasK (ks : List Key) (k : Key) : Bool := ks.any fun j => decide (j = k)
instance : Inhabited SO := ⟨.lst []⟩

/-! refs lie below mx -/
mutual
def SV.mx : SV → Nat
  | .tup xs => SV.mxs xs
  | .ref i => i + 1
  | .xn _ j => j + 1
  | _ => 0
def SV.mxs : List SV → Nat
  | [] => 0
  | x :: xs => max (SV.mx x) (SV.mxs xs)
end
def fmx (fs : List (Str × SV)) : Nat := SV.mxs (fs.map (·.2))
def SO.mx : SO → Nat
  | .lst xs => SV.mxs xs
  | .dct kvs => SV.mxs (kvs.map (·.2))
  | .ins _ fs => fmx fs
  | .exc _ fs => fmx fs
  | .set _ => 0

abbrev Hs := List SO
abbrev SEnv := List (Option SV)
inductive Out (α : Type) where
  | ok (a : α) (h : Hs) | exc (c : Nat) (fs : List (Str × SV)) (h : Hs) | stuck
def Out.bnd {α β : Type} (r : Out α) (f : α → Hs → Out β) : Out β := match r with
  | .ok a h => f a h
  | .exc c fs h => .exc c fs h
  | .stuck => .stuck
@[simp] theorem Out.bnd_ok {α β : Type} (a : α) (h : Hs) (f : α → Hs → Out β) : (Out.ok a h).bnd f = f a h := rfl
@[simp] theorem Out.bnd_exc {α β : Type} (c : Nat) (fs : List (Str × SV)) (h : Hs) (f : α → Hs → Out β) : (Out.exc c fs h : Out α).bnd f = .exc c fs h := rfl
@[simp] theorem Out.bnd_stuck {α β : Type} (f : α → Hs → Out β) : (Out.stuck : Out α).bnd f = .stuck := rfl
abbrev EF := SEnv → Hs → Out SV
abbrev LF := SEnv → Hs → Out (List SV)

/-! ### how they stand in the abstract heap -/
structure Cz where
  P : Program
  w : World
  K : PySem.W.Frag
  G : Nat → Addr
section
variable (Z : Cz) (ρ : Nat → Addr) (n : Nat) (H : Hp)
mutual
inductive RV : SV → V → Prop
  | non : RV .non .non
  | bl (b : Bool) : RV (.bl b) (.bl b)
  | int (i : Int) : RV (.int i) (.int i)
  | str (x : Str) : RV (.str x) (.str x)
  | tup {a : Addr} {xs : List SV} {vs : List V} : SqT Z.K H a vs → RVs xs vs → RV (.tup xs) (.ref a)
  | ref {i : Nat} : i < n → RV (.ref i) (.ref (ρ i))
  | obj (c : Nat) : RV (.obj c) (.ref (Z.G c))
  | ty (t : String) : RV (.ty t) (.ty t)
  | scr {a : Addr} {ns : List Int} : ((∃ o, H a = some (.frz o (.lst (ns.map V.int)))) ∨ (∀ H', SqL Z.K H' a (ns.map V.int))) → RV (.scr ns) (.ref a)
  | xn {c j : Nat} {a : Addr} {oe : Obj} {u : HO} : j < n → H a = some (.frz oe u) → oe.cls = .ref (Z.G c) → oe.dict = some (ρ j) → (∃ vs, oe.data = .fields vs) → RV (.xn c j) (.ref a)
  | rng {lo hi : Int} {a : Addr} {o : Obj} : H a = some (.frz o (.rng lo hi)) → RV (.rng lo hi) (.ref a)
inductive RVs : List SV → List V → Prop
  | nil : RVs [] []
  | cons {x : SV} {v : V} {xs : List SV} {vs : List V} : RV x v → RVs xs vs → RVs (x :: xs) (v :: vs)
end
inductive RF : List (Str × SV) → List (Str × V) → Prop
  | nil : RF [] []
  | cons {f : Str} {x : SV} {v : V} {xs : List (Str × SV)} {vs : List (Str × V)} : RV Z ρ n H x v → RF xs vs → RF ((f, x) :: xs) ((f, v) :: vs)
inductive RK : List (Key × SV) → List (Key × V) → Prop
  | nil : RK [] []
  | cons {f : Key} {x : SV} {v : V} {xs : List (Key × SV)} {vs : List (Key × V)} : RV Z ρ n H x v → RK xs vs → RK ((f, x) :: xs) ((f, v) :: vs)
def RO (a : Addr) : SO → Prop
  | .lst xs => ∃ vs, H a = some (.lst vs) ∧ RVs Z ρ n H xs vs
  | .dct kvs => ∃ vs, H a = some (.dK vs) ∧ RK Z ρ n H kvs vs
  | .ins c fs => ∃ dx vs, H a = some (.ins (Z.G c) dx vs) ∧ RF Z ρ n H fs vs
  | .exc _ fs => ∃ vs, H a = some (.xd vs) ∧ RF Z ρ n H fs vs
  | .set ks => ks.Nodup ∧ H a = some (SetK Z.P Z.w a (hasK ks) ks.length)
end
structure RHp (Z : Cz) (ρ : Nat → Addr) (h : Hs) (H : Hp) : Prop where
  ob : ∀ i o, h[i]? = some o → RO Z ρ h.length H (ρ i) o
  inj : ∀ i j, i < h.length → j < h.length → ρ i = ρ j → i = j
structure Gro (ρ : Nat → Addr) (h : Hs) (H : Hp) (ρ' : Nat → Addr) (h' : Hs) (H' : Hp) : Prop where
  len : h.length ≤ h'.length
  agree : ∀ i, i < h.length → ρ' i = ρ i
  fr : ∀ a o, H a = some o → (∀ i, i < h.length → ρ i ≠ a) → H' a = some o
  fresh : ∀ j, h.length ≤ j → j < h'.length → H (ρ' j) = none
structure REnv (Z : Cz) (ρ : Nat → Addr) (n : Nat) (H : Hp) (σs : SEnv) (σ : St) : Prop where
  len : σs.length = σ.length
  val : ∀ (j : Nat) (x : SV), σs[j]? = some (some x) → ∃ v, σ[j]? = some (some v) ∧ RV Z ρ n H x v

/-! ### lemmas -/
section
variable {Z : Cz} {ρ ρ' ρ2 : Nat → Addr} {n m : Nat} {H H' H2 : Hp} {h h' h2 : Hs}
theorem RVs.length : ∀ {xs : List SV} {vs : List V}, RVs Z ρ n H xs vs → xs.length = vs.length
  | _, _, .nil => rfl
  | _, _, .cons _ t => by simp [RVs.length t]
theorem RVs.get : ∀ {xs : List SV} {vs : List V} {i : Nat} {x : SV}, RVs Z ρ n H xs vs → xs[i]? = some x → ∃ v, vs[i]? = some v ∧ RV Z ρ n H x v
  | _, _, _, _, .nil, e => by simp at e
  | _, _, 0, _, .cons r _, e => by simp at e; subst e; exact ⟨_, rfl, r⟩
  | _, _, i + 1, x, .cons _ t, e => by
    obtain ⟨u, h1, h2⟩ := RVs.get (i := i) (x := x) t (by simpa using e)
    exact ⟨u, by simpa using h1, h2⟩
theorem RVs.app : ∀ {xs ys : List SV} {us ws : List V}, RVs Z ρ n H xs us → RVs Z ρ n H ys ws → RVs Z ρ n H (xs ++ ys) (us ++ ws)
  | _, _, _, _, .nil, s => s
  | _, _, _, _, .cons r t, s => .cons r (RVs.app t s)
theorem RVs.set {x : SV} {v : V} (r : RV Z ρ n H x v) : ∀ {xs : List SV} {vs : List V} (i : Nat), RVs Z ρ n H xs vs → RVs Z ρ n H (xs.set i x) (vs.set i v)
  | _, _, _, .nil => .nil
  | _, _, 0, .cons _ t => .cons r t
  | _, _, i + 1, .cons q t => .cons q (RVs.set r i t)
theorem RVs.take : ∀ {xs : List SV} {vs : List V} (k : Nat), RVs Z ρ n H xs vs → RVs Z ρ n H (xs.take k) (vs.take k)
  | _, _, 0, _ => .nil
  | _, _, _ + 1, .nil => .nil
  | _, _, k + 1, .cons r t => .cons r (RVs.take k t)
theorem RVs.drop : ∀ {xs : List SV} {vs : List V} (k : Nat), RVs Z ρ n H xs vs → RVs Z ρ n H (xs.drop k) (vs.drop k)
  | _, _, 0, r => r
  | _, _, _ + 1, .nil => .nil
  | _, _, k + 1, .cons _ t => RVs.drop k t

/-- the tracked objects stand apart from tuples and the script -/
theorem RHp.apart (R : RHp Z ρ h H) {i : Nat} (hi : i < h.length) : (∀ xs, H (ρ i) ≠ some (.tup xs)) ∧ (∀ o u, H (ρ i) ≠ some (.frz o u)) ∧ H (ρ i) ≠ none ∧ (∀ y, H (ρ i) ≠ some (.own y)) := by
  have q := R.ob i h[i] (by simp [hi])
  generalize h[i] = o at q
  cases o with
  | lst xs => obtain ⟨vs, e, _⟩ := q; simp [e]
  | dct xs => obtain ⟨vs, e, _⟩ := q; simp [e]
  | ins c fs => obtain ⟨dx, vs, e, _⟩ := q; simp [e]
  | exc c fs => obtain ⟨vs, e, _⟩ := q; simp [e]
  | set ks => obtain ⟨_, e⟩ := q; simp [e, SetK]
theorem Gro.refl : Gro ρ h H ρ h H := ⟨Nat.le_refl _, fun _ _ => rfl, fun _ _ e _ => e, fun j h1 h2 => absurd h2 (Nat.not_lt.mpr h1)⟩
theorem Gro.kept (E : Gro ρ h H ρ' h' H') (R : RHp Z ρ h H) {a : Addr} {o : HO} (e : H a = some o) (ho : (∃ xs, o = .tup xs) ∨ (∃ b u, o = .frz b u) ∨ (∃ y, o = .own y)) : H' a = some o :=
  E.fr a o e fun i hi z => by
    have q := R.apart hi
    subst z
    rcases ho with ⟨xs, rfl⟩ | ⟨b, u, rfl⟩ | ⟨y, rfl⟩
    · exact q.1 _ e
    · exact q.2.1 _ _ e
    · exact q.2.2.2 _ e
theorem Gro.trans (R : RHp Z ρ2 h2 H2) (a : Gro ρ h H ρ2 h2 H2) (b : Gro ρ2 h2 H2 ρ' h' H') : Gro ρ h H ρ' h' H' where
  len := Nat.le_trans a.len b.len
  agree := fun i hi => (b.agree i (Nat.lt_of_lt_of_le hi a.len)).trans (a.agree i hi)
  fr := fun c o e hc => b.fr c o (a.fr c o e hc) fun i hi z => by
    by_cases hl : i < h.length
    · exact hc i hl ((a.agree i hl).symm.trans z)
    · have q := a.fresh i (Nat.not_lt.mp hl) hi
      rw [z, e] at q; cases q
  fresh := fun j h1 hj => by
    by_cases hl : j < h2.length
    · rw [b.agree j hl]; exact a.fresh j h1 hl
    · cases e : H (ρ' j) with
      | none => rfl
      | some o =>
        exfalso
        have q := b.fresh j (Nat.not_lt.mp hl) hj
        by_cases hx : ∃ i, i < h.length ∧ ρ i = ρ' j
        · obtain ⟨i, hi, z⟩ := hx
          have w := (R.apart (Nat.lt_of_lt_of_le hi a.len)).2.2.1
          rw [a.agree i hi, z] at w
          exact w q
        · have w := a.fr _ _ e fun i hi z => hx ⟨i, hi, z⟩
          rw [q] at w; cases w

theorem SqT.ext {K : PySem.W.Frag} (k : ∀ a o, H a = some o → ((∃ xs, o = .tup xs) ∨ (∃ b u, o = .frz b u) ∨ (∃ y, o = .own y)) → H' a = some o) {a : Addr} {xs : List V} (q : SqT K H a xs) : SqT K H' a xs := by
  rcases q with (q | ⟨o, q⟩) | q
  · exact .inl (.inl (k _ _ q (.inl ⟨_, rfl⟩)))
  · exact .inl (.inr ⟨o, k _ _ q (.inr (.inl ⟨_, _, rfl⟩))⟩)
  · exact .inr q
section
variable (k : ∀ a o, H a = some o → ((∃ xs, o = .tup xs) ∨ (∃ b u, o = .frz b u) ∨ (∃ y, o = .own y)) → H' a = some o) (hl : n ≤ m) (ha : ∀ i, i < n → ρ' i = ρ i)
include k hl ha
mutual
theorem RV.ext' : ∀ {x : SV} {v : V}, RV Z ρ n H x v → RV Z ρ' m H' x v
  | _, _, .non => .non
  | _, _, .bl b => .bl b
  | _, _, .int i => .int i
  | _, _, .str x => .str x
  | _, _, .tup q r => .tup (SqT.ext k q) (RVs.ext' r)
  | _, _, .ref (i := i) hi => by rw [← ha i hi]; exact .ref (Nat.lt_of_lt_of_le hi hl)
  | _, _, .obj c => .obj c
  | _, _, .ty t => .ty t
  | _, _, .xn hi e c d v => .xn (Nat.lt_of_lt_of_le hi hl) (k _ _ e (.inr (.inl ⟨_, _, rfl⟩))) c (by rw [ha _ hi]; exact d) v
  | _, _, .rng q => .rng (k _ _ q (.inr (.inl ⟨_, _, rfl⟩)))
  | _, _, .scr q => .scr (q.elim (fun ⟨o, e⟩ => .inl ⟨o, k _ _ e (.inr (.inl ⟨_, _, rfl⟩))⟩) .inr)
theorem RVs.ext' : ∀ {xs : List SV} {vs : List V}, RVs Z ρ n H xs vs → RVs Z ρ' m H' xs vs
  | _, _, .nil => .nil
  | _, _, .cons r t => .cons (RV.ext' r) (RVs.ext' t)
end
theorem RF.ext' : ∀ {xs : List (Str × SV)} {vs : List (Str × V)}, RF Z ρ n H xs vs → RF Z ρ' m H' xs vs
  | _, _, .nil => .nil
  | _, _, .cons r t => .cons (RV.ext' k hl ha r) (RF.ext' t)
theorem RK.ext' : ∀ {xs : List (Key × SV)} {vs : List (Key × V)}, RK Z ρ n H xs vs → RK Z ρ' m H' xs vs
  | _, _, .nil => .nil
  | _, _, .cons r t => .cons (RV.ext' k hl ha r) (RK.ext' t)
end
theorem RV.ext (R : RHp Z ρ h H) (E : Gro ρ h H ρ' h' H') {x : SV} {v : V} (r : RV Z ρ h.length H x v) : RV Z ρ' h'.length H' x v :=
  RV.ext' (fun a o e q => E.kept R e q) E.len E.agree r
theorem RVs.ext (R : RHp Z ρ h H) (E : Gro ρ h H ρ' h' H') {x : List SV} {v : List V} (r : RVs Z ρ h.length H x v) : RVs Z ρ' h'.length H' x v :=
  RVs.ext' (fun a o e q => E.kept R e q) E.len E.agree r
theorem REnv.ext (R : RHp Z ρ h H) (E : Gro ρ h H ρ' h' H') {σs : SEnv} {σ : St} (r : REnv Z ρ h.length H σs σ) : REnv Z ρ' h'.length H' σs σ :=
  ⟨r.len, fun j x e => let ⟨v, e1, r1⟩ := r.val j x e; ⟨v, e1, r1.ext R E⟩⟩

/-! refs below a bound -/
mutual
theorem RV.mx_le : ∀ {x : SV} {v : V}, RV Z ρ n H x v → x.mx ≤ n
  | _, _, .non => Nat.zero_le _
  | _, _, .bl b => Nat.zero_le _
  | _, _, .int i => Nat.zero_le _
  | _, _, .str x => Nat.zero_le _
  | _, _, .tup q r => by simpa [SV.mx] using RVs.mx_le r
  | _, _, .ref hi => hi
  | _, _, .obj c => Nat.zero_le _
  | _, _, .ty t => Nat.zero_le _
  | _, _, .scr q => Nat.zero_le _
  | _, _, .xn hi _ _ _ _ => hi
  | _, _, .rng _ => Nat.zero_le _
theorem RVs.mx_le : ∀ {xs : List SV} {vs : List V}, RVs Z ρ n H xs vs → SV.mxs xs ≤ n
  | _, _, .nil => Nat.zero_le _
  | _, _, .cons r t => by
    have a := RV.mx_le r
    have b := RVs.mx_le t
    simp only [SV.mxs]; omega
end
mutual
theorem RV.cut : ∀ {x : SV} {v : V}, RV Z ρ n H x v → x.mx ≤ m → RV Z ρ m H x v
  | _, _, .non, _ => .non
  | _, _, .bl b, _ => .bl b
  | _, _, .int i, _ => .int i
  | _, _, .str x, _ => .str x
  | _, _, .tup q r, e => .tup q (RVs.cut r (by simpa [SV.mx] using e))
  | _, _, .ref hi, e => .ref e
  | _, _, .obj c, _ => .obj c
  | _, _, .ty t, _ => .ty t
  | _, _, .scr q, _ => .scr q
  | _, _, .xn hi e c d v, q => .xn q e c d v
  | _, _, .rng e, _ => .rng e
theorem RVs.cut : ∀ {xs : List SV} {vs : List V}, RVs Z ρ n H xs vs → SV.mxs xs ≤ m → RVs Z ρ m H xs vs
  | _, _, .nil, _ => .nil
  | _, _, .cons r t, e => .cons (RV.cut r (by simp only [SV.mxs] at e; omega)) (RVs.cut t (by simp only [SV.mxs] at e; omega))
end
theorem RF.mx_le : ∀ {xs : List (Str × SV)} {vs : List (Str × V)}, RF Z ρ n H xs vs → fmx xs ≤ n
  | _, _, .nil => Nat.zero_le _
  | _, _, .cons r t => by
    have a := RV.mx_le r
    have b := RF.mx_le t
    simp only [fmx, List.map_cons, SV.mxs] at *; omega
theorem RF.cut : ∀ {xs : List (Str × SV)} {vs : List (Str × V)}, RF Z ρ n H xs vs → fmx xs ≤ m → RF Z ρ m H xs vs
  | _, _, .nil, _ => .nil
  | _, _, .cons r t, e => .cons (RV.cut r (by simp only [fmx, List.map_cons, SV.mxs] at e; omega)) (RF.cut t (by simp only [fmx, List.map_cons, SV.mxs] at e ⊢; omega))
theorem RK.mx_le : ∀ {xs : List (Key × SV)} {vs : List (Key × V)}, RK Z ρ n H xs vs → SV.mxs (xs.map (·.2)) ≤ n
  | _, _, .nil => Nat.zero_le _
  | _, _, .cons r t => by
    have a := RV.mx_le r
    have b := RK.mx_le t
    simp only [List.map_cons, SV.mxs] at *; omega
theorem RK.cut : ∀ {xs : List (Key × SV)} {vs : List (Key × V)}, RK Z ρ n H xs vs → SV.mxs (xs.map (·.2)) ≤ m → RK Z ρ m H xs vs
  | _, _, .nil, _ => .nil
  | _, _, .cons r t, e => .cons (RV.cut r (by simp only [List.map_cons, SV.mxs] at e; omega)) (RK.cut t (by simp only [List.map_cons, SV.mxs] at e ⊢; omega))
theorem RO.mx_le {a : Addr} : ∀ {o : SO}, RO Z ρ n H a o → o.mx ≤ n
  | .lst _, ⟨_, _, r⟩ => r.mx_le
  | .dct _, ⟨_, _, r⟩ => r.mx_le
  | .ins _ _, ⟨_, _, _, r⟩ => r.mx_le
  | .exc _ _, ⟨_, _, r⟩ => r.mx_le
  | .set _, _ => Nat.zero_le _
theorem RO.cut {a : Addr} : ∀ {o : SO}, RO Z ρ n H a o → o.mx ≤ m → RO Z ρ m H a o
  | .lst _, ⟨vs, e, r⟩, q => ⟨vs, e, r.cut q⟩
  | .dct _, ⟨vs, e, r⟩, q => ⟨vs, e, r.cut q⟩
  | .ins _ _, ⟨dx, vs, e, r⟩, q => ⟨dx, vs, e, r.cut q⟩
  | .exc _ _, ⟨vs, e, r⟩, q => ⟨vs, e, r.cut q⟩
  | .set _, q, _ => q
theorem RO.ext' (k : ∀ a o, H a = some o → ((∃ xs, o = .tup xs) ∨ (∃ b u, o = .frz b u) ∨ (∃ y, o = .own y)) → H' a = some o) (hl : n ≤ m) (ha : ∀ i, i < n → ρ' i = ρ i) {a : Addr} (hk : H' a = H a) : ∀ {o : SO}, RO Z ρ n H a o → RO Z ρ' m H' a o
  | .lst _, ⟨vs, e, r⟩ => ⟨vs, hk.trans e, r.ext' k hl ha⟩
  | .dct _, ⟨vs, e, r⟩ => ⟨vs, hk.trans e, r.ext' k hl ha⟩
  | .ins _ _, ⟨dx, vs, e, r⟩ => ⟨dx, vs, hk.trans e, r.ext' k hl ha⟩
  | .exc _ _, ⟨vs, e, r⟩ => ⟨vs, hk.trans e, r.ext' k hl ha⟩
  | .set _, ⟨d, e⟩ => ⟨d, hk.trans e⟩
end
end Pz

set_option Elab.async false
set_option linter.all false
set_option maxRecDepth 100000
namespace Pz
open PySem PySem.Spec L2

/-! ### changes of the heap -/
def putA (ρ : Nat → Addr) (n : Nat) (p : Addr) : Nat → Addr := fun i => if i = n then p else ρ i
theorem putA_same {ρ : Nat → Addr} {n : Nat} {p : Addr} : putA ρ n p n = p := if_pos rfl
theorem putA_lt {ρ : Nat → Addr} {n i : Nat} {p : Addr} (h : i < n) : putA ρ n p i = ρ i := if_neg (Nat.ne_of_lt h)
section
variable {Z : Cz} {ρ ρ' : Nat → Addr} {h h' : Hs} {H H' : Hp} {p : Addr} {u : HO} {o : SO}
theorem RHp.ne (R : RHp Z ρ h H) (hp : H p = none) {i : Nat} (hi : i < h.length) : ρ i ≠ p := fun z => (R.apart hi).2.2.1 (z ▸ hp)
theorem keep_lay (hp : H p = none) : ∀ a o, H a = some o → ((∃ xs, o = .tup xs) ∨ (∃ b u, o = .frz b u) ∨ (∃ y, o = .own y)) → upd H p u a = some o := fun a o e _ => by
  rw [upd_ne (ne_of_none e hp)]; exact e
theorem Gro.lay (hp : H p = none) : Gro ρ h H ρ h (upd H p u) :=
  ⟨Nat.le_refl _, fun _ _ => rfl, fun a o e _ => by rw [upd_ne (ne_of_none e hp)]; exact e, fun j h1 h2 => absurd h2 (Nat.not_lt.mpr h1)⟩
theorem RHp.lay (R : RHp Z ρ h H) (hp : H p = none) : RHp Z ρ h (upd H p u) :=
  ⟨fun i o e => (R.ob i o e).ext' (keep_lay hp) (Nat.le_refl _) (fun _ _ => rfl) (upd_ne (R.ne hp (List.getElem?_eq_some_iff.mp e).1)), R.inj⟩
theorem Gro.push (hp : H p = none) : Gro ρ h H (putA ρ h.length p) (h ++ [o]) (upd H p u) where
  len := by simp
  agree := fun i hi => putA_lt hi
  fr := fun a x e _ => by rw [upd_ne (ne_of_none e hp)]; exact e
  fresh := fun j h1 h2 => by
    have : j = h.length := by simp at h2; omega
    subst this; rw [putA_same]; exact hp
theorem RHp.push (R : RHp Z ρ h H) (hp : H p = none) (ro : RO Z (putA ρ h.length p) (h.length + 1) (upd H p u) p o) : RHp Z (putA ρ h.length p) (h ++ [o]) (upd H p u) where
  ob := fun i x e => by
    rw [List.length_append]
    by_cases hi : i < h.length
    · rw [List.getElem?_append_left hi] at e
      rw [putA_lt hi]
      exact (R.ob i x e).ext' (keep_lay hp) (by simp) (fun j hj => putA_lt hj) (upd_ne (R.ne hp hi))
    · have e2 : i = h.length := by
        have := (List.getElem?_eq_some_iff.mp e).1
        simp at this; omega
      subst e2
      simp at e; subst e
      rw [putA_same]; exact ro
  inj := fun i j hi hj e => by
    simp at hi hj
    by_cases h1 : i < h.length
    · by_cases h2 : j < h.length
      · rw [putA_lt h1, putA_lt h2] at e; exact R.inj i j h1 h2 e
      · have : j = h.length := by omega
        subst this
        rw [putA_lt h1, putA_same] at e
        exact absurd e (R.ne hp h1)
    · have : i = h.length := by omega
      subst this
      by_cases h2 : j < h.length
      · rw [putA_lt h2, putA_same] at e
        exact absurd e.symm (R.ne hp h2)
      · omega
theorem keep_wr (R : RHp Z ρ h H) {i : Nat} (hi : i < h.length) : ∀ a o, H a = some o → ((∃ xs, o = .tup xs) ∨ (∃ b u, o = .frz b u) ∨ (∃ y, o = .own y)) → upd H (ρ i) u a = some o := fun a o e k => by
  have q := R.apart hi
  have ne : a ≠ ρ i := fun z => by
    subst z
    rcases k with ⟨xs, rfl⟩ | ⟨b, u, rfl⟩ | ⟨y, rfl⟩
    · exact q.1 _ e
    · exact q.2.1 _ _ e
    · exact q.2.2.2 _ e
  rw [upd_ne ne]; exact e
theorem Gro.wr {i : Nat} (hi : i < h.length) : Gro ρ h H ρ (h.set i o) (upd H (ρ i) u) where
  len := by simp
  agree := fun _ _ => rfl
  fr := fun a x e hx => by rw [upd_ne fun z => hx i hi z.symm]; exact e
  fresh := fun j h1 h2 => by simp at h2; omega
theorem RHp.wr (R : RHp Z ρ h H) {i : Nat} (hi : i < h.length) (ro : RO Z ρ h.length (upd H (ρ i) u) (ρ i) o) : RHp Z ρ (h.set i o) (upd H (ρ i) u) where
  ob := fun j x e => by
    rw [List.length_set]
    by_cases hj : i = j
    · subst hj
      rw [List.getElem?_set_self hi] at e
      cases e; exact ro
    · rw [List.getElem?_set_ne hj] at e
      have hl := (List.getElem?_eq_some_iff.mp e).1
      exact (R.ob j x e).ext' (keep_wr R hi) (Nat.le_refl _) (fun _ _ => rfl) (upd_ne fun z => hj (R.inj j i hl hi z).symm)
  inj := fun a b ha hb => by rw [List.length_set] at ha hb; exact R.inj a b ha hb
theorem RHp.lst (R : RHp Z ρ h H) {i : Nat} {xs : List SV} (e : h[i]? = some (.lst xs)) : i < h.length ∧ ∃ vs, H (ρ i) = some (.lst vs) ∧ RVs Z ρ h.length H xs vs :=
  ⟨(List.getElem?_eq_some_iff.mp e).1, R.ob i _ e⟩
theorem RHp.ins (R : RHp Z ρ h H) {i c : Nat} {fs : List (Str × SV)} (e : h[i]? = some (.ins c fs)) : i < h.length ∧ ∃ dx vs, H (ρ i) = some (.ins (Z.G c) dx vs) ∧ RF Z ρ h.length H fs vs :=
  ⟨(List.getElem?_eq_some_iff.mp e).1, R.ob i _ e⟩
theorem RHp.dct (R : RHp Z ρ h H) {i : Nat} {kvs : List (Key × SV)} (e : h[i]? = some (.dct kvs)) : i < h.length ∧ ∃ vs, H (ρ i) = some (.dK vs) ∧ RK Z ρ h.length H kvs vs :=
  ⟨(List.getElem?_eq_some_iff.mp e).1, R.ob i _ e⟩
/-- the heap cut behind its first n objects -/
theorem RHp.cut (R : RHp Z ρ h H) {n : Nat} (hn : n ≤ h.length) (k : ∀ o ∈ h.take n, o.mx ≤ n) : RHp Z ρ (h.take n) H where
  ob := fun i o e => by
    have hi := (List.getElem?_eq_some_iff.mp e).1
    rw [List.length_take, Nat.min_eq_left hn] at hi ⊢
    have e' : h[i]? = some o := by rw [List.getElem?_take_of_lt hi] at e; exact e
    exact (R.ob i o e').cut (k o (List.mem_of_getElem? e))
  inj := fun a b ha hb => by
    rw [List.length_take, Nat.min_eq_left hn] at ha hb
    exact R.inj a b (Nat.lt_of_lt_of_le ha hn) (Nat.lt_of_lt_of_le hb hn)
theorem Gro.cut {ρ0 : Nat → Addr} {h0 : Hs} {H0 : Hp} (E : Gro ρ0 h0 H0 ρ h H) : Gro ρ0 h0 H0 ρ (h.take h0.length) H where
  len := by rw [List.length_take]; have := E.len; omega
  agree := E.agree
  fr := E.fr
  fresh := fun j h1 h2 => by rw [List.length_take] at h2; omega
end

/-! ### the context, what is wanted -/
structure XOs (X : Cx) (W : WX) : Prop where
  nd : X.N.Nodup
  tk : Takes X W
  po : PassesOwn (model X.prog X.w) X.A X.env X.xe
  gd : X.A.guards = some []
  hu : X.A.units + 200 < cLine
/-- .. where no exception is handled -/
structure XOk (X : Cx) (W : WX) : Prop extends XOs X W where
  calm : X.calm = true
/-- the dict of an exception that is new -/
structure XdA (H : Hp) (ρ' : Nat → Addr) (h' : Hs) (H' : Hp) (d : Addr) (xs : List (Str × V)) : Prop where
  at' : H' d = some (.xd xs)
  new : H d = none
  off : ∀ i, i < h'.length → ρ' i ≠ d
abbrev zOf (X : Cx) (G : Nat → Addr) : Cz := ⟨X.prog, X.w, X.K, G⟩
section
variable (Z : Cz) (W : WX) (ρ : Nat → Addr) (h : Hs) (H : Hp) (σ : St)
def PExc (c : Nat) (fs : List (Str × SV)) (h' : Hs) (σ' : St) : Prop :=
  ∀ ρ' H' d xs, Gro ρ h H ρ' h' H' → RHp Z ρ' h' H' → XdA H ρ' h' H' d xs → RF Z ρ' h'.length H' fs xs → W (.ref (Z.G c)) (some d) σ' H'
def PostG {α β : Type} (rel : (Nat → Addr) → Nat → Hp → α → β → Prop) (r : Out α) (Q : β → Hp → Prop) : Prop := match r with
  | .ok v h' => ∀ ρ' H' x, Gro ρ h H ρ' h' H' → RHp Z ρ' h' H' → rel ρ' h'.length H' v x → Q x H'
  | .exc c fs h' => PExc Z W ρ h H c fs h' σ
  | .stuck => False
abbrev PostE (r : Out SV) (Q : VK) : Prop := PostG Z W ρ h H σ (fun ρ n H => RV Z ρ n H) r Q
abbrev PostL (r : Out (List SV)) (Q : List V → Hp → Prop) : Prop := PostG Z W ρ h H σ (fun ρ n H => RVs Z ρ n H) r Q
abbrev PostB (r : Out Bool) (Q : Bool → Hp → Prop) : Prop := PostG Z W ρ h H σ (fun _ _ _ (a b : Bool) => a = b) r Q
end
section
variable {Z : Cz} {W : WX} {ρ ρ' : Nat → Addr} {h h' : Hs} {H H' : Hp} {σ : St}
theorem Gro.none (R : RHp Z ρ' h' H') (E : Gro ρ h H ρ' h' H') {d : Addr} (e : H' d = none) : H d = none := by
  cases eo : H d with
  | none => rfl
  | some o =>
    exfalso
    by_cases hx : ∃ i, i < h.length ∧ ρ i = d
    · obtain ⟨i, hi, z⟩ := hx
      have w := (R.apart (Nat.lt_of_lt_of_le hi E.len)).2.2.1
      rw [E.agree i hi, z] at w
      exact w e
    · have w := E.fr _ _ eo fun i hi z => hx ⟨i, hi, z⟩
      rw [e] at w; cases w
theorem PExc.step {c : Nat} {fs : List (Str × SV)} {h2 : Hs} {σ' : St} (R : RHp Z ρ' h' H') (E : Gro ρ h H ρ' h' H') (p : PExc Z W ρ h H c fs h2 σ') : PExc Z W ρ' h' H' c fs h2 σ' :=
  fun ρ2 H2 d xs E2 R2 e r => p ρ2 H2 d xs (E.trans R E2) R2 ⟨e.at', E.none R e.new, e.off⟩ r
/-- from a later state -/
theorem PostG.step {α β : Type} {rel : (Nat → Addr) → Nat → Hp → α → β → Prop} {r : Out α} {Q : β → Hp → Prop} (R : RHp Z ρ' h' H') (E : Gro ρ h H ρ' h' H') (p : PostG Z W ρ h H σ rel r Q) : PostG Z W ρ' h' H' σ rel r Q := by
  cases r with
  | ok v h2 => exact fun ρ2 H2 x E2 R2 r2 => p ρ2 H2 x (E.trans R E2) R2 r2
  | exc c fs h2 => exact PExc.step R E p
  | stuck => exact p
/-- the first of two -/
theorem PostG.fst {α β γ δ : Type} {rel : (Nat → Addr) → Nat → Hp → α → β → Prop} {rel2 : (Nat → Addr) → Nat → Hp → γ → δ → Prop} {r : Out α} {f : α → Hs → Out γ} {Q : δ → Hp → Prop} {Q1 : β → Hp → Prop} (p : PostG Z W ρ h H σ rel2 (r.bnd f) Q)
    (k : ∀ v h1 ρ1 H1 x, r = .ok v h1 → Gro ρ h H ρ1 h1 H1 → RHp Z ρ1 h1 H1 → rel ρ1 h1.length H1 v x → PostG Z W ρ1 h1 H1 σ rel2 (f v h1) Q → Q1 x H1) : PostG Z W ρ h H σ rel r Q1 := by
  cases r with
  | ok v h1 => exact fun ρ1 H1 x E R q => k v h1 ρ1 H1 x rfl E R q (PostG.step R E p)
  | exc c fs h1 => exact p
  | stuck => exact p
/-- done -/
theorem PostG.ret {α β : Type} {rel : (Nat → Addr) → Nat → Hp → α → β → Prop} {v : α} {x : β} {Q : β → Hp → Prop} (R : RHp Z ρ h H) (q : rel ρ h.length H v x) (p : PostG Z W ρ h H σ rel (.ok v h) Q) : Q x H := p ρ H x Gro.refl R q
theorem PostG.at {α β : Type} {rel : (Nat → Addr) → Nat → Hp → α → β → Prop} {v : α} {x : β} {Q : β → Hp → Prop} (E : Gro ρ h H ρ' h' H') (R : RHp Z ρ' h' H') (q : rel ρ' h'.length H' v x) (p : PostG Z W ρ h H σ rel (.ok v h') Q) : Q x H' := p ρ' H' x E R q
end

section
variable (X : Cx)
def tAny (e : Expr) : TE := fun σ H Q => ∀ (pins : List (Addr × Obj)) (s : Shared), Inv X pins σ H s → wpAny (model X.prog X.w) X.A (eval e X.env) (EP X pins σ Q) X.xe s
def tAnyT (e : Expr) : TT := fun σ H Q => ∀ (pins : List (Addr × Obj)) (s : Shared), Inv X pins σ H s → wpAny (model X.prog X.w) X.A (isTrue e X.env (eval e X.env)) (TP X pins σ Q) X.xe s
def tAnyW (e : Expr) : TT := fun σ H Q => ∀ (whole : Sem Value) (pins : List (Addr × Obj)) (s : Shared), Inv X pins σ H s → wpAny (model X.prog X.w) X.A (isTrue e X.env whole) (TP X pins σ Q) X.xe s
def tAnyA (es : List Expr) : TA := fun σ H Q => ∀ (pos : Pos) (pins : List (Addr × Obj)) (s : Shared), Inv X pins σ H s → wpAny (model X.prog X.w) X.A (spliced (backTo pos (starEach es X.env))) (AP X pins σ Q) X.xe s
def tAnyS (st : Stmt) : TS := fun D σ H => ∀ (pins : List (Addr × Obj)) (s : Shared), Inv X pins σ H s → wpAny (model X.prog X.w) X.A (exec st X.env) (SP X pins D) X.xe s
def tAnySs (st : List Stmt) : TS := fun D σ H => ∀ (pins : List (Addr × Obj)) (s : Shared), Inv X pins σ H s → wpAny (model X.prog X.w) X.A (execs st X.env) (SP X pins D) X.xe s
variable {X}
theorem pe_any {e : Expr} : PE X e (tAny X e) := ⟨fun pins s σ H Q I h => h pins s I⟩
theorem pt_any {e : Expr} : PT X e (tAnyT X e) := ⟨fun pins s σ H Q I h => h pins s I⟩
theorem pw_any {e : Expr} : PW X e (tAnyW X e) := ⟨fun wh pins s σ H Q I h => h wh pins s I⟩
theorem pa_any {es : List Expr} : PA X es (tAnyA X es) := ⟨fun pos pins s σ H Q I h => h pos pins s I⟩
theorem ps_any {st : Stmt} : PS X st (tAnyS X st) := ⟨fun pins s σ H D I h => h pins s I⟩
theorem pss_any {st : List Stmt} : PSs X st (tAnySs X st) := ⟨fun pins s σ H D I h => h pins s I⟩
theorem any_pe {e : Expr} {t : TE} (h : PE X e t) {σ : St} {H : Hp} {Q : VK} (q : t σ H Q) : tAny X e σ H Q := fun pins s I => h.run pins s σ H Q I q
theorem any_pt {e : Expr} {t : TT} (h : PT X e t) {σ : St} {H : Hp} {Q : Bool → Hp → Prop} (q : t σ H Q) : tAnyT X e σ H Q := fun pins s I => h.run pins s σ H Q I q
theorem any_pw {e : Expr} {t : TT} (h : PW X e t) {σ : St} {H : Hp} {Q : Bool → Hp → Prop} (q : t σ H Q) : tAnyW X e σ H Q := fun wh pins s I => h.run wh pins s σ H Q I q
theorem any_pa {es : List Expr} {t : TA} (h : PA X es t) {σ : St} {H : Hp} {Q : List V → Hp → Prop} (q : t σ H Q) : tAnyA X es σ H Q := fun pos pins s I => h.run pos pins s σ H Q I q
theorem any_ps {st : Stmt} {t : TS} (h : PS X st t) {D : Ends} {σ : St} {H : Hp} (q : t D σ H) : tAnyS X st D σ H := fun pins s I => h.run pins s σ H D I q
theorem any_pss {st : List Stmt} {t : TS} (h : PSs X st t) {D : Ends} {σ : St} {H : Hp} (q : t D σ H) : tAnySs X st D σ H := fun pins s I => h.run pins s σ H D I q
end

section
variable (X : Cx) (G : Nat → Addr) (W : WX)
/-- e computes r -/
structure SE (e : Expr) (r : EF) : Prop where of ::
  run : ∀ ρ σs h σ H Q, REnv (zOf X G) ρ h.length H σs σ → RHp (zOf X G) ρ h H → PostE (zOf X G) W ρ h H σ (r σs h) Q → tAny X e σ H Q
instance (e : Expr) (r : EF) : CoeFun (SE X G W e r) fun _ => ∀ ρ σs h σ H Q, REnv (zOf X G) ρ h.length H σs σ → RHp (zOf X G) ρ h H → PostE (zOf X G) W ρ h H σ (r σs h) Q → tAny X e σ H Q := ⟨SE.run⟩
structure ST (e : Expr) (r : SEnv → Hs → Out Bool) : Prop where of ::
  run : ∀ ρ σs h σ H Q, REnv (zOf X G) ρ h.length H σs σ → RHp (zOf X G) ρ h H → PostB (zOf X G) W ρ h H σ (r σs h) Q → tAnyT X e σ H Q
instance (e : Expr) (r : SEnv → Hs → Out Bool) : CoeFun (ST X G W e r) fun _ => ∀ ρ σs h σ H Q, REnv (zOf X G) ρ h.length H σs σ → RHp (zOf X G) ρ h H → PostB (zOf X G) W ρ h H σ (r σs h) Q → tAnyT X e σ H Q := ⟨ST.run⟩
structure SW (e : Expr) (r : SEnv → Hs → Out Bool) : Prop where of ::
  run : ∀ ρ σs h σ H Q, REnv (zOf X G) ρ h.length H σs σ → RHp (zOf X G) ρ h H → PostB (zOf X G) W ρ h H σ (r σs h) Q → tAnyW X e σ H Q
instance (e : Expr) (r : SEnv → Hs → Out Bool) : CoeFun (SW X G W e r) fun _ => ∀ ρ σs h σ H Q, REnv (zOf X G) ρ h.length H σs σ → RHp (zOf X G) ρ h H → PostB (zOf X G) W ρ h H σ (r σs h) Q → tAnyW X e σ H Q := ⟨SW.run⟩
structure SA (es : List Expr) (r : LF) : Prop where of ::
  run : ∀ ρ σs h σ H Q, REnv (zOf X G) ρ h.length H σs σ → RHp (zOf X G) ρ h H → PostL (zOf X G) W ρ h H σ (r σs h) Q → tAnyA X es σ H Q
instance (es : List Expr) (r : LF) : CoeFun (SA X G W es r) fun _ => ∀ ρ σs h σ H Q, REnv (zOf X G) ρ h.length H σs σ → RHp (zOf X G) ρ h H → PostL (zOf X G) W ρ h H σ (r σs h) Q → tAnyA X es σ H Q := ⟨SA.run⟩
end

/-! ### names, constants -/
def rVar (i : Nat) : EF := fun σ h => match σ[i]? with
  | some (some v) => .ok v h
  | _ => .stuck
def rC (v : SV) : EF := fun _ h => .ok v h
section
variable {X : Cx} {G : Nat → Addr} {W : WX} {pos : Pos}
theorem se_pe {e : Expr} {t : TE} {r : EF} (p : PE X e t) (k : ∀ ρ σs h σ H Q, REnv (zOf X G) ρ h.length H σs σ → RHp (zOf X G) ρ h H → PostE (zOf X G) W ρ h H σ (r σs h) Q → t σ H Q) : SE X G W e r :=
  .of fun ρ σs h σ H Q hE hR hP => any_pe p (k ρ σs h σ H Q hE hR hP)
theorem se_var (i : Nat) {x : Str} (hN : X.N[i]? = some x := by rfl) (hv : Vis X.env.scope x := by first | exact Or.inl rfl | exact Or.inr (Or.inl rfl) | exact Or.inr (Or.inr rfl)) (hd : (x == ("__debug__" : Str)) = false := by decide)
    (hcd : (x == ("__classdict__" : Str)) = false := by decide) : SE X G W (.Name x pos) (rVar i) := se_pe (pe_var hN hv hd hcd) fun ρ σs h σ H Q hE hR hP => by
  unfold rVar at hP
  split at hP
  · rename_i v e
    obtain ⟨x, e1, r1⟩ := hE.val i v e
    exact ⟨x, e1, PostG.ret hR r1 hP⟩
  · exact hP.elim
theorem se_int {i : Int} {j} : SE X G W (.Constant (.int i) j pos) (rC (.int i)) := se_pe pe_int fun _ _ _ _ _ _ _ hR hP => PostG.ret hR (.int i) hP
theorem se_bl {b : Bool} {j} : SE X G W (.Constant (.bool b) j pos) (rC (.bl b)) := se_pe pe_bl fun _ _ _ _ _ _ _ hR hP => PostG.ret hR (.bl b) hP
theorem se_non {j} : SE X G W (.Constant .none j pos) (rC .non) := se_pe pe_non fun _ _ _ _ _ _ _ hR hP => PostG.ret hR .non hP
theorem se_str {x : Str} {j} : SE X G W (.Constant (.str x) j pos) (rC (.str x)) := se_pe pe_str fun _ _ _ _ _ _ _ hR hP => PostG.ret hR (.str x) hP
/-- a module's name: what it holds -/
def GV (X : Cx) (G : Nat → Addr) (x : Str) (v : SV) : Prop := ∃ u y, X.mg x = some u ∧ RelV y u ∧ ∀ ρ n H, RV (zOf X G) ρ n H v y
theorem se_glob {x : Str} {v : SV} (g : GV X G x v) (hg : Gl X x := by rfl) (hd : (x == ("__debug__" : Str)) = false := by decide) : SE X G W (.Name x pos) (rC v) := by
  obtain ⟨u, y, hm, ry, rv⟩ := g
  exact se_pe (pe_glob hg hm ry hd) fun ρ _ h _ H _ _ hR hP => PostG.ret hR (rv ρ _ H) hP
/-- a built-in's name as a value -/
theorem se_bltn {x : Str} {n : String} (hm : X.mg x = none) (hv : bootBuiltins x = some (.type n)) (hg : Gl X x := by rfl) (hn : x ≠ "__name__" := by decide) (hd : (x == ("__debug__" : Str)) = false := by decide) : SE X G W (.Name x pos) (rC (.ty n)) :=
  se_pe (pe_bltn (v := .ty n) hg hm hv rfl hn hd) fun ρ _ h _ H _ _ hR hP => PostG.ret hR (.ty n) hP

/-! ### two in a row -/
def rB (f : SV → SV → Hs → Out SV) (ra rb : EF) : EF := fun σ h => (ra σ h).bnd fun a h => (rb σ h).bnd fun b h => f a b h
theorem seq2 {a b : Expr} {ra rb : EF} {f : SV → SV → Hs → Out SV} (sa : SE X G W a ra) (sb : SE X G W b rb) {ρ : Nat → Addr} {σs : SEnv} {h : Hs} {σ : St} {H : Hp} {Q : VK} {R : V → V → Hp → Prop}
    (hE : REnv (zOf X G) ρ h.length H σs σ) (hR : RHp (zOf X G) ρ h H) (hP : PostE (zOf X G) W ρ h H σ (rB f ra rb σs h) Q)
    (k : ∀ u v h2 ρ2 H2 x y, RHp (zOf X G) ρ2 h2 H2 → RV (zOf X G) ρ2 h2.length H2 u x → RV (zOf X G) ρ2 h2.length H2 v y → PostE (zOf X G) W ρ2 h2 H2 σ (f u v h2) Q → R x y H2) :
    tAny X a σ H fun x H1 => tAny X b σ H1 fun y H2 => R x y H2 := by
  refine sa ρ σs h σ H _ hE hR (hP.fst fun u h1 ρ1 H1 x _ E1 R1 v1 p1 => ?_)
  refine sb ρ1 σs h1 σ H1 _ (hE.ext hR E1) R1 (p1.fst fun v h2 ρ2 H2 y _ E2 R2 v2 p2 => ?_)
  exact k u v h2 ρ2 H2 x y R2 (v1.ext R1 E2) v2 p2

/-- a binary operator by values -/
structure OpS (X : Cx) (G : Nat → Addr) (W : WX) (F : Value → Value → Sem Value) (f : SV → SV → Hs → Out SV) : Prop where of ::
  run : ∀ ρ h H σ u v x y Q, RHp (zOf X G) ρ h H → RV (zOf X G) ρ h.length H u x → RV (zOf X G) ρ h.length H v y → PostE (zOf X G) W ρ h H σ (f u v h) Q → ∀ (pins : List (Addr × Obj)) (s : Shared) (σ' : L2.St) (a b : Value), Inv X pins σ' H s → RelV x a → RelV y b → wpAny (model X.prog X.w) X.A (F a b) (EP X pins σ' Q) X.xe s
instance (X : Cx) (G : Nat → Addr) (W : WX) (F : Value → Value → Sem Value) (f : SV → SV → Hs → Out SV) : CoeFun (OpS X G W F f) fun _ => ∀ ρ h H σ u v x y Q, RHp (zOf X G) ρ h H → RV (zOf X G) ρ h.length H u x → RV (zOf X G) ρ h.length H v y → PostE (zOf X G) W ρ h H σ (f u v h) Q → ∀ (pins : List (Addr × Obj)) (s : Shared) (σ' : L2.St) (a b : Value), Inv X pins σ' H s → RelV x a → RelV y b → wpAny (model X.prog X.w) X.A (F a b) (EP X pins σ' Q) X.xe s := ⟨OpS.run⟩
theorem se_bin {a b : Expr} {op : Operator} {ra rb : EF} {f : SV → SV → Hs → Out SV} (ho : OpS X G W (binaryOp op) f) (sa : SE X G W a ra) (sb : SE X G W b rb) : SE X G W (.BinOp a op b pos) (rB f ra rb) :=
  .of fun ρ σs h σ H Q hE hR hP pins s I => wpAny_BinOp (binT (R := fun x y H2 => ∀ (pins : List (Addr × Obj)) (s : Shared) (a b : Value), Inv X pins σ H2 s → RelV x a → RelV y b → wpAny (model X.prog X.w) X.A (binaryOp op a b) (EP X pins σ Q) X.xe s) pe_any pe_any I
    (seq2 sa sb hE hR hP fun u v h2 ρ2 H2 x y R2 r1 r2 p pins s a b I => ho ρ2 h2 H2 σ u v x y Q R2 r1 r2 p pins s σ a b I) fun v u s2 x y H2 I2 rx ry q => q pins s2 v u I2 rx ry)
end
end Pz

set_option Elab.async false
set_option linter.all false
set_option maxRecDepth 100000
set_option maxHeartbeats 1000000
namespace Pz
open PySem PySem.Spec L2

theorem lim_eq : (sizeLine : Nat) = 16777216 := by rw [sizeLine_eq]
section
variable {Z : Cz} {W : WX} {ρ : Nat → Addr} {h : Hs} {H : Hp} {σ : L2.St} {p : Addr} {Q : VK}
theorem new_lst {xs : List SV} {vs : List V} (R : RHp Z ρ h H) (hp : H p = none) (r : RVs Z ρ h.length H xs vs) (hP : PostE Z W ρ h H σ (.ok (.ref h.length) (h ++ [.lst xs])) Q) : Q (.ref p) (upd H p (.lst vs)) := by
  have r' : RVs Z (putA ρ h.length p) (h.length + 1) (upd H p (.lst vs)) xs vs := r.ext' (keep_lay hp) (Nat.le_succ _) fun i hi => putA_lt hi
  refine PostG.at (Gro.push hp) (R.push (o := .lst xs) hp ⟨vs, upd_same, r'⟩) ?_ hP
  have e : RV Z (putA ρ h.length p) (h ++ [SO.lst xs]).length (upd H p (.lst vs)) (.ref h.length) (.ref (putA ρ h.length p h.length)) := .ref (by simp)
  rw [putA_same] at e; exact e
theorem new_tup {xs : List SV} {vs : List V} (R : RHp Z ρ h H) (hp : H p = none) (r : RVs Z ρ h.length H xs vs) (hP : PostE Z W ρ h H σ (.ok (.tup xs) h) Q) : Q (.ref p) (upd H p (.tup vs)) :=
  PostG.at (Gro.lay hp) (R.lay hp) (.tup (SqT.of upd_same) (r.ext' (keep_lay hp) (Nat.le_refl _) fun _ _ => rfl)) hP
theorem new_dct {xs : List (Key × SV)} {vs : List (Key × V)} (R : RHp Z ρ h H) (hp : H p = none) (r : RK Z ρ h.length H xs vs) (hP : PostE Z W ρ h H σ (.ok (.ref h.length) (h ++ [.dct xs])) Q) : Q (.ref p) (upd H p (.dK vs)) := by
  have r' : RK Z (putA ρ h.length p) (h.length + 1) (upd H p (.dK vs)) xs vs := r.ext' (keep_lay hp) (Nat.le_succ _) fun i hi => putA_lt hi
  refine PostG.at (Gro.push hp) (R.push (o := .dct xs) hp ⟨vs, upd_same, r'⟩) ?_ hP
  have e : RV Z (putA ρ h.length p) (h ++ [SO.dct xs]).length (upd H p (.dK vs)) (.ref h.length) (.ref (putA ρ h.length p h.length)) := .ref (by simp)
  rw [putA_same] at e; exact e
end

/-! ### binary operators -/
def oAdd : SV → SV → Hs → Out SV
  | .int i, .int j, h => .ok (.int (i + j)) h
  | .str x, .str y, h => if x.length + y.length ≤ 16777216 then .ok (.str (x ++ y)) h else .stuck
  | .tup xs, .tup ys, h => if xs.length + ys.length ≤ 16777216 then .ok (.tup (xs ++ ys)) h else .stuck
  | .ref a, .ref b, h => match h[a]?, h[b]? with
    | some (.lst xs), some (.lst ys) => if xs.length + ys.length ≤ 16777216 then .ok (.ref h.length) (h ++ [.lst (xs ++ ys)]) else .stuck
    | _, _ => .stuck
  | _, _, _ => .stuck
def oSub : SV → SV → Hs → Out SV
  | .int i, .int j, h => .ok (.int (i - j)) h
  | _, _, _ => .stuck
def strRep (x : Str) (n : Nat) : Str := ⟨(List.replicate n x.cps).foldl (· ++ ·) #[]⟩
def smallI (i : Int) : Bool := decide (-(2 ^ 64) < i ∧ i < 2 ^ 64)
def oMul : SV → SV → Hs → Out SV
  | .int i, .int j, h => if (smallI i || smallI j) = true then .ok (.int (i * j)) h else .stuck
  | .str x, .int n, h => if 0 ≤ n ∧ n ≤ 1000 ∧ x.length ≤ 1000 then .ok (.str (strRep x n.toNat)) h else .stuck
  | .ref a, .int n, h => match h[a]? with
    | some (.lst xs) => if 0 ≤ n ∧ n ≤ 1000 ∧ xs.length ≤ 1000 then .ok (.ref h.length) (h ++ [.lst (List.replicate n.toNat xs).flatten]) else .stuck
    | _ => .stuck
  | _, _, _ => .stuck
def oDiv : SV → SV → Hs → Out SV
  | .int i, .int j, h => if 0 < j ∧ j < 1073741824 then .ok (.int (i / j)) h else .stuck
  | _, _, _ => .stuck
def oMod : SV → SV → Hs → Out SV
  | .int i, .int j, h => if 0 < j then .ok (.int (i % j)) h else .stuck
  | _, _, _ => .stuck
def oPow : SV → SV → Hs → Out SV
  | .int i, .int j, h => if 0 ≤ j ∧ j ≤ 1000000 ∧ i.natAbs < 2 ^ 64 then .ok (.int (i ^ j.toNat)) h else .stuck
  | _, _, _ => .stuck
section
variable {X : Cx} {G : Nat → Addr} {W : WX}
theorem ops_of {F : Value → Value → Sem Value} {f : SV → SV → Hs → Out SV} {r : R2} (ho : OpR X F r)
    (k : ∀ ρ h H σ u v x y Q, RHp (zOf X G) ρ h H → RV (zOf X G) ρ h.length H u x → RV (zOf X G) ρ h.length H v y → PostE (zOf X G) W ρ h H σ (f u v h) Q → r x y H Q) : OpS X G W F f :=
  .of fun ρ h H σ u v x y Q hR r1 r2 hP pins s σ' a b I rx ry => ho pins s σ' H x y a b Q I rx ry (k ρ h H σ u v x y Q hR r1 r2 hP)
theorem os_add : OpS X G W (binaryOp .Add) oAdd := by
  refine ops_of (op_add.or (op_add_str.or (op_catA.or op_cat))) fun ρ h H σ u v x y Q hR r1 r2 hP => ?_
  unfold oAdd at hP
  split at hP
  · cases r1; cases r2
    exact .inl ⟨_, _, rfl, rfl, PostG.ret hR (.int _) hP⟩
  · cases r1; cases r2
    split at hP
    · rename_i hz
      exact .inr (.inl ⟨_, _, rfl, rfl, by rw [lim_eq]; exact hz, PostG.ret hR (.str _) hP⟩)
    · exact hP.elim
  · cases r1 with | tup q1 t1 => ?_
    cases r2 with | tup q2 t2 => ?_
    split at hP
    · rename_i hz
      refine .inr (.inr (.inl ⟨_, _, _, _, rfl, rfl, q1, q2, by rw [← t1.length, ← t2.length, lim_eq]; exact hz, ?_⟩))
      refine ⟨fun e => ?_, fun _ e => ?_, fun _ _ p hp => new_tup hR hp (t1.app t2) hP⟩
      · subst e
        cases t1
        exact PostG.ret hR (.tup q2 t2) hP
      · subst e
        cases t2
        rw [List.append_nil] at hP
        exact PostG.ret hR (.tup q1 t1) hP
    · exact hP.elim
  · split at hP
    · rename_i e1 e2
      cases r1 with | ref h1 => ?_
      cases r2 with | ref h2 => ?_
      obtain ⟨_, vs, f1, t1⟩ := hR.lst e1
      obtain ⟨_, ws, f2, t2⟩ := hR.lst e2
      split at hP
      · rename_i hz
        exact .inr (.inr (.inr ⟨_, _, _, _, rfl, rfl, f1, f2, by rw [← t1.length, ← t2.length, lim_eq]; exact hz, fun p hp => new_lst hR hp (t1.app t2) hP⟩))
      · exact hP.elim
    · exact hP.elim
  · exact hP.elim
theorem os_sub : OpS X G W (binaryOp .Sub) oSub := by
  refine ops_of op_sub fun ρ h H σ u v x y Q hR r1 r2 hP => ?_
  unfold oSub at hP
  split at hP
  · cases r1; cases r2
    exact ⟨_, _, rfl, rfl, PostG.ret hR (.int _) hP⟩
  · exact hP.elim
theorem os_div : OpS X G W (binaryOp .FloorDiv) oDiv := by
  refine ops_of op_fdiv fun ρ h H σ u v x y Q hR r1 r2 hP => ?_
  unfold oDiv at hP
  split at hP
  · cases r1; cases r2
    split at hP
    · rename_i hz; exact ⟨_, _, rfl, rfl, hz, PostG.ret hR (.int _) hP⟩
    · exact hP.elim
  · exact hP.elim
theorem os_mod : OpS X G W (binaryOp .Mod) oMod := by
  refine ops_of op_mod fun ρ h H σ u v x y Q hR r1 r2 hP => ?_
  unfold oMod at hP
  split at hP
  · cases r1; cases r2
    split at hP
    · rename_i hz; exact ⟨_, _, rfl, rfl, hz, PostG.ret hR (.int _) hP⟩
    · exact hP.elim
  · exact hP.elim
theorem os_pow : OpS X G W (binaryOp .Pow) oPow := by
  refine ops_of op_pow fun ρ h H σ u v x y Q hR r1 r2 hP => ?_
  unfold oPow at hP
  split at hP
  · cases r1; cases r2
    split at hP
    · rename_i hz; exact ⟨_, _, rfl, rfl, hz, PostG.ret hR (.int _) hP⟩
    · exact hP.elim
  · exact hP.elim
theorem fold_empty : ∀ (n : Nat), (List.replicate n (#[] : Array Nat)).foldl (· ++ ·) #[] = #[]
  | 0 => rfl
  | n + 1 => by rw [List.replicate_succ, List.foldl_cons]; simpa using fold_empty n
theorem fold_size (a : Array Nat) : ∀ (n : Nat) (acc : Array Nat), ((List.replicate n a).foldl (· ++ ·) acc).size = acc.size + n * a.size
  | 0, acc => by simp
  | n + 1, acc => by rw [List.replicate_succ, List.foldl_cons, fold_size a n, Array.size_append, Nat.succ_mul]; omega
theorem op_mul_str : OpR X (binaryOp .Mult) (fun x y H Q => ∃ z n, x = .str z ∧ y = .int n ∧ 0 ≤ n ∧ n ≤ 1000 ∧ z.length ≤ 1000 ∧ Q (.str (strRep z n.toNat)) H) := by
  intro pins s σ H x y v u Q I rx ry q
  obtain ⟨z, n, rfl, rfl, h0, h1, hz, q⟩ := q
  obtain ⟨t, rfl⟩ := rx
  obtain ⟨t', rfl⟩ := ry
  have big : z.length * n.toNat ≤ 1000000 := by
    have : n.toNat ≤ 1000 := by omega
    calc z.length * n.toNat ≤ 1000 * 1000 := Nat.mul_le_mul hz this
      _ = 1000000 := by decide
  refine PySem.P.mul_str (by
      rw [decide_eq_false (by omega), decide_eq_false (by omega)]; rfl) (fun h2 _ => ?_) (fun _ _ => ?_) ?_
  · intro hgt
    have h3 : (2 ^ 63 - 1) / n ≥ (2 ^ 63 - 1) / 1000 := by
      have h4 : (0 : Int) < n := by omega
      rw [ge_iff_le, Int.le_ediv_iff_mul_le h4]
      have h5 : (2 ^ 63 - 1 : Int) / 1000 * n ≤ (2 ^ 63 - 1 : Int) / 1000 * 1000 := Int.mul_le_mul_of_nonneg_left h1 (by decide)
      exact Int.le_trans h5 (by decide)
    have h6 : ((2 ^ 63 - 1 : Int) / 1000) ≥ 1000 := by decide
    omega
  · unfold Builtin.Str.tooLong
    simp only [decide_eq_false_iff_not, Nat.not_lt, sizeLine_eq]
    omega
  · by_cases c1 : n < 1
    · rw [if_pos c1]
      have e : n.toNat = 0 := by omega
      rw [e] at q
      exact ⟨by decide, ⟨.str Str.empty, _, I.tok _, ⟨_, rfl⟩, q⟩⟩
    · rw [if_neg c1]
      by_cases c2 : (n == 1 || z.length == 0) = true
      · rw [if_pos c2]
        have e : strRep z n.toNat = z := by
          unfold strRep
          rcases Bool.or_eq_true_iff.mp c2 with c | c
          · have : n = 1 := by simpa using c
            subst this
            show (⟨#[] ++ z.cps⟩ : Str) = z
            simp
          · have hc : z.cps = #[] := by
              have : z.cps.size = 0 := by
                have q : z.length = 0 := by simpa using c
                exact q
              exact Array.eq_empty_of_size_eq_zero this
            rw [hc, fold_empty]
            cases z; simp_all
        rw [e] at q
        exact ⟨.str z, _, I, ⟨_, rfl⟩, q⟩
      · rw [if_neg c2]
        refine ⟨?_, ⟨.str (strRep z n.toNat), _, I.tok _, ⟨_, rfl⟩, q⟩⟩
        show ((List.replicate n.toNat z.cps).foldl (· ++ ·) #[]).size ≤ sizeLine
        rw [fold_size, lim_eq]
        have : z.cps.size = z.length := rfl
        rw [this, Nat.mul_comm]
        simp; omega
theorem rep_vs {Z : Cz} {ρ : Nat → Addr} {n : Nat} {H : Hp} {xs : List SV} {vs : List V} (t : RVs Z ρ n H xs vs) : ∀ k : Nat, RVs Z ρ n H (List.replicate k xs).flatten (List.replicate k vs).flatten
  | 0 => .nil
  | k + 1 => by rw [List.replicate_succ, List.replicate_succ, List.flatten_cons, List.flatten_cons]; exact t.app (rep_vs t k)
theorem os_mul : OpS X G W (binaryOp .Mult) oMul := by
  refine ops_of (op_mul.or (op_mul_str.or op_rep)) fun ρ h H σ u v x y Q hR r1 r2 hP => ?_
  unfold oMul at hP
  split at hP
  · cases r1; cases r2
    split at hP
    · rename_i i j _ hz
      refine .inl ⟨_, _, rfl, rfl, ?_, PostG.ret hR (.int _) hP⟩
      rcases Bool.or_eq_true_iff.mp hz with z | z
      · exact .inl (of_decide_eq_true z)
      · exact .inr (of_decide_eq_true z)
    · exact hP.elim
  · cases r1; cases r2
    split at hP
    · rename_i hz
      exact .inr (.inl ⟨_, _, rfl, rfl, hz.1, hz.2.1, hz.2.2, PostG.ret hR (.str _) hP⟩)
    · exact hP.elim
  · cases r1 with | ref h1 => ?_
    cases r2
    split at hP
    · rename_i xs e1
      obtain ⟨_, vs, f1, t1⟩ := hR.lst e1
      split at hP
      · rename_i hz
        refine .inr (.inr ⟨_, _, _, rfl, rfl, f1, by omega, by omega, ?_, fun p hp => new_lst hR hp ?_ hP⟩)
        · rw [← t1.length, lim_eq]
          exact Nat.le_trans (Nat.mul_le_mul hz.2.2 (Int.toNat_le.mpr hz.2.1 : _ ≤ 1000)) (by decide)
        · exact rep_vs t1 _
      · exact hP.elim
    · exact hP.elim
  · exact hP.elim
end

def oAddI : SV → SV → Hs → Out SV
  | .int i, .int j, h => .ok (.int (i + j)) h
  | .str x, .str y, h => if x.length + y.length ≤ 16777216 then .ok (.str (x ++ y)) h else .stuck
  | _, _, _ => .stuck
/-! ### data -/
def toD : Nat → Hs → SV → Option PyData
  | 0, _, _ => none
  | n + 1, h, v => match v with
    | .non => some .none
    | .bl b => some (.bool b)
    | .int i => some (.int i)
    | .str x => some (.str x)
    | .tup xs => (xs.mapM (toD n h)).map .tuple
    | .ref a => match h[a]? with
      | some (.lst xs) => (xs.mapM (toD n h)).map .list
      | _ => none
    | .scr ns => some (.list (ns.map .int))
    | _ => none
section
variable {Z : Cz} {ρ : Nat → Addr} {h : Hs} {H : Hp}
theorem dpAll_ints : ∀ (ns : List Int), DpAll Z.K H (ns.map V.int) (ns.map PyData.int)
  | [] => .nil
  | n :: ns => .cons (.int n) (dpAll_ints ns)
theorem toD_dp (R : RHp Z ρ h H) : ∀ (n : Nat) {v : SV} {x : V} {d : PyData}, RV Z ρ h.length H v x → toD n h v = some d → Dp Z.K H x d
  | 0, _, _, _, _, e => by simp [toD] at e
  | n + 1, v, x, d, r, e => by
    have all : ∀ {xs : List SV} {vs : List V} {ds : List PyData}, RVs Z ρ h.length H xs vs → xs.mapM (toD n h) = some ds → DpAll Z.K H vs ds := by
      intro xs
      induction xs with
      | nil => intro vs ds r e; cases r; simp at e; subst e; exact .nil
      | cons a xs ih =>
        intro vs ds r e
        cases r with | cons r1 t1 => ?_
        rw [List.mapM_cons] at e
        cases e1 : toD n h a with
        | none => rw [e1] at e; simp at e
        | some d1 =>
          cases e2 : xs.mapM (toD n h) with
          | none => rw [e1, e2] at e; simp at e
          | some d2 =>
            rw [e1, e2] at e
            simp at e; subst e
            exact .cons (toD_dp R n r1 e1) (ih t1 e2)
    cases r with
    | non => simp [toD] at e; subst e; exact .non
    | bl b => simp [toD] at e; subst e; exact .bl b
    | int i => simp [toD] at e; subst e; exact .int i
    | str z => simp [toD] at e; subst e; exact .str z
    | tup q t =>
      simp only [toD, Option.map_eq_some_iff] at e
      obtain ⟨ds, e1, rfl⟩ := e
      exact .tup q (all t e1)
    | ref hi =>
      simp only [toD] at e
      split at e
      · rename_i xs e0
        obtain ⟨_, vs, f, t⟩ := R.lst e0
        simp only [Option.map_eq_some_iff] at e
        obtain ⟨ds, e1, rfl⟩ := e
        exact .lst (SqL.of f) (all t e1)
      · cases e
    | obj c => simp [toD] at e
    | ty t => simp [toD] at e
    | xn _ _ _ _ _ => simp [toD] at e
    | rng _ => simp [toD] at e
    | scr q =>
      simp [toD] at e; subst e
      rcases q with ⟨o, q⟩ | q
      · exact .lst (.inl (.inr ⟨o, q⟩)) (dpAll_ints _)
      · exact .lst (q H) (dpAll_ints _)
end
/-- two values as data -/
def two (h : Hs) (u v : SV) (f : PyData → PyData → SV) : Out SV := match toD 30 h u, toD 30 h v with
  | some d, some e => if (SeqAt.shaped d && SeqAt.shaped e) = true then .ok (f d e) h else .stuck
  | _, _ => .stuck
def oEq : SV → SV → Hs → Out SV := fun u v h => two h u v fun d e => .bl (PyData.eqv d e)
def oNe : SV → SV → Hs → Out SV := fun u v h => two h u v fun d e => .bl (!PyData.eqv d e)
section
variable {X : Cx} {G : Nat → Addr} {W : WX}
theorem os_eq (ok : XOs X W) : OpS X G W (compareOp .Eq) oEq := by
  refine ops_of (op_eqD (by have := ok.hu; omega)) fun ρ h H σ u v x y Q hR r1 r2 hP => ?_
  unfold oEq two at hP
  split at hP
  · rename_i d e e1 e2
    split at hP
    · rename_i hz
      rw [Bool.and_eq_true] at hz
      exact ⟨d, e, toD_dp hR 30 r1 e1, toD_dp hR 30 r2 e2, hz.1, hz.2, PostG.ret hR (.bl _) hP⟩
    · exact hP.elim
  · exact hP.elim
theorem os_ne (ok : XOs X W) : OpS X G W (compareOp .NotEq) oNe := by
  refine ops_of (op_neD (by have := ok.hu; omega)) fun ρ h H σ u v x y Q hR r1 r2 hP => ?_
  unfold oNe two at hP
  split at hP
  · rename_i d e e1 e2
    split at hP
    · rename_i hz
      rw [Bool.and_eq_true] at hz
      exact ⟨d, e, toD_dp hR 30 r1 e1, toD_dp hR 30 r2 e2, hz.1, hz.2, PostG.ret hR (.bl _) hP⟩
    · exact hP.elim
  · exact hP.elim
theorem os_iadd : OpS X G W (inplaceOp .Add) oAddI := by
  refine ops_of (iop_add.or iop_add_str) fun ρ h H σ u v x y Q hR r1 r2 hP => ?_
  unfold oAddI at hP
  split at hP
  · cases r1; cases r2; exact .inl ⟨_, _, rfl, rfl, PostG.ret hR (.int _) hP⟩
  · cases r1; cases r2
    split at hP
    · rename_i hz
      exact .inr ⟨_, _, rfl, rfl, by rw [lim_eq]; exact hz, PostG.ret hR (.str _) hP⟩
    · exact hP.elim
  · exact hP.elim
theorem os_isub : OpS X G W (inplaceOp .Sub) oSub := by
  refine ops_of iop_sub fun ρ h H σ u v x y Q hR r1 r2 hP => ?_
  unfold oSub at hP
  split at hP
  · cases r1; cases r2; exact ⟨_, _, rfl, rfl, PostG.ret hR (.int _) hP⟩
  · exact hP.elim
end
def oLt : SV → SV → Hs → Out SV
  | .int i, .int j, h => .ok (.bl (decide (i < j))) h
  | _, _, _ => .stuck
def oLe : SV → SV → Hs → Out SV
  | .int i, .int j, h => .ok (.bl (decide (i ≤ j))) h
  | _, _, _ => .stuck
def oGt : SV → SV → Hs → Out SV
  | .int i, .int j, h => .ok (.bl (decide (j < i))) h
  | _, _, _ => .stuck
def oGe : SV → SV → Hs → Out SV
  | .int i, .int j, h => .ok (.bl (decide (j ≤ i))) h
  | _, _, _ => .stuck
def oIs : SV → SV → Hs → Out SV
  | u, .non, h => .ok (.bl (decide (u = .non))) h
  | _, _, _ => .stuck
def oIsN : SV → SV → Hs → Out SV
  | u, .non, h => .ok (.bl (!decide (u = .non))) h
  | _, _, _ => .stuck
def flatS : SV → Bool
  | .non | .bl _ | .int _ | .str _ => true
  | _ => false
def eqS : SV → SV → Bool := fun a b => match toD 1 [] a, toD 1 [] b with
  | some d, some e => PyData.eqv d e
  | _, _ => false
/-- x in .. -/
def inS : SV → SV → Hs → Option Bool
  | x, .tup ys, h => if (flatS x && ys.all flatS) = true then some (ys.any fun y => eqS y x) else none
  | x, .ref a, h => match h[a]? with
    | some (.lst ys) => (match toD 30 h x, (ys.mapM (toD 29 h)).map PyData.list with
      | some d, some (.list ds) => if (SeqAt.shaped d && SeqAt.shaped (.list ds)) = true then some (ds.any fun z => PyData.eqv z d) else none
      | _, _ => none)
    | _ => none
  | .str x, .str y, h => some (!(Builtin.Str.occurrences y x 0 y.length 1).isEmpty)
  | _, _, _ => none
def oIn : SV → SV → Hs → Out SV := fun u v h => match inS u v h with
  | some b => .ok (.bl b) h
  | none => .stuck
def oNotIn : SV → SV → Hs → Out SV := fun u v h => match inS u v h with
  | some b => .ok (.bl (!b)) h
  | none => .stuck
section
variable {X : Cx} {G : Nat → Addr} {W : WX}
theorem os_lt : OpS X G W (compareOp .Lt) oLt := by
  refine ops_of op_lt fun ρ h H σ u v x y Q hR r1 r2 hP => ?_
  unfold oLt at hP
  split at hP
  · cases r1; cases r2; exact ⟨_, _, rfl, rfl, PostG.ret hR (.bl _) hP⟩
  · exact hP.elim
theorem os_le : OpS X G W (compareOp .LtE) oLe := by
  refine ops_of op_le fun ρ h H σ u v x y Q hR r1 r2 hP => ?_
  unfold oLe at hP
  split at hP
  · cases r1; cases r2; exact ⟨_, _, rfl, rfl, PostG.ret hR (.bl _) hP⟩
  · exact hP.elim
theorem os_gt : OpS X G W (compareOp .Gt) oGt := by
  refine ops_of op_gt fun ρ h H σ u v x y Q hR r1 r2 hP => ?_
  unfold oGt at hP
  split at hP
  · cases r1; cases r2; exact ⟨_, _, rfl, rfl, PostG.ret hR (.bl _) hP⟩
  · exact hP.elim
theorem os_ge : OpS X G W (compareOp .GtE) oGe := by
  refine ops_of op_ge fun ρ h H σ u v x y Q hR r1 r2 hP => ?_
  unfold oGe at hP
  split at hP
  · cases r1; cases r2; exact ⟨_, _, rfl, rfl, PostG.ret hR (.bl _) hP⟩
  · exact hP.elim
theorem rv_non {Z : Cz} {ρ : Nat → Addr} {n : Nat} {H : Hp} {u : SV} {x : V} (r : RV Z ρ n H u x) : decide (x = V.non) = decide (u = SV.non) := by
  cases r <;> simp
theorem os_is : OpS X G W (compareOp .Is) oIs := by
  refine ops_of op_isN fun ρ h H σ u v x y Q hR r1 r2 hP => ?_
  unfold oIs at hP
  split at hP
  · cases r2; refine ⟨rfl, ?_⟩
    rw [rv_non r1]
    exact PostG.ret hR (.bl _) hP
  · exact hP.elim
theorem os_isN : OpS X G W (compareOp .IsNot) oIsN := by
  refine ops_of op_notN fun ρ h H σ u v x y Q hR r1 r2 hP => ?_
  unfold oIsN at hP
  split at hP
  · cases r2; refine ⟨rfl, ?_⟩
    rw [rv_non r1]
    exact PostG.ret hR (.bl _) hP
  · exact hP.elim
theorem flat_rv {Z : Cz} {ρ : Nat → Addr} {n : Nat} {H : Hp} {u : SV} {x : V} (r : RV Z ρ n H u x) (f : flatS u = true) : flatV x = true := by
  cases r <;> first | rfl | simp [flatS] at f
theorem flat_all {Z : Cz} {ρ : Nat → Addr} {n : Nat} {H : Hp} : ∀ {us : List SV} {xs : List V}, RVs Z ρ n H us xs → us.all flatS = true → xs.all flatV = true
  | _, _, .nil, _ => rfl
  | _, _, .cons r t, f => by
    simp only [List.all_cons, Bool.and_eq_true] at f ⊢
    exact ⟨flat_rv r f.1, flat_all t f.2⟩
theorem eqS_rv {Z : Cz} {ρ : Nat → Addr} {n : Nat} {H : Hp} {u v : SV} {x y : V} (r : RV Z ρ n H u x) (r2 : RV Z ρ n H v y) (f : flatS u = true) (f2 : flatS v = true) : eqV x y = eqS u v := by
  cases r <;> first | (simp [flatS] at f; done) | skip
  all_goals (cases r2 <;> first | (simp [flatS] at f2; done) | skip)
  all_goals simp [eqV, eqS, toD, PyData.eqv]
theorem op_in_tupD (hu : X.A.units + 65 < cLine) : OpR X (compareOp .In) (rIn X.K false) := op_in_seq
theorem any_eqS {Z : Cz} {ρ : Nat → Addr} {n : Nat} {H : Hp} {u : SV} {x : V} (r : RV Z ρ n H u x) (f : flatS u = true) : ∀ {us : List SV} {xs : List V}, RVs Z ρ n H us xs → us.all flatS = true → inV x xs = us.any fun y => eqS y u
  | _, _, .nil, _ => rfl
  | _, _, .cons r1 t, g => by
    simp only [List.all_cons, Bool.and_eq_true] at g
    have ih := any_eqS r f t g.2
    unfold inV at ih ⊢
    rw [List.any_cons, List.any_cons, ih, eqS_rv r1 r g.1 f]
theorem inS_rule {ρ : Nat → Addr} {h : Hs} {H : Hp} {u v : SV} {x y : V} {b : Bool} (hR : RHp (zOf X G) ρ h H) (r1 : RV (zOf X G) ρ h.length H u x) (r2 : RV (zOf X G) ρ h.length H v y) (e : inS u v h = some b) :
    (∃ p xs, y = .ref p ∧ (SqL X.K H p xs ∨ SqT X.K H p xs) ∧ flatV x = true ∧ xs.all flatV = true ∧ b = inV x xs) ∨
    (∃ d ds, Dp X.K H x d ∧ Dp X.K H y (.list ds) ∧ SeqAt.shaped d = true ∧ SeqAt.shaped (.list ds) = true ∧ b = ds.any fun z => PyData.eqv z d) ∨
    (∃ i j, x = .str i ∧ y = .str j ∧ b = !(Builtin.Str.occurrences j i 0 j.length 1).isEmpty) := by
  unfold inS at e
  split at e
  · cases r2 with | tup q t => ?_
    split at e
    · rename_i hz
      rw [Bool.and_eq_true] at hz
      cases e
      exact .inl ⟨_, _, rfl, .inr q, flat_rv r1 hz.1, flat_all t hz.2, (any_eqS r1 hz.1 t hz.2).symm⟩
    · cases e
  · split at e
    · rename_i ys e0
      split at e
      · rename_i d ds e1 e2
        split at e
        · rename_i hz
          rw [Bool.and_eq_true] at hz
          cases e
          refine .inr (.inl ⟨d, ds, toD_dp hR 30 r1 e1, toD_dp hR 30 r2 ?_, hz.1, hz.2, rfl⟩)
          simp only [toD, e0]
          exact e2
        · cases e
      · cases e
    · cases e
  · cases r1; cases r2; cases e
    exact .inr (.inr ⟨_, _, rfl, rfl, rfl⟩)
  · cases e
theorem os_in (ok : XOs X W) : OpS X G W (compareOp .In) oIn := by
  refine ops_of (op_in_seq.or ((op_inD (by have := ok.hu; omega)).or op_in_str)) fun ρ h H σ u v x y Q hR r1 r2 hP => ?_
  unfold oIn at hP
  split at hP
  · rename_i b e
    have q := PostG.ret hR (.bl b) hP
    rcases inS_rule hR r1 r2 e with ⟨p, xs, rfl, h1, h2, h3, rfl⟩ | ⟨d, ds, h1, h2, h3, h4, rfl⟩ | ⟨i, j, rfl, rfl, rfl⟩
    · exact .inl ⟨p, xs, rfl, h1, h2, h3, q⟩
    · exact .inr (.inl ⟨d, ds, h1, h2, h3, h4, q⟩)
    · exact .inr (.inr ⟨i, j, rfl, rfl, q⟩)
  · exact hP.elim
theorem os_notin (ok : XOs X W) : OpS X G W (compareOp .NotIn) oNotIn := by
  refine ops_of (op_notIn_seq.or ((op_notInD (by have := ok.hu; omega)).or op_notIn_str)) fun ρ h H σ u v x y Q hR r1 r2 hP => ?_
  unfold oNotIn at hP
  split at hP
  · rename_i b e
    have q := PostG.ret hR (.bl (!b)) hP
    rcases inS_rule hR r1 r2 e with ⟨p, xs, rfl, h1, h2, h3, rfl⟩ | ⟨d, ds, h1, h2, h3, h4, rfl⟩ | ⟨i, j, rfl, rfl, rfl⟩
    · exact .inl ⟨p, xs, rfl, h1, h2, h3, q⟩
    · exact .inr (.inl ⟨d, ds, h1, h2, h3, h4, q⟩)
    · exact .inr (.inr ⟨i, j, rfl, rfl, q⟩)
  · exact hP.elim
/-! ### comparisons, tests -/
variable {pos : Pos} {a b c : Expr} {ra rb rc : EF}
theorem se_cmp {op : CmpOp} {f : SV → SV → Hs → Out SV} (ho : OpS X G W (compareOp op) f) (sa : SE X G W a ra) (sb : SE X G W b rb) (hm : behindInMarks op b = false := by first | exact nomark _ | rfl) : SE X G W (.Compare a [op] [b] pos) (rB f ra rb) :=
  .of fun ρ σs h σ H Q hE hR hP pins s I => wpAny_Compare1 (binT (R := fun x y H2 => ∀ (pins : List (Addr × Obj)) (s : Shared) (a b : Value), Inv X pins σ H2 s → RelV x a → RelV y b → wpAny (model X.prog X.w) X.A (compareOp op a b) (EP X pins σ Q) X.xe s) pe_any pe_any I
    (seq2 sa sb hE hR hP fun u v h2 ρ2 H2 x y R2 r1 r2 p pins s a b I => ho ρ2 h2 H2 σ u v x y Q R2 r1 r2 p pins s σ a b I) fun v u s2 x y H2 I2 rx ry q => q pins s2 v u I2 rx ry) hm
/-- a value's truth -/
def truS : SV → Hs → Option Bool
  | .non, _ => some false
  | .bl b, _ => some b
  | .int i, _ => some (i != 0)
  | .str x, _ => if x.length ≤ 16777216 then some ((x.length : Int) != 0) else none
  | .tup xs, _ => some (!xs.isEmpty)
  | .ref a, h => match h[a]? with
    | some (.lst xs) => some (!xs.isEmpty)
    | some (.dct xs) => some (!xs.isEmpty)
    | _ => none
  | _, _ => none
def rT (ra : EF) : SEnv → Hs → Out Bool := fun σ h => (ra σ h).bnd fun v h => match truS v h with
  | some b => .ok b h
  | none => .stuck
/-- .. of a bool alone -/
def rTB (ra : EF) : SEnv → Hs → Out Bool := fun σ h => (ra σ h).bnd fun v h => match v with
  | .bl b => .ok b h
  | _ => .stuck
theorem truS_ok {ρ : Nat → Addr} {h : Hs} {H : Hp} {u : SV} {x : V} {k : Bool} (hR : RHp (zOf X G) ρ h H) (r : RV (zOf X G) ρ h.length H u x) (e : truS u h = some k) : TruV X.K x H k := by
  unfold truS at e
  split at e
  · cases r; cases e; exact rfl
  · cases r; cases e; exact rfl
  · cases r; cases e; exact rfl
  · cases r
    split at e
    · rename_i hz; cases e; exact ⟨by rw [lim_eq]; exact hz, rfl⟩
    · cases e
  · cases r with | tup q t => ?_
    cases e
    refine .inr (.inl ⟨_, q, ?_⟩)
    cases t <;> rfl
  · cases r with | ref hi => ?_
    split at e
    · rename_i e0
      obtain ⟨_, vs, f, t⟩ := hR.lst e0
      cases e
      refine .inl ⟨_, SqL.of f, ?_⟩
      cases t <;> rfl
    · rename_i e0
      obtain ⟨_, vs, f, t⟩ := hR.dct e0
      cases e
      refine .inr (.inr ⟨_, f, ?_⟩)
      cases t <;> rfl
    · cases e
  · cases e
theorem st_truth (sa : SE X G W a ra) (he : ∀ whole, isTrue a X.env whole = (do let v ← whole; standAt a.pos; holding [v] (truthy v)) := by intro _; rfl) : ST X G W a (rT ra) :=
  .of fun ρ σs h σ H Q hE hR hP => any_pt (pt_truth pe_any he) (sa ρ σs h σ H _ hE hR (hP.fst fun v h1 ρ1 H1 x _ E1 R1 v1 p1 => by
    split at p1
    · rename_i b e; exact ⟨b, truS_ok R1 v1 e, PostG.ret R1 rfl p1⟩
    · exact p1.elim))
def tCmpA (X : Cx) (op : CmpOp) (a b : Expr) : TE := fun σ H Q => tAny X a σ H fun x H1 => tAny X b σ H1 fun y H2 => ∀ (pins : List (Addr × Obj)) (s : Shared) (a b : Value), Inv X pins σ H2 s → RelV x a → RelV y b → wpAny (model X.prog X.w) X.A (compareOp op a b) (EP X pins σ Q) X.xe s
theorem pc_any {op : CmpOp} : PC X op a b (tCmpA X op a b) := ⟨fun pins s σ H Q I h => binT pe_any pe_any I h fun v u s2 x y H2 I2 rx ry q => q pins s2 v u I2 rx ry⟩
theorem bool_post {r : Out SV} {ρ : Nat → Addr} {h : Hs} {H : Hp} {σ : L2.St} {Q : Bool → Hp → Prop} (hP : PostB (zOf X G) W ρ h H σ (r.bnd fun v h => match v with | .bl b => .ok b h | _ => .stuck) Q) : PostE (zOf X G) W ρ h H σ r (fun x H1 => ∃ c, x = .bl c ∧ Q c H1) :=
  hP.fst fun v h1 ρ1 H1 x _ E1 R1 v1 p1 => by
    cases v1 <;> first | exact p1.elim | exact ⟨_, rfl, PostG.ret R1 rfl p1⟩
theorem st_cmp {op : CmpOp} {f : SV → SV → Hs → Out SV} (ho : OpS X G W (compareOp op) f) (sa : SE X G W a ra) (sb : SE X G W b rb) (hm : behindInMarks op b = false := by first | exact nomark _ | rfl) : ST X G W (.Compare a [op] [b] pos) (rTB (rB f ra rb)) :=
  .of fun ρ σs h σ H Q hE hR hP => any_pt (pt_cmp pc_any hm) (seq2 (f := f) sa sb hE hR (bool_post hP) fun u v h2 ρ2 H2 x y R2 r1 r2 p pins s a b I => ho ρ2 h2 H2 σ u v x y _ R2 r1 r2 p pins s σ a b I)
/-- a < b < c -/
def rChain (f g : SV → SV → Hs → Out SV) (ra rb rc : EF) : EF := fun σ h => (ra σ h).bnd fun a h => (rb σ h).bnd fun b h => (f a b h).bnd fun k h => match k with
  | .bl true => (rc σ h).bnd fun c h => g b c h
  | .bl false => .ok (.bl false) h
  | _ => .stuck
def OpB (X : Cx) (F : Value → Value → Sem Value) : R2 := fun x y H Q => ∀ (pins : List (Addr × Obj)) (s : Shared) (σ : L2.St) (a b : Value), Inv X pins σ H s → RelV x a → RelV y b → wpAny (model X.prog X.w) X.A (F a b) (EP X pins σ Q) X.xe s
theorem opB_any {F : Value → Value → Sem Value} : OpR X F (OpB X F) := fun pins s σ H x y v u Q I rx ry h => h pins s σ v u I rx ry
section
variable {f g : SV → SV → Hs → Out SV} {op op2 : CmpOp} {ρ : Nat → Addr} {σs : SEnv} {h : Hs} {H : Hp} {σ : L2.St} {Q : VK}
theorem chain_post (ho : OpS X G W (compareOp op) f) (hg : OpS X G W (compareOp op2) g) (sa : SE X G W a ra) (sb : SE X G W b rb) (sc : SE X G W c rc)
    (hE : REnv (zOf X G) ρ h.length H σs σ) (hR : RHp (zOf X G) ρ h H) (hP : PostE (zOf X G) W ρ h H σ (rChain f g ra rb rc σs h) Q) :
    tChain (OpB X (compareOp op)) (OpB X (compareOp op2)) (tAny X a) (tAny X b) (tAny X c) σ H Q := by
  refine sa ρ σs h σ H _ hE hR (hP.fst fun u h1 ρ1 H1 x _ E1 R1 v1 p1 => ?_)
  refine sb ρ1 σs h1 σ H1 _ (hE.ext hR E1) R1 (p1.fst fun v h2 ρ2 H2 y _ E2 R2 v2 p2 => ?_)
  refine ho ρ2 h2 H2 σ u v x y _ R2 (v1.ext R1 E2) v2 (p2.fst fun k h3 ρ3 H3 z _ E3 R3 v3 p3 => ?_)
  split at p3
  · cases v3
    refine ⟨true, rfl, ?_⟩
    rw [if_pos rfl]
    refine sc ρ3 σs h3 σ H3 _ (((hE.ext hR E1).ext R1 E2).ext R2 E3) R3 (p3.fst fun w h4 ρ4 H4 z2 _ E4 R4 v4 p4 => ?_)
    exact hg ρ4 h4 H4 σ v w y z2 Q R4 ((v2.ext R2 E3).ext R3 E4) v4 p4
  · cases v3
    refine ⟨false, rfl, ?_⟩
    rw [if_neg Bool.false_ne_true]
    exact PostG.ret R3 (.bl false) p3
  · exact p3.elim
end
end
end Pz

set_option Elab.async false
set_option linter.all false
set_option maxRecDepth 100000
set_option maxHeartbeats 1000000
namespace Pz
open PySem PySem.Spec L2
section
variable {X : Cx} {G : Nat → Addr} {W : WX} {pos : Pos} {a b c : Expr} {ra rb rc : EF} {tA tB2 : SEnv → Hs → Out Bool} {es : List Expr} {re : LF}
theorem se_chain {op op' : CmpOp} {f g : SV → SV → Hs → Out SV} (ho : OpS X G W (compareOp op) f) (hg : OpS X G W (compareOp op') g) (sa : SE X G W a ra) (sb : SE X G W b rb) (sc : SE X G W c rc)
    (hm : lastMarks [op, op'] [b, c] = false := by with_unfolding_all rfl) : SE X G W (.Compare a [op, op'] [b, c] pos) (rChain f g ra rb rc) :=
  se_pe (pe_chain opB_any opB_any pe_any pe_any pe_any hm) fun ρ σs h σ H Q hE hR hP => chain_post ho hg sa sb sc hE hR hP
theorem st_chain {op op' : CmpOp} {f g : SV → SV → Hs → Out SV} (ho : OpS X G W (compareOp op) f) (hg : OpS X G W (compareOp op') g) (sa : SE X G W a ra) (sb : SE X G W b rb) (sc : SE X G W c rc)
    (hm : lastMarks [op, op'] [b, c] = false := by with_unfolding_all rfl) : ST X G W (.Compare a [op, op'] [b, c] pos) (rTB (rChain f g ra rb rc)) :=
  .of fun ρ σs h σ H Q hE hR hP => any_pt (pt_chain opB_any opB_any pe_any pe_any pe_any hm) (chain_post ho hg sa sb sc hE hR (bool_post hP))

/-! ### and, or, not, if-else -/
def rAndT (t u : SEnv → Hs → Out Bool) : SEnv → Hs → Out Bool := fun σ h => (t σ h).bnd fun k h => if k = true then u σ h else .ok false h
def rOrT (t u : SEnv → Hs → Out Bool) : SEnv → Hs → Out Bool := fun σ h => (t σ h).bnd fun k h => if k = true then .ok true h else u σ h
def rNotT (t : SEnv → Hs → Out Bool) : SEnv → Hs → Out Bool := fun σ h => (t σ h).bnd fun k h => .ok (!k) h
theorem st_w (s : SW X G W a tA) : ST X G W a tA := .of fun ρ σs h σ H Q hE hR hP pins s' I => s ρ σs h σ H Q hE hR hP _ pins s' I
theorem sw_and1 (s : ST X G W a tA) : SW X G W (.BoolOp .And [a] pos) tA := .of fun ρ σs h σ H Q hE hR hP => any_pw (pw_and1 pt_any) (s ρ σs h σ H Q hE hR hP)
theorem sw_or1 (s : ST X G W a tA) : SW X G W (.BoolOp .Or [a] pos) tA := .of fun ρ σs h σ H Q hE hR hP => any_pw (pw_or1 pt_any) (s ρ σs h σ H Q hE hR hP)
theorem sw_and {rest : List Expr} (s : ST X G W a tA) (s2 : SW X G W (.BoolOp .And (b :: rest) pos) tB2) : SW X G W (.BoolOp .And (a :: b :: rest) pos) (rAndT tA tB2) :=
  .of fun ρ σs h σ H Q hE hR hP => any_pw (pw_and pt_any pw_any) (s ρ σs h σ H _ hE hR (hP.fst fun k h1 ρ1 H1 k' _ E1 R1 e p1 => by
    have e' : k = k' := e
    subst e'
    cases k with
    | true => rw [if_pos rfl] at p1 ⊢; exact s2 ρ1 σs h1 σ H1 Q (hE.ext hR E1) R1 p1
    | false => rw [if_neg Bool.false_ne_true] at p1 ⊢; exact PostG.ret R1 rfl p1))
theorem sw_or {rest : List Expr} (s : ST X G W a tA) (s2 : SW X G W (.BoolOp .Or (b :: rest) pos) tB2) : SW X G W (.BoolOp .Or (a :: b :: rest) pos) (rOrT tA tB2) :=
  .of fun ρ σs h σ H Q hE hR hP => any_pw (pw_or pt_any pw_any) (s ρ σs h σ H _ hE hR (hP.fst fun k h1 ρ1 H1 k' _ E1 R1 e p1 => by
    have e' : k = k' := e
    subst e'
    cases k with
    | true => rw [if_pos rfl] at p1 ⊢; exact PostG.ret R1 rfl p1
    | false => rw [if_neg Bool.false_ne_true] at p1 ⊢; exact s2 ρ1 σs h1 σ H1 Q (hE.ext hR E1) R1 p1))
theorem st_not (s : ST X G W a tA) : ST X G W (.UnaryOp .Not a pos) (rNotT tA) :=
  .of fun ρ σs h σ H Q hE hR hP => any_pt (pt_not pt_any) (s ρ σs h σ H _ hE hR (hP.fst fun k h1 ρ1 H1 k' _ E1 R1 e p1 => by
    have e' : k = k' := e
    subst e'
    exact PostG.ret R1 rfl p1))
/-- values that are bools -/
def rBl (ra : EF) (k : Bool → SEnv → Hs → Out SV) : EF := fun σ h => (ra σ h).bnd fun v h => match v with
  | .bl c => k c σ h
  | _ => .stuck
def rAnd (ra rb : EF) : EF := rBl ra fun c σ h => if c = true then rb σ h else .ok (.bl false) h
def rOr (ra rb : EF) : EF := rBl ra fun c σ h => if c = true then .ok (.bl true) h else rb σ h
def rNot (ra : EF) : EF := rBl ra fun c _ h => .ok (.bl (!c)) h
theorem se_one {op} (s : SE X G W a ra) : SE X G W (.BoolOp op [a] pos) ra := se_pe (pe_one pe_any) fun ρ σs h σ H Q hE hR hP => s ρ σs h σ H Q hE hR hP
theorem se_and {rest : List Expr} (s : SE X G W a ra) (s2 : SE X G W (.BoolOp .And (b :: rest) pos) rb) : SE X G W (.BoolOp .And (a :: b :: rest) pos) (rAnd ra rb) :=
  se_pe (pe_and pe_any pe_any) fun ρ σs h σ H Q hE hR hP => s ρ σs h σ H _ hE hR (hP.fst fun v h1 ρ1 H1 x _ E1 R1 v1 p1 => by
    cases v1 <;> first | exact p1.elim | skip
    rename_i k _
    refine ⟨k, rfl, ?_⟩
    cases k with
    | true => exact s2 ρ1 σs h1 σ H1 Q (hE.ext hR E1) R1 p1
    | false => exact PostG.ret R1 (.bl false) p1)
theorem se_or {rest : List Expr} (s : SE X G W a ra) (s2 : SE X G W (.BoolOp .Or (b :: rest) pos) rb) : SE X G W (.BoolOp .Or (a :: b :: rest) pos) (rOr ra rb) :=
  se_pe (pe_or pe_any pe_any) fun ρ σs h σ H Q hE hR hP => s ρ σs h σ H _ hE hR (hP.fst fun v h1 ρ1 H1 x _ E1 R1 v1 p1 => by
    cases v1 <;> first | exact p1.elim | skip
    rename_i k _
    refine ⟨k, rfl, ?_⟩
    cases k with
    | true => exact PostG.ret R1 (.bl true) p1
    | false => exact s2 ρ1 σs h1 σ H1 Q (hE.ext hR E1) R1 p1)
theorem se_not (s : SE X G W a ra) : SE X G W (.UnaryOp .Not a pos) (rNot ra) :=
  se_pe (pe_not pe_any) fun ρ σs h σ H Q hE hR hP => s ρ σs h σ H _ hE hR (hP.fst fun v h1 ρ1 H1 x _ E1 R1 v1 p1 => by
    cases v1 <;> first | exact p1.elim | skip
    exact ⟨_, rfl, PostG.ret R1 (.bl _) p1⟩)
def rIfE (t : SEnv → Hs → Out Bool) (ra rb : EF) : EF := fun σ h => (t σ h).bnd fun k h => if k = true then ra σ h else rb σ h
theorem se_ifE (s : ST X G W c tA) (sa : SE X G W a ra) (sb : SE X G W b rb) : SE X G W (.IfExp c a b pos) (rIfE tA ra rb) :=
  se_pe (pe_ifExp pt_any pe_any pe_any) fun ρ σs h σ H Q hE hR hP => s ρ σs h σ H _ hE hR (hP.fst fun k h1 ρ1 H1 k' _ E1 R1 e p1 => by
    have e' : k = k' := e
    subst e'
    cases k with
    | true => rw [if_pos rfl] at p1 ⊢; exact sa ρ1 σs h1 σ H1 Q (hE.ext hR E1) R1 p1
    | false => rw [if_neg Bool.false_ne_true] at p1 ⊢; exact sb ρ1 σs h1 σ H1 Q (hE.ext hR E1) R1 p1)
/-- -e -/
def oNeg : SV → Hs → Out SV
  | .int i, h => .ok (.int (-i)) h
  | _, _ => .stuck
def rU (f : SV → Hs → Out SV) (ra : EF) : EF := fun σ h => (ra σ h).bnd fun v h => f v h
theorem se_neg (s : SE X G W a ra) : SE X G W (.UnaryOp .USub a pos) (rU oNeg ra) :=
  se_pe (pe_un un_neg pe_any) fun ρ σs h σ H Q hE hR hP => s ρ σs h σ H _ hE hR (hP.fst fun v h1 ρ1 H1 x _ E1 R1 v1 p1 => by
    unfold oNeg at p1
    cases v1 <;> first | exact p1.elim | skip
    exact ⟨_, rfl, PostG.ret R1 (.int _) p1⟩)

/-! ### argument lists, displays -/
def lNil : LF := fun _ h => .ok [] h
def lCons (ra : EF) (rl : LF) : LF := fun σ h => (ra σ h).bnd fun v h => (rl σ h).bnd fun vs h => .ok (v :: vs) h
theorem sa_nil : SA X G W [] lNil := .of fun ρ σs h σ H Q hE hR hP => any_pa pa_nil (PostG.ret hR .nil hP)
theorem sa_cons (s : SE X G W a ra) (sl : SA X G W es re) (hs : starEach (a :: es) X.env = (false, eval a X.env) :: starEach es X.env := by rfl) : SA X G W (a :: es) (lCons ra re) :=
  .of fun ρ σs h σ H Q hE hR hP => any_pa (pa_cons pe_any pa_any hs) (s ρ σs h σ H _ hE hR (hP.fst fun v h1 ρ1 H1 x _ E1 R1 v1 p1 =>
    sl ρ1 σs h1 σ H1 _ (hE.ext hR E1) R1 (p1.fst fun vs h2 ρ2 H2 xs _ E2 R2 v2 p2 => PostG.ret R2 (.cons (v1.ext R1 E2) v2) p2)))
def rTup (re : LF) : EF := fun σ h => (re σ h).bnd fun vs h => if vs.length ≤ 1000000 then .ok (.tup vs) h else .stuck
def rLst (re : LF) : EF := fun σ h => (re σ h).bnd fun vs h => if vs.length ≤ 1000000 then .ok (.ref h.length) (h ++ [.lst vs]) else .stuck
theorem lim_big {n : Nat} (h : n ≤ 1000000) : n ≤ sizeLine := by rw [lim_eq]; omega
theorem se_tup {k} (sl : SA X G W es re) : SE X G W (.Tuple es k pos) (rTup re) :=
  se_pe (pe_tup pa_any) fun ρ σs h σ H Q hE hR hP => sl ρ σs h σ H _ hE hR (hP.fst fun vs h1 ρ1 H1 xs _ E1 R1 v1 p1 => by
    split at p1
    · rename_i hz; exact ⟨by rw [← v1.length]; exact lim_big hz, fun p hp => new_tup R1 hp v1 p1⟩
    · exact p1.elim)
theorem se_lst (sl : SA X G W es re) : SE X G W (.List es pos) (rLst re) :=
  se_pe (pe_lst pa_any) fun ρ σs h σ H Q hE hR hP => sl ρ σs h σ H _ hE hR (hP.fst fun vs h1 ρ1 H1 xs _ E1 R1 v1 p1 => by
    split at p1
    · rename_i hz; exact ⟨by rw [← v1.length]; exact lim_big hz, fun p hp => new_lst R1 hp v1 p1⟩
    · exact p1.elim)

/-! ### a[i] -/
def oIx : SV → SV → Hs → Out SV
  | .tup xs, .int i, h => match atI xs i with
    | some v => .ok v h
    | none => .stuck
  | .ref a, .int i, h => match h[a]? with
    | some (.lst xs) => (match atI xs i with
      | some v => .ok v h
      | none => .stuck)
    | _ => .stuck
  | .scr ns, .int i, h => match atI ns i with
    | some n => .ok (.int n) h
    | none => .stuck
  | .str z, .int i, h => if z.length ≤ 16777216 then (match atI z.cps.toList i with
      | some c => .ok (.str ⟨#[c]⟩) h
      | none => .stuck) else .stuck
  | _, _, _ => .stuck
theorem atI_rv {Z : Cz} {ρ : Nat → Addr} {n : Nat} {H : Hp} {xs : List SV} {vs : List V} {i : Int} {v : SV} (t : RVs Z ρ n H xs vs) (e : atI xs i = some v) : ∃ x, atI vs i = some x ∧ RV Z ρ n H v x := by
  unfold atI at e ⊢
  rw [← t.length]
  cases q : ixN xs.length i with
  | none => rw [q] at e; cases e
  | some j => rw [q] at e; exact t.get e
theorem atI_map {ns : List Int} {i : Int} {n : Int} (e : atI ns i = some n) : atI (ns.map V.int) i = some (V.int n) := by
  unfold atI at e ⊢
  rw [List.length_map]
  cases q : ixN ns.length i with
  | none => rw [q] at e; cases e
  | some j => rw [q] at e; simpa using e
theorem scr_sq {Z : Cz} {ρ : Nat → Addr} {n : Nat} {H : Hp} {ns : List Int} {x : V} (r : RV Z ρ n H (.scr ns) x) : ∃ a, x = .ref a ∧ SqL Z.K H a (ns.map V.int) := by
  cases r with
  | scr q => rcases q with ⟨o, q⟩ | q
             · exact ⟨_, rfl, .inl (.inr ⟨o, q⟩)⟩
             · exact ⟨_, rfl, q H⟩
theorem ix_rule {ρ : Nat → Addr} {h : Hs} {H : Hp} {σ : L2.St} {u v : SV} {x y : V} {Q : VK} (hR : RHp (zOf X G) ρ h H) (r1 : RV (zOf X G) ρ h.length H u x) (r2 : RV (zOf X G) ρ h.length H v y)
    (hP : PostE (zOf X G) W ρ h H σ (oIx u v h) Q) : rIx X.K x y H Q := by
  unfold oIx at hP
  split at hP
  · cases r1 with | tup q t => ?_
    cases r2
    split at hP
    · rename_i e
      obtain ⟨z, e2, r⟩ := atI_rv t e
      exact .inr (.inl ⟨_, _, _, _, rfl, rfl, q, e2, PostG.ret hR r hP⟩)
    · exact hP.elim
  · cases r1 with | ref hi => ?_
    cases r2
    split at hP
    · rename_i e0
      obtain ⟨_, vs, f, t⟩ := hR.lst e0
      split at hP
      · rename_i e
        obtain ⟨z, e2, r⟩ := atI_rv t e
        exact .inl ⟨_, _, _, _, rfl, rfl, SqL.of f, e2, PostG.ret hR r hP⟩
      · exact hP.elim
    · exact hP.elim
  · obtain ⟨p, rfl, q⟩ := scr_sq r1
    cases r2
    split at hP
    · rename_i e
      exact .inl ⟨_, _, _, _, rfl, rfl, q, atI_map e, PostG.ret hR (.int _) hP⟩
    · exact hP.elim
  · cases r1; cases r2
    split at hP
    · rename_i hz
      split at hP
      · rename_i e
        exact .inr (.inr ⟨_, _, _, rfl, rfl, by rw [lim_eq]; exact hz, e, PostG.ret hR (.str _) hP⟩)
      · exact hP.elim
    · exact hP.elim
  · exact hP.elim
theorem se_ix (sa : SE X G W a ra) (sb : SE X G W b rb) (hs : PlainIx b := by exact fun _ _ => rfl) : SE X G W (.Subscript a b pos) (rB oIx ra rb) :=
  se_pe (pe_ix ix_seq pe_any pe_any hs) fun ρ σs h σ H Q hE hR hP => seq2 (f := oIx) sa sb hE hR hP fun u v h2 ρ2 H2 x y R2 r1 r2 p => ix_rule R2 r1 r2 p

/-! ### a[i:j] -/
def cutS (xs : List SV) (lo hi : Option Int) : List SV := (xs.drop (HT.sIx xs.length 0 lo)).take (HT.sIx xs.length xs.length hi - HT.sIx xs.length 0 lo)
abbrev PF := SEnv → Hs → Out (Option Int)
def pNone : PF := fun _ h => .ok none h
def pSome (ra : EF) : PF := fun σ h => (ra σ h).bnd fun v h => match v with
  | .int i => .ok (some i) h
  | _ => .stuck
def oSl : SV → Option Int → Option Int → Hs → Out SV
  | .tup xs, lo, hi, h => .ok (.tup (cutS xs lo hi)) h
  | .ref a, lo, hi, h => match h[a]? with
    | some (.lst xs) => .ok (.ref h.length) (h ++ [.lst (cutS xs lo hi)])
    | _ => .stuck
  | _, _, _, _ => .stuck
def rSl (ra : EF) (pl ph : PF) : EF := fun σ h => (ra σ h).bnd fun v h => (pl σ h).bnd fun lo h => (ph σ h).bnd fun hi h => oSl v lo hi h
def tAnyO (X : Cx) (e : Option Expr) : TO := fun σ H Q => ∀ (pins : List (Addr × Obj)) (s : Shared), Inv X pins σ H s → wpAny (model X.prog X.w) X.A (evalPart e X.env) (fun u s' => ∃ o H', Inv X pins σ H' s' ∧ IsPart u o ∧ Q o H') X.xe s
theorem po_any {e : Option Expr} : PO X e (tAnyO X e) := ⟨fun pins s σ H Q I h => h pins s I⟩
structure SPt (X : Cx) (G : Nat → Addr) (W : WX) (e : Option Expr) (r : PF) : Prop where of ::
  run : ∀ ρ σs h σ H Q, REnv (zOf X G) ρ h.length H σs σ → RHp (zOf X G) ρ h H → PostG (zOf X G) W ρ h H σ (fun _ _ _ (a b : Option Int) => a = b) (r σs h) Q → tAnyO X e σ H Q
instance (X : Cx) (G : Nat → Addr) (W : WX) (e : Option Expr) (r : PF) : CoeFun (SPt X G W e r) fun _ => ∀ ρ σs h σ H Q, REnv (zOf X G) ρ h.length H σs σ → RHp (zOf X G) ρ h H → PostG (zOf X G) W ρ h H σ (fun _ _ _ (a b : Option Int) => a = b) (r σs h) Q → tAnyO X e σ H Q := ⟨SPt.run⟩
theorem sp_none : SPt X G W none pNone := .of fun ρ σs h σ H Q hE hR hP pins s I => po_none.run pins s σ H Q I (PostG.ret hR rfl hP)
theorem sp_some (sa : SE X G W a ra) : SPt X G W (some a) (pSome ra) := .of fun ρ σs h σ H Q hE hR hP pins s I => (po_some pe_any).run pins s σ H Q I (sa ρ σs h σ H _ hE hR (hP.fst fun v h1 ρ1 H1 x _ E1 R1 v1 p1 => by
  cases v1 <;> first | exact p1.elim | exact ⟨_, rfl, PostG.ret R1 rfl p1⟩))
theorem RVs.cutV {Z : Cz} {ρ : Nat → Addr} {n : Nat} {H : Hp} {xs : List SV} {vs : List V} (t : RVs Z ρ n H xs vs) (lo hi : Option Int) : RVs Z ρ n H (cutS xs lo hi) (L2.cutV vs lo hi) := by
  unfold cutS L2.cutV
  rw [t.length]
  exact (t.drop _).take _
theorem cutS_all {xs : List SV} {lo hi : Option Int} (h : HT.sIx xs.length 0 lo = 0 ∧ HT.sIx xs.length xs.length hi = xs.length) : cutS xs lo hi = xs := by
  unfold cutS
  rw [h.1, h.2]; simp
theorem sl_rule {ρ : Nat → Addr} {h : Hs} {H : Hp} {σ : L2.St} {u : SV} {lo hi : Option Int} {x : V} {Q : VK} (hR : RHp (zOf X G) ρ h H) (r1 : RV (zOf X G) ρ h.length H u x)
    (hP : PostE (zOf X G) W ρ h H σ (oSl u lo hi h) Q) : rSlA X.K x lo hi H Q ∨ rSlL X.K x lo hi H Q := by
  unfold oSl at hP
  split at hP
  · cases r1 with | tup q t => ?_
    refine .inl ⟨_, _, rfl, q, fun e => ?_, fun _ p hp => new_tup hR hp (t.cutV _ _) hP⟩
    rw [← t.length] at e
    rw [cutS_all e] at hP
    exact PostG.ret hR (.tup q t) hP
  · cases r1 with | ref hi => ?_
    split at hP
    · rename_i e0
      obtain ⟨_, vs, f, t⟩ := hR.lst e0
      exact .inr ⟨_, _, rfl, SqL.of f, fun p hp => new_lst hR hp (t.cutV _ _) hP⟩
    · exact hP.elim
  · exact hP.elim
theorem se_sl {lo hi : Option Expr} {pl ph : PF} {p2 : Pos} (sa : SE X G W a ra) (sl : SPt X G W lo pl) (sh : SPt X G W hi ph) : SE X G W (.Subscript a (.Slice lo hi none p2) pos) (rSl ra pl ph) :=
  se_pe (pe_slice (sl_tupA.or sl_list) pe_any po_any po_any) fun ρ σs h σ H Q hE hR hP => sa ρ σs h σ H _ hE hR (hP.fst fun v h1 ρ1 H1 x _ E1 R1 v1 p1 =>
    sl ρ1 σs h1 σ H1 _ (hE.ext hR E1) R1 (p1.fst fun o h2 ρ2 H2 o' _ E2 R2 e2 p2 =>
      sh ρ2 σs h2 σ H2 _ ((hE.ext hR E1).ext R1 E2) R2 (p2.fst fun u h3 ρ3 H3 u' _ E3 R3 e3 p3 => by
        have e2' : o = o' := e2
        have e3' : u = u' := e3
        subst e2' e3'
        exact sl_rule R3 ((v1.ext R1 E2).ext R2 E3) p3)))

/-! ### built-ins by values -/
structure FnS (X : Cx) (G : Nat → Addr) (f : Value) (r : List SV → Hs → Out SV) : Prop where of ::
  run : ∀ W ρ h H σ us xs Q, RHp (zOf X G) ρ h H → RVs (zOf X G) ρ h.length H us xs → PostE (zOf X G) W ρ h H σ (r us h) Q → ∀ (pins : List (Addr × Obj)) (s : Shared) (σ' : L2.St) (ws : List Value), Inv X pins σ' H s → Vals xs ws → wpAny (model X.prog X.w) X.A (call f ws) (EP X pins σ' Q) X.xe s
instance (X : Cx) (G : Nat → Addr) (f : Value) (r : List SV → Hs → Out SV) : CoeFun (FnS X G f r) fun _ => ∀ W ρ h H σ us xs Q, RHp (zOf X G) ρ h H → RVs (zOf X G) ρ h.length H us xs → PostE (zOf X G) W ρ h H σ (r us h) Q → ∀ (pins : List (Addr × Obj)) (s : Shared) (σ' : L2.St) (ws : List Value), Inv X pins σ' H s → Vals xs ws → wpAny (model X.prog X.w) X.A (call f ws) (EP X pins σ' Q) X.xe s := ⟨FnS.run⟩
theorem fns_of {f : Value} {r : List SV → Hs → Out SV} {q : List V → Hp → VK → Prop} (hc : CallR X f q)
    (k : ∀ W ρ h H σ us xs Q, RHp (zOf X G) ρ h H → RVs (zOf X G) ρ h.length H us xs → PostE (zOf X G) W ρ h H σ (r us h) Q → q xs H Q) : FnS X G f r :=
  .of fun W ρ h H σ us xs Q hR t hP pins s σ' ws I rw => hc pins s σ' H xs ws Q I rw (k W ρ h H σ us xs Q hR t hP)
def callAny (X : Cx) (f : Value) : List V → Hp → VK → Prop := fun xs H Q => ∀ (pins : List (Addr × Obj)) (s : Shared) (σ' : L2.St) (ws : List Value), Inv X pins σ' H s → Vals xs ws → wpAny (model X.prog X.w) X.A (call f ws) (EP X pins σ' Q) X.xe s
theorem callR_any {f : Value} : CallR X f (callAny X f) := fun pins s σ H xs us Q I r h => h pins s σ us I r
def rF (r : List SV → Hs → Out SV) (re : LF) : EF := fun σ h => (re σ h).bnd fun vs h => r vs h
section
variable {x : Str} {p : Pos} {id : String} {r : List SV → Hs → Out SV} {e : Expr}
theorem se_callB (hc : FnS X G (.builtin id) r) (hm : X.mg x = none) (sl : SA X G W (e :: es) re) (hg : Gl X x := by rfl) (hv : bootBuiltins x = some (.builtin id) := by decide +kernel) (hn : x ≠ "__name__" := by decide) (hdb : (x == ("__debug__" : Str)) = false := by decide)
    (he : starEach (e :: es) X.env = (false, eval e X.env) :: starEach es X.env := by rfl) (hpl : (backTo pos (starEach es X.env)).any (·.1) = false := by rfl) : SE X G W (.Call (.Name x p) (e :: es) [] pos) (rF r re) :=
  se_pe (pe_callB callR_any hg hm hv pa_any hn hdb he hpl) fun ρ σs h σ H Q hE hR hP => sl ρ σs h σ H _ hE hR (hP.fst fun vs h1 ρ1 H1 xs _ E1 R1 v1 p1 => hc W ρ1 h1 H1 σ vs xs Q R1 v1 p1)
theorem se_callT (hc : FnS X G (.type id) r) (hm : X.mg x = none) (sl : SA X G W (e :: es) re) (hg : Gl X x := by rfl) (hv : bootBuiltins x = some (.type id) := by decide +kernel) (hn : x ≠ "__name__" := by decide) (hdb : (x == ("__debug__" : Str)) = false := by decide)
    (he : starEach (e :: es) X.env = (false, eval e X.env) :: starEach es X.env := by rfl) (hpl : (backTo pos (starEach es X.env)).any (·.1) = false := by rfl) : SE X G W (.Call (.Name x p) (e :: es) [] pos) (rF r re) :=
  se_pe (pe_callTy callR_any hg hm hv pa_any hn hdb he hpl) fun ρ σs h σ H Q hE hR hP => sl ρ σs h σ H _ hE hR (hP.fst fun vs h1 ρ1 H1 xs _ E1 R1 v1 p1 => hc W ρ1 h1 H1 σ vs xs Q R1 v1 p1)
end
theorem rvs1 {Z : Cz} {ρ : Nat → Addr} {n : Nat} {H : Hp} {u : SV} {xs : List V} (t : RVs Z ρ n H [u] xs) : ∃ x, xs = [x] ∧ RV Z ρ n H u x := by
  cases t with | cons r t => cases t; exact ⟨_, rfl, r⟩
theorem rvs2 {Z : Cz} {ρ : Nat → Addr} {n : Nat} {H : Hp} {u v : SV} {xs : List V} (t : RVs Z ρ n H [u, v] xs) : ∃ x y, xs = [x, y] ∧ RV Z ρ n H u x ∧ RV Z ρ n H v y := by
  cases t with | cons r t => cases t with | cons r2 t => cases t; exact ⟨_, _, rfl, r, r2⟩
/-- len -/
def bLen : List SV → Hs → Out SV
  | [.tup xs], h => .ok (.int xs.length) h
  | [.ref a], h => match h[a]? with
    | some (.lst xs) => .ok (.int xs.length) h
    | _ => .stuck
  | [.scr ns], h => .ok (.int ns.length) h
  | [.str x], h => if x.length ≤ 16777216 then .ok (.int x.length) h else .stuck
  | _, _ => .stuck
theorem fn_len : FnS X G (.builtin "len") bLen := fns_of call_len fun W ρ h H σ us xs Q hR t hP => by
  unfold bLen at hP
  split at hP
  · obtain ⟨x, rfl, r⟩ := rvs1 t
    cases r with | tup q t2 => ?_
    exact ⟨_, _, rfl, .inr ⟨_, q, rfl⟩, by rw [← t2.length]; exact PostG.ret hR (.int _) hP⟩
  · obtain ⟨x, rfl, r⟩ := rvs1 t
    cases r with | ref hi => ?_
    split at hP
    · rename_i e0
      obtain ⟨_, vs, f, t⟩ := hR.lst e0
      exact ⟨_, _, rfl, .inl ⟨_, SqL.of f, rfl⟩, by rw [← t.length]; exact PostG.ret hR (.int _) hP⟩
    · exact hP.elim
  · obtain ⟨x, rfl, r⟩ := rvs1 t
    obtain ⟨p, rfl, q⟩ := scr_sq r
    exact ⟨_, _, rfl, .inl ⟨_, q, rfl⟩, by rw [List.length_map]; exact PostG.ret hR (.int _) hP⟩
  · obtain ⟨x, rfl, r⟩ := rvs1 t
    cases r
    split at hP
    · rename_i hz
      exact ⟨_, _, rfl, ⟨by rw [lim_eq]; exact hz, rfl⟩, PostG.ret hR (.int _) hP⟩
    · exact hP.elim
  · exact hP.elim
def bAbs : List SV → Hs → Out SV
  | [.int i], h => .ok (.int (if i < 0 then -i else i)) h
  | _, _ => .stuck
theorem fn_abs : FnS X G (.builtin "abs") bAbs := fns_of call_abs fun W ρ h H σ us xs Q hR t hP => by
  unfold bAbs at hP
  split at hP
  · obtain ⟨x, rfl, r⟩ := rvs1 t
    cases r; exact ⟨_, rfl, PostG.ret hR (.int _) hP⟩
  · exact hP.elim
def bMax2 : List SV → Hs → Out SV
  | [.int i, .int j], h => .ok (.int (if j > i then j else i)) h
  | _, _ => .stuck
theorem fn_max2 (ok : XOk X W) : FnS X G (.builtin "max") bMax2 := fns_of (call_max2 ok.calm) fun W ρ h H σ us xs Q hR t hP => by
  unfold bMax2 at hP
  split at hP
  · obtain ⟨x, y, rfl, r, r2⟩ := rvs2 t
    cases r; cases r2; exact ⟨_, _, rfl, PostG.ret hR (.int _) hP⟩
  · exact hP.elim
def bMin2 : List SV → Hs → Out SV
  | [.int i, .int j], h => .ok (.int (if j < i then j else i)) h
  | _, _ => .stuck
theorem fn_min2 (ok : XOk X W) : FnS X G (.builtin "min") bMin2 := fns_of (call_min2 ok.calm) fun W ρ h H σ us xs Q hR t hP => by
  unfold bMin2 at hP
  split at hP
  · obtain ⟨x, y, rfl, r, r2⟩ := rvs2 t
    cases r; cases r2; exact ⟨_, _, rfl, PostG.ret hR (.int _) hP⟩
  · exact hP.elim
def bInt : List SV → Hs → Out SV
  | [.int i], h => .ok (.int i) h
  | [.bl k], h => .ok (.int (if k then 1 else 0)) h
  | _, _ => .stuck
theorem fn_int : FnS X G (.type "int") bInt := fns_of call_int1 fun W ρ h H σ us xs Q hR t hP => by
  unfold bInt at hP
  split at hP
  · obtain ⟨x, rfl, r⟩ := rvs1 t
    cases r; exact .inl ⟨_, rfl, PostG.ret hR (.int _) hP⟩
  · obtain ⟨x, rfl, r⟩ := rvs1 t
    cases r; exact .inr ⟨_, rfl, PostG.ret hR (.int _) hP⟩
  · exact hP.elim
/-- tuple(list or tuple) -/
def bTuple : List SV → Hs → Out SV
  | [.tup xs], h => .ok (.tup xs) h
  | [.ref a], h => match h[a]? with
    | some (.lst xs) => .ok (.tup xs) h
    | _ => .stuck
  | _, _ => .stuck
theorem fn_tuple : FnS X G (.type "tuple") bTuple := fns_of call_tuple_of fun W ρ h H σ us xs Q hR t hP => by
  unfold bTuple at hP
  split at hP
  · obtain ⟨x, rfl, r⟩ := rvs1 t
    cases r with | tup q t2 => ?_
    exact ⟨_, _, rfl, .inr ⟨q, PostG.ret hR (.tup q t2) hP⟩⟩
  · obtain ⟨x, rfl, r⟩ := rvs1 t
    cases r with | ref hi => ?_
    split at hP
    · rename_i e0
      obtain ⟨_, vs, f, t⟩ := hR.lst e0
      exact ⟨_, _, rfl, .inl ⟨SqL.of f, fun p hp => new_tup hR hp t hP⟩⟩
    · exact hP.elim
  · exact hP.elim
/-- list(list or tuple) -/
def bList : List SV → Hs → Out SV
  | [.tup xs], h => .ok (.ref h.length) (h ++ [.lst xs])
  | [.ref a], h => match h[a]? with
    | some (.lst xs) => .ok (.ref h.length) (h ++ [.lst xs])
    | _ => .stuck
  | _, _ => .stuck
theorem fn_list : FnS X G (.type "list") bList := fns_of call_list_of fun W ρ h H σ us xs Q hR t hP => by
  unfold bList at hP
  split at hP
  · obtain ⟨x, rfl, r⟩ := rvs1 t
    cases r with | tup q t2 => ?_
    exact ⟨_, _, rfl, .inr q, fun p hp => new_lst hR hp t2 hP⟩
  · obtain ⟨x, rfl, r⟩ := rvs1 t
    cases r with | ref hi => ?_
    split at hP
    · rename_i e0
      obtain ⟨_, vs, f, t⟩ := hR.lst e0
      exact ⟨_, _, rfl, .inl (SqL.of f), fun p hp => new_lst hR hp t hP⟩
    · exact hP.elim
  · exact hP.elim
/-- all, any of a list of bools -/
def blsS : List SV → Option (List Bool)
  | [] => some []
  | .bl b :: r => (blsS r).map (b :: ·)
  | _ :: _ => none
theorem blsS_rv {Z : Cz} {ρ : Nat → Addr} {n : Nat} {H : Hp} : ∀ {xs : List SV} {vs : List V} {bs : List Bool}, RVs Z ρ n H xs vs → blsS xs = some bs → vs = bs.map V.bl
  | _, _, bs, .nil, e => by simp [blsS] at e; subst e; rfl
  | _, _, bs, .cons r t, e => by
    cases r <;> simp only [blsS, reduceCtorEq, Option.map_eq_some_iff] at e
    obtain ⟨b2, e1, rfl⟩ := e
    rw [blsS_rv t e1]; rfl
def bAll : List SV → Hs → Out SV
  | [.ref a], h => match h[a]? with
    | some (.lst xs) => (match blsS xs with
      | some bs => .ok (.bl (bs.all id)) h
      | none => .stuck)
    | _ => .stuck
  | _, _ => .stuck
def bAny : List SV → Hs → Out SV
  | [.ref a], h => match h[a]? with
    | some (.lst xs) => (match blsS xs with
      | some bs => .ok (.bl (bs.any id)) h
      | none => .stuck)
    | _ => .stuck
  | _, _ => .stuck
theorem fn_all (ok : XOk X W) : FnS X G (.builtin "all") bAll := fns_of (cr_all ok.calm) fun W ρ h H σ us xs Q hR t hP => by
  unfold bAll at hP
  split at hP
  · obtain ⟨x, rfl, r⟩ := rvs1 t
    cases r with | ref hi => ?_
    split at hP
    · rename_i e0
      obtain ⟨_, vs, f, t⟩ := hR.lst e0
      split at hP
      · rename_i e1
        have := blsS_rv t e1
        subst this
        exact ⟨_, _, rfl, SqL.of f, PostG.ret hR (.bl _) hP⟩
      · exact hP.elim
    · exact hP.elim
  · exact hP.elim
theorem fn_any (ok : XOk X W) : FnS X G (.builtin "any") bAny := fns_of (cr_any ok.calm) fun W ρ h H σ us xs Q hR t hP => by
  unfold bAny at hP
  split at hP
  · obtain ⟨x, rfl, r⟩ := rvs1 t
    cases r with | ref hi => ?_
    split at hP
    · rename_i e0
      obtain ⟨_, vs, f, t⟩ := hR.lst e0
      split at hP
      · rename_i e1
        have := blsS_rv t e1
        subst this
        exact ⟨_, _, rfl, SqL.of f, PostG.ret hR (.bl _) hP⟩
      · exact hP.elim
    · exact hP.elim
  · exact hP.elim
/-- repr -/
theorem call_repr_D (hu : X.A.units + 200 < cLine) (hg : X.A.guards = some []) : CallR X (.builtin "repr") (fun xs H Q => ∃ x d, xs = [x] ∧ Dp X.K H x d ∧ d.showable = true ∧ d.hasDict = false ∧ d.depth ≤ 64 ∧ d.shown.length ≤ sizeLine ∧ Q (.str d.shown) H) := by
  intro pins s σ H xs us Q I r q
  obtain ⟨x, d, rfl, hd, hs, hnd, hdp, hz, q⟩ := q
  obtain ⟨u, rfl, ru⟩ := vals1 r
  cases hd with
  | non => cases ru; exact PySem.P.repr_of_none ⟨.str _, H, I.tok _, ⟨_, rfl⟩, q⟩
  | bl b => cases ru; exact PySem.P.repr_of_bool ⟨.str _, H, I.tok _, ⟨_, rfl⟩, q⟩
  | int i => obtain ⟨t, rfl⟩ := ru; exact PySem.P.repr_of_int (by simpa [PyData.showable] using hs) ⟨.str _, H, I.tok _, ⟨_, rfl⟩, q⟩
  | str z => obtain ⟨t, rfl⟩ := ru; exact PySem.P.repr_of_str ⟨.str _, H, I.tok _, ⟨_, rfl⟩, q⟩ hz
  | @lst a xs ds h1 h2 =>
    obtain ⟨as, r1⟩ := Dp.reads I (.list ds) (.ref a) u (.lst h1 h2) ru
    cases ru
    exact repr_of_reads' r1 hs (PyData.noDict_hsm hnd) hg (by omega) (fun _ _ e => e) (fun h' u tk hk => ⟨.str _, H, I.kept hk, ⟨_, rfl⟩, q⟩) hz
  | @tup a xs ds h1 h2 =>
    obtain ⟨as, r1⟩ := Dp.reads I (.tuple ds) (.ref a) u (.tup h1 h2) ru
    cases ru
    exact repr_of_reads' r1 hs (PyData.noDict_hsm hnd) hg (by omega) (fun _ _ e => e) (fun h' u tk hk => ⟨.str _, H, I.kept hk, ⟨_, rfl⟩, q⟩) hz
def bRepr : List SV → Hs → Out SV
  | [u], h => match toD 30 h u with
    | some d => if d.showable = true ∧ d.hasDict = false ∧ d.depth ≤ 64 ∧ d.shown.length ≤ 16777216 then .ok (.str d.shown) h else .stuck
    | none => .stuck
  | _, _ => .stuck
theorem fn_repr (ok : XOs X W) : FnS X G (.builtin "repr") bRepr := fns_of (call_repr_D ok.hu ok.gd) fun W ρ h H σ us xs Q hR t hP => by
  unfold bRepr at hP
  split at hP
  · obtain ⟨x, rfl, r⟩ := rvs1 t
    split at hP
    · rename_i d e
      split at hP
      · rename_i hz
        exact ⟨x, d, rfl, toD_dp hR 30 r e, hz.1, hz.2.1, hz.2.2.1, by rw [lim_eq]; exact hz.2.2.2, PostG.ret hR (.str _) hP⟩
      · exact hP.elim
    · exact hP.elim
  · exact hP.elim
end
end Pz

set_option Elab.async false
set_option linter.all false
set_option maxRecDepth 100000
set_option maxHeartbeats 1000000
namespace Pz
open PySem PySem.Spec L2

/-! ### statements -/
inductive OS where
  | nx (σ : SEnv) (h : Hs) | rt (v : SV) (h : Hs) | bk (σ : SEnv) (h : Hs) | ct (σ : SEnv) (h : Hs)
  | exc (c : Nat) (fs : List (Str × SV)) (σ : SEnv) (h : Hs) | stuck
abbrev SF := SEnv → Hs → OS
/-- an expression's value to a statement -/
def Out.st {α : Type} (r : Out α) (σ : SEnv) (f : α → Hs → OS) : OS := match r with
  | .ok v h => f v h
  | .exc c fs h => .exc c fs σ h
  | .stuck => .stuck
@[simp] theorem Out.st_ok {α : Type} (a : α) (h : Hs) (σ : SEnv) (f : α → Hs → OS) : (Out.ok a h).st σ f = f a h := rfl
@[simp] theorem Out.st_exc {α : Type} (c : Nat) (fs : List (Str × SV)) (h : Hs) (σ : SEnv) (f : α → Hs → OS) : (Out.exc c fs h : Out α).st σ f = .exc c fs σ h := rfl
@[simp] theorem Out.st_stuck {α : Type} (σ : SEnv) (f : α → Hs → OS) : (Out.stuck : Out α).st σ f = .stuck := rfl
def OS.seq (r : OS) (f : SF) : OS := match r with
  | .nx σ h => f σ h
  | o => o
@[simp] theorem OS.seq_nx (σ : SEnv) (h : Hs) (f : SF) : (OS.nx σ h).seq f = f σ h := rfl
@[simp] theorem OS.seq_rt (v : SV) (h : Hs) (f : SF) : (OS.rt v h).seq f = .rt v h := rfl
@[simp] theorem OS.seq_bk (σ : SEnv) (h : Hs) (f : SF) : (OS.bk σ h).seq f = .bk σ h := rfl
@[simp] theorem OS.seq_ct (σ : SEnv) (h : Hs) (f : SF) : (OS.ct σ h).seq f = .ct σ h := rfl
@[simp] theorem OS.seq_exc (c : Nat) (fs : List (Str × SV)) (σ : SEnv) (h : Hs) (f : SF) : (OS.exc c fs σ h).seq f = .exc c fs σ h := rfl
@[simp] theorem OS.seq_stuck (f : SF) : OS.stuck.seq f = .stuck := rfl
section
variable (Z : Cz) (W : WX) (ρ : Nat → Addr) (h : Hs) (H : Hp)
def PEnv (σs : SEnv) (h' : Hs) (P : L2.St → Hp → Prop) : Prop := ∀ ρ' H' σ', Gro ρ h H ρ' h' H' → RHp Z ρ' h' H' → REnv Z ρ' h'.length H' σs σ' → P σ' H'
def PVal (v : SV) (h' : Hs) (P : VK) : Prop := ∀ ρ' H' x, Gro ρ h H ρ' h' H' → RHp Z ρ' h' H' → RV Z ρ' h'.length H' v x → P x H'
def PostS (r : OS) (D : Ends) : Prop := match r with
  | .nx σs h' => PEnv Z ρ h H σs h' D.nx
  | .rt v h' => PVal Z ρ h H v h' D.rt
  | .bk σs h' => PEnv Z ρ h H σs h' D.bk
  | .ct σs h' => PEnv Z ρ h H σs h' D.ct
  | .exc c fs σs h' => ∀ σ' ρ' H' d xs, Gro ρ h H ρ' h' H' → RHp Z ρ' h' H' → REnv Z ρ' h'.length H' σs σ' → XdA H ρ' h' H' d xs → RF Z ρ' h'.length H' fs xs → W (.ref (Z.G c)) (some d) σ' H'
  | .stuck => False
end
section
variable {Z : Cz} {W : WX} {ρ ρ' : Nat → Addr} {h h' : Hs} {H H' : Hp}
theorem PEnv.step {σs : SEnv} {h2 : Hs} {P : L2.St → Hp → Prop} (R : RHp Z ρ' h' H') (E : Gro ρ h H ρ' h' H') (p : PEnv Z ρ h H σs h2 P) : PEnv Z ρ' h' H' σs h2 P := fun ρ2 H2 σ2 E2 R2 q => p ρ2 H2 σ2 (E.trans R E2) R2 q
theorem PVal.step {v : SV} {h2 : Hs} {P : VK} (R : RHp Z ρ' h' H') (E : Gro ρ h H ρ' h' H') (p : PVal Z ρ h H v h2 P) : PVal Z ρ' h' H' v h2 P := fun ρ2 H2 σ2 E2 R2 q => p ρ2 H2 σ2 (E.trans R E2) R2 q
theorem PostS.step {r : OS} {D : Ends} (R : RHp Z ρ' h' H') (E : Gro ρ h H ρ' h' H') (p : PostS Z W ρ h H r D) : PostS Z W ρ' h' H' r D := by
  cases r with
  | nx σ h2 => exact PEnv.step R E p
  | rt v h2 => exact PVal.step R E p
  | bk σ h2 => exact PEnv.step R E p
  | ct σ h2 => exact PEnv.step R E p
  | exc c fs σ h2 => exact fun σ' ρ2 H2 d xs E2 R2 q e r => p σ' ρ2 H2 d xs (E.trans R E2) R2 q ⟨e.at', E.none R e.new, e.off⟩ r
  | stuck => exact p
/-- behind an expression -/
theorem PostS.expr {α β : Type} {rel : (Nat → Addr) → Nat → Hp → α → β → Prop} {r : Out α} {σs : SEnv} {σ : L2.St} {f : α → Hs → OS} {D : Ends} {Q : β → Hp → Prop} (hE : REnv Z ρ h.length H σs σ) (hR : RHp Z ρ h H) (p : PostS Z W ρ h H (r.st σs f) D)
    (k : ∀ v h1 ρ1 H1 x, r = .ok v h1 → Gro ρ h H ρ1 h1 H1 → RHp Z ρ1 h1 H1 → rel ρ1 h1.length H1 v x → PostS Z W ρ1 h1 H1 (f v h1) D → Q x H1) : PostG Z W ρ h H σ rel r Q := by
  cases r with
  | ok v h1 => exact fun ρ1 H1 x E R q => k v h1 ρ1 H1 x rfl E R q (PostS.step R E p)
  | exc c fs h1 => exact fun ρ1 H1 d xs E R e q => p σ ρ1 H1 d xs E R (hE.ext hR E) e q
  | stuck => exact p
theorem PostS.next {σs : SEnv} {σ : L2.St} {D : Ends} (hE : REnv Z ρ h.length H σs σ) (hR : RHp Z ρ h H) (p : PostS Z W ρ h H (.nx σs h) D) : D.nx σ H := p ρ H σ Gro.refl hR hE
end
section
variable (X : Cx) (G : Nat → Addr) (W : WX)
structure SS (st : Stmt) (r : SF) : Prop where of ::
  run : ∀ ρ σs h σ H D, REnv (zOf X G) ρ h.length H σs σ → RHp (zOf X G) ρ h H → PostS (zOf X G) W ρ h H (r σs h) D → tAnyS X st D σ H
instance (st : Stmt) (r : SF) : CoeFun (SS X G W st r) fun _ => ∀ ρ σs h σ H D, REnv (zOf X G) ρ h.length H σs σ → RHp (zOf X G) ρ h H → PostS (zOf X G) W ρ h H (r σs h) D → tAnyS X st D σ H := ⟨SS.run⟩
structure SSs (st : List Stmt) (r : SF) : Prop where of ::
  run : ∀ ρ σs h σ H D, REnv (zOf X G) ρ h.length H σs σ → RHp (zOf X G) ρ h H → PostS (zOf X G) W ρ h H (r σs h) D → tAnySs X st D σ H
instance (st : List Stmt) (r : SF) : CoeFun (SSs X G W st r) fun _ => ∀ ρ σs h σ H D, REnv (zOf X G) ρ h.length H σs σ → RHp (zOf X G) ρ h H → PostS (zOf X G) W ρ h H (r σs h) D → tAnySs X st D σ H := ⟨SSs.run⟩
end
section
variable {X : Cx} {G : Nat → Addr} {W : WX} {pos : Pos} {a b c e : Expr} {ra rb rc : EF} {tc : SEnv → Hs → Out Bool} {st : Stmt} {sts : List Stmt} {r1 r2 : SF}
def sNil : SF := fun σ h => .nx σ h
def sSeq (r1 r2 : SF) : SF := fun σ h => (r1 σ h).seq r2
theorem ss_nil : SSs X G W [] sNil := .of fun ρ σs h σ H D hE hR hP => any_pss pss_nil (PostS.next hE hR hP)
theorem seq_post {Z : Cz} {ρ : Nat → Addr} {h : Hs} {H : Hp} {r : OS} {D : Ends} {P : L2.St → Hp → Prop} (p : PostS Z W ρ h H (r.seq r2) D)
    (k : ∀ σs h1 ρ1 H1 σ, Gro ρ h H ρ1 h1 H1 → RHp Z ρ1 h1 H1 → REnv Z ρ1 h1.length H1 σs σ → PostS Z W ρ1 h1 H1 (r2 σs h1) D → P σ H1) : PostS Z W ρ h H r { D with nx := P } := by
  cases r with
  | nx σ h1 => exact fun ρ1 H1 σ1 E R q => k σ h1 ρ1 H1 σ1 E R q (PostS.step R E p)
  | rt v h1 => exact p
  | bk σ h1 => exact p
  | ct σ h1 => exact p
  | exc c fs σ h1 => exact p
  | stuck => exact p
theorem ss_cons (s1 : SS X G W st r1) (s2 : SSs X G W sts r2) : SSs X G W (st :: sts) (sSeq r1 r2) := .of fun ρ σs h σ H D hE hR hP =>
  any_pss (pss_cons ps_any pss_any) (s1 ρ σs h σ H _ hE hR (seq_post hP fun σs1 h1 ρ1 H1 σ1 E1 R1 q1 p1 => s2 ρ1 σs1 h1 σ1 H1 D q1 R1 p1))
theorem ss_one (s1 : SS X G W st r1) : SSs X G W [st] r1 := .of fun ρ σs h σ H D hE hR hP => any_pss (pss_one ps_any) (s1 ρ σs h σ H D hE hR hP)
theorem ss_pass : SS X G W (.Pass pos) sNil := .of fun ρ σs h σ H D hE hR hP => any_ps ps_pass (PostS.next hE hR hP)
def sBreak : SF := fun σ h => .bk σ h
def sCont : SF := fun σ h => .ct σ h
theorem ss_break : SS X G W (.Break pos) sBreak := .of fun ρ σs h σ H D hE hR hP => any_ps ps_break (hP ρ H σ Gro.refl hR hE)
theorem ss_continue : SS X G W (.Continue pos) sCont := .of fun ρ σs h σ H D hE hR hP => any_ps ps_continue (hP ρ H σ Gro.refl hR hE)
def sRet (ra : EF) : SF := fun σ h => (ra σ h).st σ fun v h => .rt v h
theorem ss_ret (s : SE X G W e ra) : SS X G W (.Return (some e) pos) (sRet ra) := .of fun ρ σs h σ H D hE hR hP =>
  any_ps (ps_ret pe_any) (s ρ σs h σ H _ hE hR (PostS.expr hE hR hP fun v h1 ρ1 H1 x _ E1 R1 v1 p1 => p1 ρ1 H1 x Gro.refl R1 v1))
def sRetN : SF := fun _ h => .rt .non h
theorem ss_retN : SS X G W (.Return none pos) sRetN := .of fun ρ σs h σ H D hE hR hP => any_ps ps_retN (hP ρ H .non Gro.refl hR .non)
def sExpr (ra : EF) : SF := fun σ h => (ra σ h).st σ fun _ h => .nx σ h
theorem ss_expr (s : SE X G W e ra) (hs : swapsWith e none pos.line X.env = pure false := by rfl) : SS X G W (.Expr e pos) (sExpr ra) := .of fun ρ σs h σ H D hE hR hP =>
  any_ps (ps_expr pe_any hs) (s ρ σs h σ H _ hE hR (PostS.expr hE hR hP fun v h1 ρ1 H1 x _ E1 R1 v1 p1 => p1 ρ1 H1 σ Gro.refl R1 (hE.ext hR E1)))
def sIf (t : SEnv → Hs → Out Bool) (r1 r2 : SF) : SF := fun σ h => (t σ h).st σ fun k h => if k = true then r1 σ h else r2 σ h
theorem ss_if {as bs : List Stmt} (s : ST X G W c tc) (s1 : SSs X G W as r1) (s2 : SSs X G W bs r2) : SS X G W (.If c as bs pos) (sIf tc r1 r2) := .of fun ρ σs h σ H D hE hR hP =>
  any_ps (ps_if pt_any pss_any pss_any) (s ρ σs h σ H _ hE hR (PostS.expr hE hR hP fun k h1 ρ1 H1 k' _ E1 R1 e p1 => by
    have e' : k = k' := e
    subst e'
    cases k with
    | true => rw [if_pos rfl] at p1 ⊢; exact s1 ρ1 σs h1 σ H1 D (hE.ext hR E1) R1 p1
    | false => rw [if_neg Bool.false_ne_true] at p1 ⊢; exact s2 ρ1 σs h1 σ H1 D (hE.ext hR E1) R1 p1))

/-! ### targets -/
abbrev GF := SV → SEnv → Option SEnv
abbrev GsF := List SV → SEnv → Option SEnv
def tAnyG (X : Cx) (tg : Expr) : TG := fun v σ H Q => ∀ (pins : List (Addr × Obj)) (s : Shared) (u : Value), Inv X pins σ H s → RelV v u → wpAny (model X.prog X.w) X.A (assign tg X.env u) (fun _ s' => ∃ σ' H', Inv X pins σ' H' s' ∧ Q σ' H') X.xe s
def tAnyGs (X : Cx) (tgs : List Expr) : TGs := fun vs σ H Q => ∀ (pins : List (Addr × Obj)) (s : Shared) (us : List Value), Inv X pins σ H s → Vals vs us → wpAny (model X.prog X.w) X.A (assignInOrder ((assignEach tgs X.env).map (·.2)) us) (fun _ s' => ∃ σ' H', Inv X pins σ' H' s' ∧ Q σ' H') X.xe s
theorem pg_any {tg : Expr} : PG X tg (tAnyG X tg) := ⟨fun pins s σ H v u Q I r h => h pins s u I r⟩
theorem pgs_any {tgs : List Expr} : PGs X tgs (tAnyGs X tgs) := ⟨fun pins s σ H v u Q I r h => h pins s u I r⟩
/-- a target: what it stores; it changes no object -/
def WSame (is : List Nat) (σ σ' : L2.St) : Prop := ∀ vs : List Nat, (∀ i ∈ is, i ∈ vs) → wipe σ' vs = wipe σ vs
structure SG (X : Cx) (G : Nat → Addr) (tg : Expr) (g : GF) (is : List Nat) : Prop where of ::
  run : ∀ ρ v σs σs' n σ H x P, REnv (zOf X G) ρ n H σs σ → RV (zOf X G) ρ n H v x → g v σs = some σs' → (∀ σ', WSame is σ σ' → REnv (zOf X G) ρ n H σs' σ' → P σ' H) → tAnyG X tg x σ H P
instance (X : Cx) (G : Nat → Addr) (tg : Expr) (g : GF) (is : List Nat) : CoeFun (SG X G tg g is) fun _ => ∀ ρ v σs σs' n σ H x P, REnv (zOf X G) ρ n H σs σ → RV (zOf X G) ρ n H v x → g v σs = some σs' → (∀ σ', WSame is σ σ' → REnv (zOf X G) ρ n H σs' σ' → P σ' H) → tAnyG X tg x σ H P := ⟨SG.run⟩
structure SGs (X : Cx) (G : Nat → Addr) (tgs : List Expr) (g : GsF) (is : List Nat) : Prop where of ::
  run : ∀ ρ vs σs σs' n σ H xs P, REnv (zOf X G) ρ n H σs σ → RVs (zOf X G) ρ n H vs xs → g vs σs = some σs' → (∀ σ', WSame is σ σ' → REnv (zOf X G) ρ n H σs' σ' → P σ' H) → tAnyGs X tgs xs σ H P
instance (X : Cx) (G : Nat → Addr) (tgs : List Expr) (g : GsF) (is : List Nat) : CoeFun (SGs X G tgs g is) fun _ => ∀ ρ vs σs σs' n σ H xs P, REnv (zOf X G) ρ n H σs σ → RVs (zOf X G) ρ n H vs xs → g vs σs = some σs' → (∀ σ', WSame is σ σ' → REnv (zOf X G) ρ n H σs' σ' → P σ' H) → tAnyGs X tgs xs σ H P := ⟨SGs.run⟩
def gNm (i : Nat) : GF := fun v σ => some (σ.set i (some v))
def gsN : GsF := fun vs σ => match vs with
  | [] => some σ
  | _ => none
def gsC (g : GF) (gs : GsF) : GsF := fun vs σ => match vs with
  | v :: r => (g v σ).bind fun σ' => gs r σ'
  | [] => none
def gTp (n : Nat) (gs : GsF) : GF := fun v σ => match v with
  | .tup xs => if xs.length = n then gs xs σ else none
  | _ => none
theorem renv_set {Z : Cz} {ρ : Nat → Addr} {n : Nat} {H : Hp} {σs : SEnv} {σ : L2.St} {v : SV} {x : V} (hE : REnv Z ρ n H σs σ) (r : RV Z ρ n H v x) (i : Nat) : REnv Z ρ n H (σs.set i (some v)) (σ.set i (some x)) where
  len := by simp [hE.len]
  val := fun j y e => by
    by_cases hj : i = j
    · subst hj
      have hi : i < σs.length := by
        have := (List.getElem?_eq_some_iff.mp e).1
        simpa using this
      rw [List.getElem?_set_self hi] at e
      cases e
      exact ⟨x, List.getElem?_set_self (by rw [← hE.len]; exact hi), r⟩
    · rw [List.getElem?_set_ne hj] at e
      obtain ⟨u, e1, r1⟩ := hE.val j y e
      exact ⟨u, by rw [List.getElem?_set_ne hj]; exact e1, r1⟩
theorem wipe_set {i : Nat} {o : Option V} : ∀ (vs : List Nat) (σ : L2.St), i ∈ vs → wipe (σ.set i o) vs = wipe σ vs
  | [], _, h => nomatch h
  | v :: vs, σ, h => by
    unfold wipe
    by_cases hi : i ∈ vs
    · rw [wipe_set vs σ hi]
    · have e : i = v := by rcases List.mem_cons.mp h with e | e; exact e; exact absurd e hi
      subst e
      have comm : ∀ (ws : List Nat), i ∉ ws → ∀ σ : L2.St, wipe (σ.set i o) ws = (wipe σ ws).set i o := by
        intro ws
        induction ws with
        | nil => intro _ σ; rfl
        | cons w ws ih =>
          intro hn σ
          unfold wipe
          rw [ih (fun z => hn (List.mem_cons_of_mem _ z)) σ, List.set_comm _ _ (fun z => hn (by rw [z]; exact List.mem_cons_self))]
      rw [comm vs hi σ, List.set_set]
theorem wsame_set {σ : L2.St} {o : Option V} (i : Nat) : WSame [i] σ (σ.set i o) := fun vs h => wipe_set vs σ (h i (by simp))
theorem WSame.refl {σ : L2.St} : WSame [] σ σ := fun _ _ => rfl
theorem WSame.app {is js : List Nat} {σ σ1 σ2 : L2.St} (a : WSame is σ σ1) (b : WSame js σ1 σ2) : WSame (is ++ js) σ σ2 := fun vs h => (b vs fun i hi => h i (by simp [hi])).trans (a vs fun i hi => h i (by simp [hi]))
theorem sg_name (ok : XOs X W) (i : Nat) {x : Str} (hi : X.N[i]? = some x := by rfl) (hx : Loc X.env.scope x := by first | exact .inl rfl | exact .inr rfl) (hf : X.fn x = true ∨ X.env.scope.names.lookup x = some .local := by first | exact .inl rfl | exact .inr rfl) : SG X G (.Name x pos) (gNm i) [i] :=
  .of fun ρ v σs σs' n σ H x P hE r e k pins s u I ru => (pg_name ok.nd hi hx hf).run pins s σ H x u P I ru (by cases e; exact k _ (wsame_set i) (renv_set hE r i))
theorem sgs_nil : SGs X G [] gsN [] := .of fun ρ vs σs σs' n σ H xs P hE r e k pins s u I ru => pgs_nil.run pins s σ H xs u P I ru (by
  unfold gsN at e
  split at e
  · cases r; cases e; exact ⟨rfl, k _ WSame.refl hE⟩
  · cases e)
theorem sgs_cons {tg : Expr} {tgs : List Expr} {g : GF} {gs : GsF} {is js : List Nat} (s1 : SG X G tg g is) (s2 : SGs X G tgs gs js) (hs : (assignEach (tg :: tgs) X.env).map (·.2) = assign tg X.env :: (assignEach tgs X.env).map (·.2) := by rfl) : SGs X G (tg :: tgs) (gsC g gs) (is ++ js) :=
  .of fun ρ vs σs σs' n σ H xs P hE r e k pins s u I ru => (pgs_cons pg_any pgs_any hs).run pins s σ H xs u P I ru (by
    unfold gsC at e
    split at e
    · cases r with | cons r1 t1 => ?_
      rw [Option.bind_eq_some_iff] at e
      obtain ⟨σ1, e1, e2⟩ := e
      exact ⟨_, _, rfl, s1 ρ _ σs σ1 n σ H _ _ hE r1 e1 fun σ' w1 hE' => s2 ρ _ σ1 σs' n σ' H _ P hE' t1 e2 fun σ2 w2 => k σ2 (w1.app w2)⟩
    · cases e)
theorem sg_tup (ok : XOk X W) {es : List Expr} {k : Nat} {gs : GsF} {n : Nat} {is : List Nat} (s2 : SGs X G es gs is) (hn : (assignEach es X.env).length = n := by rfl) (hst : (assignEach es X.env).findIdx? (·.1) = none := by rfl) : SG X G (.Tuple es k pos) (gTp n gs) is :=
  .of fun ρ v σs σs' m σ H x P hE r e k pins s u I ru => (pg_tup ok.calm pgs_any hn hst).run pins s σ H x u P I ru (by
    unfold gTp at e
    split at e
    · cases r with | tup q t => ?_
      split at e
      · rename_i hz
        exact ⟨_, _, rfl, q, by rw [← t.length]; exact hz, s2 ρ _ σs σs' m σ H _ P hE t e k⟩
      · cases e
    · cases e)
def sAsg (ra : EF) (g : GF) : SF := fun σ h => (ra σ h).st σ fun v h => match g v σ with
  | some σ' => .nx σ' h
  | none => .stuck
theorem asg_post {σs : SEnv} {ρ : Nat → Addr} {h : Hs} {H : Hp} {σ : L2.St} {D : Ends} {g : GF} {tg : Expr} {is : List Nat} (hE : REnv (zOf X G) ρ h.length H σs σ) (hR : RHp (zOf X G) ρ h H) (sg : SG X G tg g is) (hP : PostS (zOf X G) W ρ h H (sAsg ra g σs h) D) :
    PostE (zOf X G) W ρ h H σ (ra σs h) (fun x H1 => tAnyG X tg x σ H1 D.nx) := PostS.expr hE hR hP fun v h1 ρ1 H1 x _ E1 R1 v1 p1 => by
  split at p1
  · rename_i σ' e
    exact sg ρ1 v σs σ' _ σ H1 x D.nx (hE.ext hR E1) v1 e fun σ2 _ q => p1 ρ1 H1 σ2 Gro.refl R1 q
  · exact p1.elim
theorem ss_asg {tg : Expr} {g : GF} {is : List Nat} (s : SE X G W e ra) (sg : SG X G tg g is) (hs : swapsWithSole [tg] e pos.line X.env = pure false := by rfl) (hw : swappedStores [tg] e X.env = pure none := by rfl)
    (h1 : (assignEach [tg] X.env).map (·.2) = [assign tg X.env] := by rfl) : SS X G W (.Assign [tg] e pos) (sAsg ra g) := .of fun ρ σs h σ H D hE hR hP =>
  any_ps (ps_asg pe_any pg_any hs hw h1) (s ρ σs h σ H _ hE hR (asg_post hE hR sg hP))
/-- x op= e -/
def sAug (i : Nat) (f : SV → SV → Hs → Out SV) (rb : EF) : SF := fun σ h => match σ[i]? with
  | some (some x) => (rb σ h).st σ fun y h => (f x y h).st σ fun z h => .nx (σ.set i (some z)) h
  | _ => .stuck
theorem ss_aug (ok : XOs X W) (i : Nat) {x : Str} {op : Operator} {f : SV → SV → Hs → Out SV} {p2 : Pos} (s : SE X G W e rb) (ho : OpS X G W (inplaceOp op) f) (hi : X.N[i]? = some x := by rfl) (hx : Loc X.env.scope x := by first | exact .inl rfl | exact .inr rfl)
    (hf : X.fn x = true ∨ X.env.scope.names.lookup x = some .local := by first | exact .inl rfl | exact .inr rfl) : SS X G W (.AugAssign (.Name x p2) op e pos) (sAug i f rb) := .of fun ρ σs h σ H D hE hR hP => by
  unfold sAug at hP
  split at hP
  · rename_i v e1
    obtain ⟨y, e2, r2⟩ := hE.val i v e1
    refine any_ps (ps_aug (ti := OpB X (inplaceOp op)) ok.nd hi hx pe_any (fun pins s σ H x y v u Q I r1 r2 q => q pins s σ v u I r1 r2) hf) ?_
    refine ⟨y, e2, s ρ σs h σ H _ hE hR (PostS.expr hE hR hP fun w h1 ρ1 H1 z _ E1 R1 v1 p1 => ?_)⟩
    refine ho ρ1 h1 H1 σ v w y z _ R1 (r2.ext hR E1) v1 (PostS.expr (hE.ext hR E1) R1 p1 fun t h2 ρ2 H2 t' _ E2 R2 v2 p2 => ?_)
    exact p2 ρ2 H2 _ Gro.refl R2 (renv_set ((hE.ext hR E1).ext R1 E2) v2 i)
  · exact hP.elim

/-! ### what is left behind a turn -/
def cutE (n : Nat) : SEnv → SEnv → SEnv
  | _, [] => []
  | [], _ :: σ => none :: cutE n [] σ
  | a :: σ0, b :: σ => (match a, b with
    | some _, some v => if v.mx ≤ n then some v else none
    | _, _ => none) :: cutE n σ0 σ
theorem cutE_len (n : Nat) : ∀ σ0 σ : SEnv, (cutE n σ0 σ).length = σ.length
  | _, [] => by unfold cutE; rfl
  | [], _ :: σ => by unfold cutE; simp [cutE_len n [] σ]
  | _ :: σ0, _ :: σ => by unfold cutE; simp [cutE_len n σ0 σ]
theorem cutE_val (n : Nat) : ∀ (σ0 σ : SEnv) (j : Nat) (x : SV), (cutE n σ0 σ)[j]? = some (some x) → σ[j]? = some (some x) ∧ x.mx ≤ n
  | _, [], j, x, e => by unfold cutE at e; simp at e
  | [], b :: σ, 0, x, e => by unfold cutE at e; simp at e
  | [], b :: σ, j + 1, x, e => by
    unfold cutE at e
    have := cutE_val n [] σ j x (by simpa using e)
    simpa using this
  | a :: σ0, b :: σ, 0, x, e => by
    unfold cutE at e
    simp only [List.getElem?_cons_zero, Option.some.injEq] at e
    split at e
    · split at e
      · rename_i hz; cases e; exact ⟨rfl, hz⟩
      · cases e
    · cases e
  | a :: σ0, b :: σ, j + 1, x, e => by
    unfold cutE at e
    have := cutE_val n σ0 σ j x (by simpa using e)
    simpa using this
def gcS (σ0 : SEnv) (h0 : Hs) (σ : SEnv) (h : Hs) : SEnv × Hs :=
  if (h.take h0.length).all (fun o => decide (o.mx ≤ h0.length)) = true ∨ h.take h0.length = h0 then (cutE h0.length σ0 σ, h.take h0.length) else (σ, h)
section
variable {Z : Cz} {ρ0 ρ : Nat → Addr} {h0 h : Hs} {H0 H : Hp}
theorem cut_ok (R0 : RHp Z ρ0 h0 H0) (R : RHp Z ρ h H) (E : Gro ρ0 h0 H0 ρ h H) (c : (h.take h0.length).all (fun o => decide (o.mx ≤ h0.length)) = true ∨ h.take h0.length = h0) : RHp Z ρ (h.take h0.length) H := by
  refine R.cut E.len fun o ho => ?_
  rcases c with c | c
  · exact of_decide_eq_true (List.all_eq_true.mp c o ho)
  · rw [c] at ho
    obtain ⟨i, hi⟩ := List.mem_iff_getElem?.mp ho
    exact (R0.ob i o hi).mx_le
theorem gc_ok {σ0 σs : SEnv} {σ : L2.St} (R0 : RHp Z ρ0 h0 H0) (R : RHp Z ρ h H) (E : Gro ρ0 h0 H0 ρ h H) (q : REnv Z ρ h.length H σs σ) :
    RHp Z ρ (gcS σ0 h0 σs h).2 H ∧ REnv Z ρ (gcS σ0 h0 σs h).2.length H (gcS σ0 h0 σs h).1 σ ∧ Gro ρ0 h0 H0 ρ (gcS σ0 h0 σs h).2 H := by
  unfold gcS
  split
  · rename_i c
    have hl : (h.take h0.length).length = h0.length := by rw [List.length_take]; have := E.len; omega
    refine ⟨cut_ok R0 R E c, ⟨by rw [cutE_len]; exact q.len, fun j x e => ?_⟩, E.cut⟩
    obtain ⟨e1, e2⟩ := cutE_val _ _ _ _ _ e
    obtain ⟨v, e3, r⟩ := q.val j x e1
    exact ⟨v, e3, r.cut (by rw [hl]; exact e2)⟩
  · exact ⟨R, q, E⟩
end

/-! ### loops -/
abbrev IF := SEnv → Hs → Out (List SV × (Hs → Bool))
structure ItOk (Z : Cz) (J : It) (xs : List SV) (chk : Hs → Bool) (ρ0 : Nat → Addr) (h0 : Hs) (H0 : Hp) : Prop where
  turn : ∀ i x ρ h H, Gro ρ0 h0 H0 ρ h H → RHp Z ρ h H → chk h = true → xs[i]? = some x → J.go i H ∧ ∀ v H', J.yld i H v H' → RHp Z ρ h H' ∧ Gro ρ h H ρ h H' ∧ RV Z ρ h.length H' x v
  stop : ∀ ρ h H, Gro ρ0 h0 H0 ρ h H → RHp Z ρ h H → chk h = true → J.stop xs.length H
def tAnyI (X : Cx) (tg iter : Expr) : TI := fun σ H R => ∀ (pins : List (Addr × Obj)) (s : Shared), Inv X pins σ H s → wpAny (model X.prog X.w) X.A (eval iter X.env) (fun v s1 => wpAny (model X.prog X.w) X.A (pyIter v) (PIE X pins σ tg R) X.xe s1) X.xe s
theorem pi_any {tg iter : Expr} : PI X tg iter (tAnyI X tg iter) := ⟨fun pins s σ H R I h => h pins s I⟩
abbrev relI (Z : Cz) : (Nat → Addr) → Nat → Hp → (List SV × (Hs → Bool)) → It → Prop := fun ρ n H p J => ∀ h0 : Hs, h0.length = n → RHp Z ρ h0 H → ItOk Z J p.1 p.2 ρ h0 H
structure SI (X : Cx) (G : Nat → Addr) (W : WX) (tg iter : Expr) (r : IF) : Prop where of ::
  run : ∀ ρ σs h σ H R, REnv (zOf X G) ρ h.length H σs σ → RHp (zOf X G) ρ h H → PostG (zOf X G) W ρ h H σ (relI (zOf X G)) (r σs h) R → tAnyI X tg iter σ H R
instance (X : Cx) (G : Nat → Addr) (W : WX) (tg iter : Expr) (r : IF) : CoeFun (SI X G W tg iter r) fun _ => ∀ ρ σs h σ H R, REnv (zOf X G) ρ h.length H σs σ → RHp (zOf X G) ρ h H → PostG (zOf X G) W ρ h H σ (relI (zOf X G)) (r σs h) R → tAnyI X tg iter σ H R := ⟨SI.run⟩
def forGo (σ0 : SEnv) (h0 : Hs) (g : GF) (body : SF) (chk : Hs → Bool) : List SV → SEnv → Hs → OS
  | [], σ, h => if chk h = true then .nx σ h else .stuck
  | x :: xs, σ, h => if chk h = true then (match g x σ with
    | none => .stuck
    | some σ1 => match body σ1 h with
      | .nx σ2 h2 => forGo σ0 h0 g body chk xs (gcS σ0 h0 σ2 h2).1 (gcS σ0 h0 σ2 h2).2
      | .ct σ2 h2 => forGo σ0 h0 g body chk xs (gcS σ0 h0 σ2 h2).1 (gcS σ0 h0 σ2 h2).2
      | .bk σ2 h2 => .nx σ2 h2
      | .rt v h2 => .rt v h2
      | .exc c fs σ2 h2 => .exc c fs σ2 h2
      | .stuck => .stuck) else .stuck
def sFor (ri : IF) (g : GF) (body : SF) : SF := fun σ h => (ri σ h).st σ fun p h => forGo σ h g body p.2 p.1 σ h
theorem ss_for {tg iter : Expr} {body : List Stmt} {ri : IF} {g : GF} {rb : SF} {is : List Nat} (ok : XOk X W) (si : SI X G W tg iter ri) (sg : SG X G tg g is) (sb : SSs X G W body rb)
    (hs : ∀ x, foldedSetIterable iter X.env x = pure x := by intro _; rfl) : SS X G W (.For tg iter body [] pos) (sFor ri g rb) := .of fun ρ σs h σ H D hE hR hP => by
  refine any_ps (ps_for ok.po ok.calm pi_any pg_any pss_any hs) (si ρ σs h σ H _ hE hR (PostS.expr hE hR hP fun p h1 ρ1 H1 J _ E1 R1 hJ p1 => ?_))
  have hJ := hJ h1 rfl R1
  have hE1 := hE.ext hR E1
  refine ⟨fun i m σ' H' => m = p.1.length - i ∧ i ≤ p.1.length ∧ ∃ ρ2 σ2 h2, Gro ρ1 h1 H1 ρ2 h2 H' ∧ RHp (zOf X G) ρ2 h2 H' ∧ REnv (zOf X G) ρ2 h2.length H' σ2 σ' ∧ PostS (zOf X G) W ρ1 h1 H1 (forGo σs h1 g rb p.2 (p.1.drop i) σ2 h2) D,
    ⟨p.1.length, by simp, Nat.zero_le _, ρ1, σs, h1, Gro.refl, R1, hE1, p1⟩, ?_⟩
  rintro i m σ2 H2 ⟨rfl, hi, ρ2, σ2s, h2, E2, R2, q2, p2⟩
  by_cases hlt : i < p.1.length
  · right
    have ed : p.1.drop i = p.1[i] :: p.1.drop (i + 1) := by rw [List.drop_eq_getElem_cons hlt]
    rw [ed] at p2
    unfold forGo at p2
    split at p2
    · rename_i hc
      obtain ⟨hgo, hy⟩ := hJ.turn i p.1[i] ρ2 h2 H2 E2 R2 hc (by simp [hlt])
      refine ⟨hgo, fun σ' H' => ∃ ρ3 σ3 h3, Gro ρ1 h1 H1 ρ3 h3 H' ∧ RHp (zOf X G) ρ3 h3 H' ∧ REnv (zOf X G) ρ3 h3.length H' σ3 σ' ∧ PostS (zOf X G) W ρ1 h1 H1 (forGo σs h1 g rb p.2 (p.1.drop (i + 1)) σ3 h3) D,
        fun σ' H' q => ⟨p.1.length - (i + 1), by omega, rfl, hlt, q⟩, fun x H' y => ?_⟩
      obtain ⟨R3, E3, v3⟩ := hy x H' y
      split at p2
      · exact p2.elim
      · rename_i σ1 e1
        refine sg ρ2 _ σ2s σ1 _ σ2 H' x _ (q2.ext R2 E3) v3 e1 fun σ4 _ q4 => ?_
        have E23 := E2.trans R2 E3
        refine sb ρ2 σ1 h2 σ4 H' _ q4 R3 ?_
        have gc : ∀ (σ5 : SEnv) (h5 : Hs), PostS (zOf X G) W ρ1 h1 H1 (forGo σs h1 g rb p.2 (p.1.drop (i + 1)) (gcS σs h1 σ5 h5).1 (gcS σs h1 σ5 h5).2) D →
            PEnv (zOf X G) ρ2 h2 H' σ5 h5 (fun σ' H' => ∃ ρ3 σ3 h3, Gro ρ1 h1 H1 ρ3 h3 H' ∧ RHp (zOf X G) ρ3 h3 H' ∧ REnv (zOf X G) ρ3 h3.length H' σ3 σ' ∧ PostS (zOf X G) W ρ1 h1 H1 (forGo σs h1 g rb p.2 (p.1.drop (i + 1)) σ3 h3) D) :=
          fun σ5 h5 p5 ρ5 H5 σ5r E5 R5 q5 => by
            have E15 := E23.trans R3 E5
            obtain ⟨a1, a2, a3⟩ := gc_ok (σ0 := σs) R1 R5 E15 q5
            exact ⟨ρ5, _, _, a3, a1, a2, p5⟩
        cases hb : rb σ1 h2 with
        | nx σ5 h5 => rw [hb] at p2; exact gc σ5 h5 p2
        | ct σ5 h5 => rw [hb] at p2; exact gc σ5 h5 p2
        | bk σ5 h5 => rw [hb] at p2; exact PEnv.step R3 E23 p2
        | rt v h5 => rw [hb] at p2; exact PVal.step R3 E23 p2
        | exc c fs σ5 h5 => rw [hb] at p2; exact PostS.step (r := .exc c fs σ5 h5) R3 E23 p2
        | stuck => rw [hb] at p2; exact p2.elim
    · exact p2.elim
  · left
    have e : i = p.1.length := by omega
    subst e
    rw [List.drop_length] at p2
    unfold forGo at p2
    split at p2
    · rename_i hc
      exact ⟨hJ.stop ρ2 h2 H2 E2 R2 hc, p2 ρ2 H2 σ2 E2 R2 q2⟩
    · exact p2.elim
end
end Pz

set_option Elab.async false
set_option linter.all false
set_option maxRecDepth 100000
set_option maxHeartbeats 1000000
namespace Pz
open PySem PySem.Spec L2 RZ
section
variable {X : Cx} {G : Nat → Addr} {W : WX} {pos : Pos} {a b c e tg : Expr} {ra rb rc : EF} {es : List Expr} {re : LF}
/-! ### what is walked -/
theorem it_tup {Z : Cz} {ρ : Nat → Addr} {h : Hs} {H : Hp} {p : Addr} {xs : List SV} {vs : List V} (q : SqT Z.K H p vs) (t : RVs Z ρ h.length H xs vs) (R0 : RHp Z ρ h H) : ItOk Z (Itt Z.K p) xs (fun _ => true) ρ h H where
  turn := fun i x ρ2 h2 H2 E R _ hx => by
    obtain ⟨v, e1, r⟩ := t.get hx
    have q2 : SqT Z.K H2 p vs := SqT.ext (fun a o e k => E.kept R0 e k) q
    refine ⟨⟨vs, v, q2, e1⟩, fun u H' ⟨e2, hy⟩ => ?_⟩
    subst e2
    have := hy vs q2
    rw [e1] at this; cases this
    exact ⟨R, Gro.refl, r.ext R0 E⟩
  stop := fun ρ2 h2 H2 E R _ => ⟨vs, SqT.ext (fun a o e k => E.kept R0 e k) q, Nat.le_of_eq t.length.symm⟩
def chkL (a : Nat) (xs : List SV) : Hs → Bool := fun h => decide (h[a]? = some (.lst xs))
theorem it_lst {Z : Cz} {ρ : Nat → Addr} {h : Hs} {H : Hp} {a : Nat} {xs : List SV} (hi : a < h.length) : ItOk Z (Itl Z.K (ρ a)) xs (chkL a xs) ρ h H where
  turn := fun i x ρ2 h2 H2 E R hc hx => by
    have e0 := of_decide_eq_true hc
    obtain ⟨_, vs, f, t⟩ := R.lst e0
    rw [E.agree a hi] at f
    obtain ⟨v, e1, r⟩ := t.get hx
    refine ⟨⟨vs, v, SqL.of f, e1⟩, fun u H' ⟨e2, hy⟩ => ?_⟩
    subst e2
    have := hy vs (SqL.of f)
    rw [e1] at this; cases this
    exact ⟨R, Gro.refl, r⟩
  stop := fun ρ2 h2 H2 E R hc => by
    have e0 := of_decide_eq_true hc
    obtain ⟨_, vs, f, t⟩ := R.lst e0
    rw [E.agree a hi] at f
    exact ⟨vs, SqL.of f, Nat.le_of_eq t.length.symm⟩
theorem it_rng {Z : Cz} {ρ : Nat → Addr} {h : Hs} {H : Hp} {lo : Int} {n : Nat} : ItOk Z (Itr lo n) ((List.range n).map fun i => SV.int (lo + (i : Nat))) (fun _ => true) ρ h H where
  turn := fun i x ρ2 h2 H2 E R _ hx => by
    rw [List.getElem?_map, Option.map_eq_some_iff] at hx
    obtain ⟨j, e1, rfl⟩ := hx
    have hi : i < n := by have := (List.getElem?_eq_some_iff.mp e1).1; simpa using this
    rw [List.getElem?_range hi] at e1; cases e1
    refine ⟨hi, fun v H' ⟨e2, e3⟩ => ?_⟩
    subst e2 e3
    exact ⟨R, Gro.refl, .int _⟩
  stop := fun _ _ _ _ _ _ => by
    show n ≤ _
    simp
def chars (x : Str) : List SV := x.cps.toList.map fun c => SV.str ⟨#[c]⟩
theorem it_str {Z : Cz} {ρ : Nat → Addr} {h : Hs} {H : Hp} {z : Str} : ItOk Z (Its z) (chars z) (fun _ => true) ρ h H where
  turn := fun i x ρ2 h2 H2 E R _ hx => by
    unfold chars at hx
    rw [List.getElem?_map, Option.map_eq_some_iff] at hx
    obtain ⟨c, e1, rfl⟩ := hx
    have hi : i < z.cps.size := by have := (List.getElem?_eq_some_iff.mp e1).1; simpa using this
    refine ⟨hi, fun v H' ⟨e2, d, e3, e4⟩ => ?_⟩
    subst e2 e4
    have : d = c := by
      rw [Array.getElem?_toList] at e1
      rw [e1] at e3; cases e3; rfl
    subst this
    exact ⟨R, Gro.refl, .str _⟩
  stop := fun _ _ _ _ _ _ => by
    show z.cps.size ≤ _
    simp [chars]
/-- a range -/
def iRng1 (re : LF) : IF := fun σ h => (re σ h).bnd fun vs h => match vs with
  | [.int j] => if -(2 ^ 62) ≤ j ∧ j < 2 ^ 62 then .ok ((List.range j.toNat).map fun i => SV.int (0 + (i : Nat)), fun _ => true) h else .stuck
  | _ => .stuck
def iRng2 (re : LF) : IF := fun σ h => (re σ h).bnd fun vs h => match vs with
  | [.int i, .int j] => if -(2 ^ 62) ≤ i ∧ i < 2 ^ 62 ∧ -(2 ^ 62) ≤ j ∧ j < 2 ^ 62 then .ok ((List.range (j - i).toNat).map fun k => SV.int (i + (k : Nat)), fun _ => true) h else .stuck
  | _ => .stuck
theorem si_pi {iter : Expr} {t : TI} {r : IF} (p : PI X tg iter t) (k : ∀ ρ σs h σ H R, REnv (zOf X G) ρ h.length H σs σ → RHp (zOf X G) ρ h H → PostG (zOf X G) W ρ h H σ (relI (zOf X G)) (r σs h) R → t σ H R) : SI X G W tg iter r :=
  .of fun ρ σs h σ H R hE hR hP pins s I => p.run pins s σ H R I (k ρ σs h σ H R hE hR hP)
theorem si_rng1 {p : Pos} (hm : X.mg "range" = none) (sl : SA X G W [a] re) (hg : Gl X "range" := by rfl) (hs : starEach [a] X.env = [(false, eval a X.env)] := by rfl) : SI X G W tg (.Call (.Name "range" p) [a] [] pos) (iRng1 re) :=
  si_pi (pi_range1 hg hm pa_any hs) fun ρ σs h σ H R hE hR hP => sl ρ σs h σ H _ hE hR (hP.fst fun vs h1 ρ1 H1 xs _ E1 R1 v1 p1 => by
    split at p1
    · obtain ⟨x, rfl, r⟩ := rvs1 v1
      cases r
      split at p1
      · rename_i hz
        exact ⟨_, rfl, hz.1, hz.2, PostG.ret R1 (fun h0 _ _ => it_rng) p1⟩
      · exact p1.elim
    · exact p1.elim)
theorem si_rng2 {p : Pos} (hm : X.mg "range" = none) (sl : SA X G W [a, b] re) (hg : Gl X "range" := by rfl) (hs : starEach [a, b] X.env = [(false, eval a X.env), (false, eval b X.env)] := by rfl) (hs2 : starEach [b] X.env = [(false, eval b X.env)] := by rfl) : SI X G W tg (.Call (.Name "range" p) [a, b] [] pos) (iRng2 re) :=
  si_pi (pi_range2 hg hm pa_any hs hs2) fun ρ σs h σ H R hE hR hP => sl ρ σs h σ H _ hE hR (hP.fst fun vs h1 ρ1 H1 xs _ E1 R1 v1 p1 => by
    split at p1
    · obtain ⟨x, y, rfl, r, r2⟩ := rvs2 v1
      cases r; cases r2
      split at p1
      · rename_i hz
        exact ⟨_, _, rfl, hz, PostG.ret R1 (fun h0 _ _ => it_rng) p1⟩
      · exact p1.elim
    · exact p1.elim)
/-- a list, a tuple, a text, the script -/
def iSeq (ra : EF) : IF := fun σ h => (ra σ h).bnd fun v h => match v with
  | .tup xs => .ok (xs, fun _ => true) h
  | .ref a => (match h[a]? with
    | some (.lst xs) => .ok (xs, chkL a xs) h
    | _ => .stuck)
  | .str x => .ok (chars x, fun _ => true) h
  | _ => .stuck
theorem walk_lst {pins : List (Addr × Obj)} {σ : L2.St} {H : Hp} {s : Shared} {p : Addr} {vs : List V} {R : It → Hp → Prop} (I : Inv X pins σ H s) (q : SqL X.K H p vs) (k : R (Itl X.K p) H) : wpAny (model X.prog X.w) X.A (pyIter (.ref p)) (PIE X pins σ tg R) X.xe s := by
  obtain ⟨its, _, pl, _⟩ := I.list q
  exact wpAny_pyIter_list pl.isList (pi_one (tk := s.toks) I _ (turn_list p _) ⟨_, Heap.get?_push_size _ rfl, rfl, rfl⟩ k)
theorem walk_tup {pins : List (Addr × Obj)} {σ : L2.St} {H : Hp} {s : Shared} {p : Addr} {vs : List V} {R : It → Hp → Prop} (I : Inv X pins σ H s) (q : SqT X.K H p vs) (k : R (Itt X.K p) H) : wpAny (model X.prog X.w) X.A (pyIter (.ref p)) (PIE X pins σ tg R) X.xe s := by
  obtain ⟨its, _, pl, _⟩ := I.tuple q
  exact wpAny_pyIter_tuple (show s.heap.IsTuple p its.toArray from pl) (pi_one (tk := s.toks) I _ (turn_tuple p _) ⟨_, Heap.get?_push_size _ rfl, rfl, rfl⟩ k)
theorem walk_str {pins : List (Addr × Obj)} {σ : L2.St} {H : Hp} {s : Shared} {z : Str} {t : Tok} {R : It → Hp → Prop} (I : Inv X pins σ H s) (k : R (Its z) H) : wpAny (model X.prog X.w) X.A (pyIter (.str z t)) (PIE X pins σ tg R) X.xe s := by
  cases hz : z.cps.all (· < 128)
  · exact wpAny_pyIter_wide hz (pi_one (tk := s.toks) I _ (turn_str _ z t "str_iterator" (.inr rfl)) ⟨_, Heap.get?_push_size _ rfl, rfl, rfl⟩ k)
  · exact wpAny_pyIter_ascii hz (pi_one (tk := s.toks) I _ (turn_str _ z t "str_ascii_iterator" (.inl rfl)) ⟨_, Heap.get?_push_size _ rfl, rfl, rfl⟩ k)
theorem si_seq (sa : SE X G W a ra) : SI X G W tg a (iSeq ra) := .of fun ρ σs h σ H R hE hR hP pins s I => by
  refine thn (sa ρ σs h σ H (fun x H1 => ∀ (pins : List (Addr × Obj)) (s : Shared) (u : Value), Inv X pins σ H1 s → RelV x u → wpAny (model X.prog X.w) X.A (pyIter u) (PIE X pins σ tg R) X.xe s) hE hR (hP.fst fun v h1 ρ1 H1 x _ E1 R1 v1 p1 pins s u I rx => ?_) pins s I) fun v s1 ⟨x, H1, I1, r1, q1⟩ => q1 pins s1 v I1 r1
  split at p1
  · cases v1 with | tup q t => ?_
    cases rx
    exact walk_tup I q (PostG.ret R1 (fun h0 e0 R0 => it_tup q (by rw [e0]; exact t) R0) p1)
  · cases v1 with | ref hi => ?_
    cases rx
    split at p1
    · rename_i e0
      obtain ⟨_, vs, f, t⟩ := R1.lst e0
      exact walk_lst I (SqL.of f) (PostG.ret R1 (fun h0 e1 R0 => it_lst (by rw [e1]; exact hi)) p1)
    · exact p1.elim
  · cases v1
    obtain ⟨t, rfl⟩ := rx
    exact walk_str I (PostG.ret R1 (fun h0 _ _ => it_str) p1)
  · exact p1.elim
/-- enumerate(list) with a pair of names -/
theorem it_enum {Z : Cz} {ρ : Nat → Addr} {h : Hs} {H : Hp} {a : Nat} {xs : List SV} (hi : a < h.length) : ItOk Z (Ite Z.K (ρ a)) (xs.mapIdx fun i x => SV.tup [.int (i : Nat), x]) (chkL a xs) ρ h H where
  turn := fun i x ρ2 h2 H2 E R hc hx => by
    have e0 := of_decide_eq_true hc
    obtain ⟨_, vs, f, t⟩ := R.lst e0
    rw [E.agree a hi] at f
    rw [List.getElem?_mapIdx, Option.map_eq_some_iff] at hx
    obtain ⟨y, ey, rfl⟩ := hx
    obtain ⟨v, e1, r⟩ := t.get ey
    refine ⟨⟨vs, v, SqL.of f, e1⟩, fun u H' ⟨T, y', e2, hT, e3, hy⟩ => ?_⟩
    subst e2 e3
    have := hy vs (SqL.of f)
    rw [e1] at this; cases this
    refine ⟨R.lay hT, Gro.lay hT, .tup (SqT.of upd_same) (.cons (.int _) (.cons ?_ .nil))⟩
    exact r.ext' (keep_lay hT) (Nat.le_refl _) fun _ _ => rfl
  stop := fun ρ2 h2 H2 E R hc => by
    have e0 := of_decide_eq_true hc
    obtain ⟨_, vs, f, t⟩ := R.lst e0
    rw [E.agree a hi] at f
    exact ⟨vs, SqL.of f, by rw [List.length_mapIdx]; exact Nat.le_of_eq t.length.symm⟩
def iEnum (re : LF) : IF := fun σ h => (re σ h).bnd fun vs h => match vs with
  | [.ref a] => (match h[a]? with
    | some (.lst xs) => .ok (xs.mapIdx fun i x => SV.tup [.int (i : Nat), x], chkL a xs) h
    | _ => .stuck)
  | _ => .stuck
theorem si_enum {p tpos : Pos} {elts : List Expr} {kk : Nat} (hm : X.mg "enumerate" = none) (sl : SA X G W [a] re) (hg : Gl X "enumerate" := by rfl) (hs : starEach [a] X.env = [(false, eval a X.env)] := by rfl) : SI X G W (.Tuple elts kk tpos) (.Call (.Name "enumerate" p) [a] [] pos) (iEnum re) :=
  si_pi (pi_enum hg hm pa_any hs) fun ρ σs h σ H R hE hR hP => sl ρ σs h σ H _ hE hR (hP.fst fun vs h1 ρ1 H1 xs _ E1 R1 v1 p1 => by
    split at p1
    · obtain ⟨x, rfl, r⟩ := rvs1 v1
      cases r with | ref hi => ?_
      split at p1
      · rename_i e0
        obtain ⟨_, vs, f, t⟩ := R1.lst e0
        exact ⟨_, _, rfl, SqL.of f, PostG.ret R1 (fun h0 e1 _ => it_enum (by rw [e1]; exact hi)) p1⟩
      · exact p1.elim
    · exact p1.elim)
/-- zip of two tuples, of two lists -/
def zipS (xs ys : List SV) : List SV := List.zipWith (fun x y => SV.tup [x, y]) xs ys
theorem zipS_get {xs ys : List SV} {i : Nat} {z : SV} (e : (zipS xs ys)[i]? = some z) : ∃ x y, xs[i]? = some x ∧ ys[i]? = some y ∧ z = .tup [x, y] := by
  unfold zipS at e
  rw [List.getElem?_zipWith] at e
  cases e1 : xs[i]? with
  | none => rw [e1] at e; simp at e
  | some x =>
    cases e2 : ys[i]? with
    | none => rw [e1, e2] at e; simp at e
    | some y => rw [e1, e2] at e; simp at e; exact ⟨x, y, rfl, rfl, e.symm⟩
theorem zip_pair {Z : Cz} {ρ : Nat → Addr} {h : Hs} {H : Hp} {T : Addr} {x y : SV} {u v : V} (R : RHp Z ρ h H) (hT : H T = none) (r1 : RV Z ρ h.length H x u) (r2 : RV Z ρ h.length H y v) :
    RHp Z ρ h (upd H T (.tup [u, v])) ∧ Gro ρ h H ρ h (upd H T (.tup [u, v])) ∧ RV Z ρ h.length (upd H T (.tup [u, v])) (.tup [x, y]) (.ref T) :=
  ⟨R.lay hT, Gro.lay hT, .tup (SqT.of upd_same) (.cons (r1.ext' (keep_lay hT) (Nat.le_refl _) fun _ _ => rfl) (.cons (r2.ext' (keep_lay hT) (Nat.le_refl _) fun _ _ => rfl) .nil))⟩
theorem it_zipT {Z : Cz} {ρ : Nat → Addr} {h : Hs} {H : Hp} {p q : Addr} {xs ys : List SV} {us vs : List V} (q1 : SqT Z.K H p us) (t1 : RVs Z ρ h.length H xs us) (q2 : SqT Z.K H q vs) (t2 : RVs Z ρ h.length H ys vs) (R0 : RHp Z ρ h H) :
    ItOk Z (ItzT Z.K p q) (zipS xs ys) (fun _ => true) ρ h H where
  turn := fun i z ρ2 h2 H2 E R _ hz => by
    obtain ⟨x, y, ex, ey, rfl⟩ := zipS_get hz
    obtain ⟨u, e1, r1⟩ := t1.get ex
    obtain ⟨v, e2, r2⟩ := t2.get ey
    have s1 : SqT Z.K H2 p us := SqT.ext (fun a o e k => E.kept R0 e k) q1
    have s2 : SqT Z.K H2 q vs := SqT.ext (fun a o e k => E.kept R0 e k) q2
    refine ⟨⟨us, vs, u, v, s1, s2, e1, e2⟩, fun w H' ⟨T, u', v', e3, hT, e4, a1, a2⟩ => ?_⟩
    subst e3 e4
    have b1 := a1 us s1
    have b2 := a2 vs s2
    rw [e1] at b1; cases b1
    rw [e2] at b2; cases b2
    exact zip_pair R hT (r1.ext R0 E) (r2.ext R0 E)
  stop := fun ρ2 h2 H2 E R _ => ⟨us, vs, SqT.ext (fun a o e k => E.kept R0 e k) q1, SqT.ext (fun a o e k => E.kept R0 e k) q2, by
    have := t1.length; have := t2.length
    unfold zipS; rw [List.length_zipWith]; omega⟩
theorem it_zipL {Z : Cz} {ρ : Nat → Addr} {h : Hs} {H : Hp} {a b : Nat} {xs ys : List SV} (ha : a < h.length) (hb : b < h.length) : ItOk Z (Itz Z.K (ρ a) (ρ b)) (zipS xs ys) (fun h => chkL a xs h && chkL b ys h) ρ h H where
  turn := fun i z ρ2 h2 H2 E R hc hz => by
    rw [Bool.and_eq_true] at hc
    obtain ⟨x, y, ex, ey, rfl⟩ := zipS_get hz
    obtain ⟨_, us, f1, t1⟩ := R.lst (of_decide_eq_true hc.1)
    obtain ⟨_, vs, f2, t2⟩ := R.lst (of_decide_eq_true hc.2)
    rw [E.agree a ha] at f1
    rw [E.agree b hb] at f2
    obtain ⟨u, e1, r1⟩ := t1.get ex
    obtain ⟨v, e2, r2⟩ := t2.get ey
    refine ⟨⟨us, vs, u, v, SqL.of f1, SqL.of f2, e1, e2⟩, fun w H' ⟨T, u', v', e3, hT, e4, a1, a2⟩ => ?_⟩
    subst e3 e4
    have b1 := a1 us (SqL.of f1)
    have b2 := a2 vs (SqL.of f2)
    rw [e1] at b1; cases b1
    rw [e2] at b2; cases b2
    exact zip_pair R hT r1 r2
  stop := fun ρ2 h2 H2 E R hc => by
    rw [Bool.and_eq_true] at hc
    obtain ⟨_, us, f1, t1⟩ := R.lst (of_decide_eq_true hc.1)
    obtain ⟨_, vs, f2, t2⟩ := R.lst (of_decide_eq_true hc.2)
    rw [E.agree a ha] at f1
    rw [E.agree b hb] at f2
    have := t1.length; have := t2.length
    exact ⟨us, vs, SqL.of f1, SqL.of f2, by unfold zipS; rw [List.length_zipWith]; omega⟩
def iZip (re : LF) : IF := fun σ h => (re σ h).bnd fun vs h => match vs with
  | [.tup xs, .tup ys] => .ok (zipS xs ys, fun _ => true) h
  | [.ref a, .ref b] => (match h[a]?, h[b]? with
    | some (.lst xs), some (.lst ys) => .ok (zipS xs ys, fun h => chkL a xs h && chkL b ys h) h
    | _, _ => .stuck)
  | _ => .stuck
theorem si_zip {p tpos : Pos} {elts : List Expr} {kk : Nat} (hm : X.mg "zip" = none) (sl : SA X G W [a, b] re) (hg : Gl X "zip" := by rfl) (hs : starEach [a, b] X.env = (false, eval a X.env) :: starEach [b] X.env := by rfl) (hpl : (backTo pos (starEach [b] X.env)).any (·.1) = false := by rfl) :
    SI X G W (.Tuple elts kk tpos) (.Call (.Name "zip" p) [a, b] [] pos) (iZip re) :=
  si_pi (pi_zipA hg hm pa_any hs hpl) fun ρ σs h σ H R hE hR hP => sl ρ σs h σ H _ hE hR (hP.fst fun vs h1 ρ1 H1 xs _ E1 R1 v1 p1 => by
    split at p1
    · obtain ⟨x, y, rfl, r, r2⟩ := rvs2 v1
      cases r with | tup q1 t1 => ?_
      cases r2 with | tup q2 t2 => ?_
      exact ⟨_, _, _, _, rfl, .inr ⟨q1, q2, PostG.ret R1 (fun h0 e1 R0 => it_zipT q1 (by rw [e1]; exact t1) q2 (by rw [e1]; exact t2) R0) p1⟩⟩
    · obtain ⟨x, y, rfl, r, r2⟩ := rvs2 v1
      cases r with | ref ha => ?_
      cases r2 with | ref hb => ?_
      split at p1
      · rename_i e0 e2
        obtain ⟨_, us, f1, t1⟩ := R1.lst e0
        obtain ⟨_, vs, f2, t2⟩ := R1.lst e2
        exact ⟨_, _, _, _, rfl, .inl ⟨SqL.of f1, SqL.of f2, PostG.ret R1 (fun h0 e1 _ => it_zipL (by rw [e1]; exact ha) (by rw [e1]; exact hb)) p1⟩⟩
      · exact p1.elim
    · exact p1.elim)

/-! ### while -/
def whileGo (σ0 : SEnv) (h0 : Hs) (t : SEnv → Hs → Out Bool) (body : SF) : Nat → SEnv → Hs → OS
  | 0, _, _ => .stuck
  | n + 1, σ, h => (t σ h).st σ fun k h1 => if k = true then (match body σ h1 with
      | .nx σ2 h2 => whileGo σ0 h0 t body n (gcS σ0 h0 σ2 h2).1 (gcS σ0 h0 σ2 h2).2
      | .ct σ2 h2 => whileGo σ0 h0 t body n (gcS σ0 h0 σ2 h2).1 (gcS σ0 h0 σ2 h2).2
      | .bk σ2 h2 => .nx σ2 h2
      | .rt v h2 => .rt v h2
      | .exc c fs σ2 h2 => .exc c fs σ2 h2
      | .stuck => .stuck) else .nx σ h1
def sWhile (fuel : Nat) (t : SEnv → Hs → Out Bool) (body : SF) : SF := fun σ h => whileGo σ h t body fuel σ h
theorem ss_while {body : List Stmt} {tc : SEnv → Hs → Out Bool} {rb : SF} (fuel : Nat) (ok : XOs X W) (st : ST X G W c tc) (sb : SSs X G W body rb) : SS X G W (.While c body [] pos) (sWhile fuel tc rb) := .of fun ρ σs h σ H D hE hR hP => by
  refine any_ps (ps_while ok.po pt_any pss_any) ?_
  refine ⟨fun m σ' H' => ∃ ρ2 σ2 h2, Gro ρ h H ρ2 h2 H' ∧ RHp (zOf X G) ρ2 h2 H' ∧ REnv (zOf X G) ρ2 h2.length H' σ2 σ' ∧ PostS (zOf X G) W ρ h H (whileGo σs h tc rb m σ2 h2) D, ⟨fuel, ρ, σs, h, Gro.refl, hR, hE, hP⟩, ?_⟩
  rintro m σ2 H2 ⟨ρ2, σ2s, h2, E2, R2, q2, p2⟩
  cases m with
  | zero => exact p2.elim
  | succ m =>
    unfold whileGo at p2
    refine st ρ2 σ2s h2 σ2 H2 _ q2 R2 (PostS.expr q2 R2 (PostS.step R2 E2 p2) fun k h3 ρ3 H3 k' ek E3 R3 e p3' => ?_)
    have e' : k = k' := e
    subst e'
    have E13 := E2.trans R2 E3
    rw [ek, Out.st_ok] at p2
    cases k with
    | false => rw [if_neg Bool.false_ne_true] at p2 ⊢; exact p2 ρ3 H3 σ2 E13 R3 (q2.ext R2 E3)
    | true =>
      rw [if_pos rfl] at p2 ⊢
      refine ⟨fun σ' H' => ∃ ρ3 σ3 h3, Gro ρ h H ρ3 h3 H' ∧ RHp (zOf X G) ρ3 h3 H' ∧ REnv (zOf X G) ρ3 h3.length H' σ3 σ' ∧ PostS (zOf X G) W ρ h H (whileGo σs h tc rb m σ3 h3) D, fun σ' H' q => ⟨m, Nat.lt_succ_self _, q⟩, ?_⟩
      refine sb ρ3 σ2s h3 σ2 H3 _ (q2.ext R2 E3) R3 ?_
      have gc : ∀ (σ5 : SEnv) (h5 : Hs), PostS (zOf X G) W ρ h H (whileGo σs h tc rb m (gcS σs h σ5 h5).1 (gcS σs h σ5 h5).2) D →
          PEnv (zOf X G) ρ3 h3 H3 σ5 h5 (fun σ' H' => ∃ ρ3 σ3 h3, Gro ρ h H ρ3 h3 H' ∧ RHp (zOf X G) ρ3 h3 H' ∧ REnv (zOf X G) ρ3 h3.length H' σ3 σ' ∧ PostS (zOf X G) W ρ h H (whileGo σs h tc rb m σ3 h3) D) :=
        fun σ5 h5 p5 ρ5 H5 σ5r E5 R5 q5 => by
          have E15 := E13.trans R3 E5
          obtain ⟨a1, a2, a3⟩ := gc_ok (σ0 := σs) hR R5 E15 q5
          exact ⟨ρ5, _, _, a3, a1, a2, p5⟩
      cases hb : rb σ2s h3 with
      | nx σ5 h5 => rw [hb] at p2; exact gc σ5 h5 p2
      | ct σ5 h5 => rw [hb] at p2; exact gc σ5 h5 p2
      | bk σ5 h5 => rw [hb] at p2; exact PEnv.step R3 E13 p2
      | rt v h5 => rw [hb] at p2; exact PVal.step R3 E13 p2
      | exc c fs σ5 h5 => rw [hb] at p2; exact PostS.step (r := .exc c fs σ5 h5) R3 E13 p2
      | stuck => rw [hb] at p2; exact p2.elim
end
end Pz

set_option Elab.async false
set_option linter.all false
set_option maxRecDepth 100000
set_option maxHeartbeats 1000000
namespace Pz
open PySem PySem.Spec L2

/-! ### what a value needs of the heap behind it -/
def gcV (h0 : Hs) (m : Nat) (h : Hs) : Hs :=
  if m ≤ h0.length ∧ ((h.take h0.length).all (fun o => decide (o.mx ≤ h0.length)) = true ∨ h.take h0.length = h0) then h.take h0.length else h
section
variable {Z : Cz} {ρ0 ρ : Nat → Addr} {h0 h : Hs} {H0 H : Hp}
theorem gcV_ok {m : Nat} (R0 : RHp Z ρ0 h0 H0) (R : RHp Z ρ h H) (E : Gro ρ0 h0 H0 ρ h H) : RHp Z ρ (gcV h0 m h) H ∧ Gro ρ0 h0 H0 ρ (gcV h0 m h) H ∧ (gcV h0 m h = h ∨ ((gcV h0 m h).length = h0.length ∧ m ≤ h0.length)) := by
  unfold gcV
  split
  · rename_i c
    have hl : (h.take h0.length).length = h0.length := by rw [List.length_take]; have := E.len; omega
    exact ⟨cut_ok R0 R E c.2, E.cut, .inr ⟨hl, c.1⟩⟩
  · exact ⟨R, E, .inl rfl⟩
theorem RV.gc {v : SV} {x : V} {h1 : Hs} (q : h1 = h ∨ (h1.length = h0.length ∧ v.mx ≤ h0.length)) (r : RV Z ρ h.length H v x) : RV Z ρ h1.length H v x := by
  rcases q with rfl | ⟨e, hm⟩
  · exact r
  · exact r.cut (by rw [e]; exact hm)
/-- a tracked object that the heap doesn't know yet -/
theorem RHp.adopt {xs : List SV} {vs : List V} {D : Addr} (R : RHp Z ρ h H) (hD : H D = some (.lst vs)) (hne : ∀ i, i < h.length → ρ i ≠ D) (t : RVs Z ρ h.length H xs vs) : RHp Z (putA ρ h.length D) (h ++ [.lst xs]) H where
  ob := fun i x e => by
    rw [List.length_append]
    by_cases hi : i < h.length
    · rw [List.getElem?_append_left hi] at e
      rw [putA_lt hi]
      exact (R.ob i x e).ext' (fun a o e _ => e) (by simp) (fun j hj => putA_lt hj) rfl
    · have e2 : i = h.length := by
        have := (List.getElem?_eq_some_iff.mp e).1
        simp at this; omega
      subst e2
      simp at e; subst e
      rw [putA_same]
      exact ⟨vs, hD, t.ext' (fun a o e _ => e) (by simp) fun j hj => putA_lt hj⟩
  inj := fun i j hi hj e => by
    simp at hi hj
    by_cases h1 : i < h.length
    · by_cases h2 : j < h.length
      · rw [putA_lt h1, putA_lt h2] at e; exact R.inj i j h1 h2 e
      · have : j = h.length := by omega
        subst this
        rw [putA_lt h1, putA_same] at e
        exact absurd e (hne i h1)
    · have : i = h.length := by omega
      subst this
      by_cases h2 : j < h.length
      · rw [putA_lt h2, putA_same] at e
        exact absurd e.symm (hne j h2)
      · omega
end

/-! ### comprehensions -/
def wipeS (σ : SEnv) : List Nat → SEnv
  | [] => σ
  | v :: vs => (wipeS σ vs).set v none
theorem renv_wipe {Z : Cz} {ρ : Nat → Addr} {n : Nat} {H : Hp} {σs : SEnv} {σ : L2.St} (q : REnv Z ρ n H σs σ) : ∀ vs, REnv Z ρ n H (wipeS σs vs) (wipe σ vs)
  | [] => q
  | v :: vs => by
    have ih := renv_wipe q vs
    unfold wipeS wipe
    refine ⟨by simp [ih.len], fun j x e => ?_⟩
    by_cases hj : v = j
    · subst hj
      have hi : v < (wipeS σs vs).length := by have := (List.getElem?_eq_some_iff.mp e).1; simpa using this
      rw [List.getElem?_set_self hi] at e; cases e
    · rw [List.getElem?_set_ne hj] at e ⊢
      exact ih.val j x e
def lcGo (g : GF) (tt : SEnv → Hs → Out Bool) (te : EF) (chk : Hs → Bool) (σw : SEnv) : List SV → Hs → List SV → Out (List SV)
  | [], h, acc => if chk h = true then .ok acc h else .stuck
  | x :: xs, h, acc => if chk h = true ∧ acc.length < 1000000 then (match g x σw with
    | none => .stuck
    | some σ2 => match tt σ2 h with
      | .ok true h2 => (match te σ2 h2 with
        | .ok y h3 => lcGo g tt te chk σw xs (gcV h y.mx h3) (acc ++ [y])
        | _ => .stuck)
      | .ok false h2 => lcGo g tt te chk σw xs (gcV h 0 h2) acc
      | _ => .stuck) else .stuck
def rLc (own : List Nat) (ri : IF) (g : GF) (tt : SEnv → Hs → Out Bool) (te : EF) : EF := fun σ h => (ri σ h).bnd fun p h => match lcGo g tt te p.2 (wipeS σ own) p.1 h [] with
  | .ok acc h => .ok (.ref h.length) (h ++ [.lst acc])
  | _ => .stuck
def tYesS : SEnv → Hs → Out Bool := fun _ h => .ok true h
abbrev W0 : WX := fun _ _ _ _ => False
structure SPs (X : Cx) (G : Nat → Addr) (W : WX) (ifs : List Expr) (r : SEnv → Hs → Out Bool) : Prop where of ::
  run : ∀ ρ σs h σ H Q, REnv (zOf X G) ρ h.length H σs σ → RHp (zOf X G) ρ h H → PostB (zOf X G) W ρ h H σ (r σs h) Q → ∃ t, PTs X ifs t ∧ t σ H Q
instance (X : Cx) (G : Nat → Addr) (W : WX) (ifs : List Expr) (r : SEnv → Hs → Out Bool) : CoeFun (SPs X G W ifs r) fun _ => ∀ ρ σs h σ H Q, REnv (zOf X G) ρ h.length H σs σ → RHp (zOf X G) ρ h H → PostB (zOf X G) W ρ h H σ (r σs h) Q → ∃ t, PTs X ifs t ∧ t σ H Q := ⟨SPs.run⟩
def tAnyTs (X : Cx) (ifs : List Expr) : TT := fun σ H Q => ∀ (pins : List (Addr × Obj)) (s : Shared), Inv X pins σ H s →
  wpAny (model X.prog X.w) X.A (forIn ifs true fun c r => if r = true then do let ok ← isTrue c X.env (eval c X.env); pure (ForInStep.yield ok) else pure (ForInStep.yield r)) (TP X pins σ Q) X.xe s
theorem pts_any {X : Cx} {ifs : List Expr} : PTs X ifs (tAnyTs X ifs) := ⟨fun pins s σ H Q I h => h pins s I⟩
structure STs (X : Cx) (G : Nat → Addr) (W : WX) (ifs : List Expr) (r : SEnv → Hs → Out Bool) : Prop where of ::
  run : ∀ ρ σs h σ H Q, REnv (zOf X G) ρ h.length H σs σ → RHp (zOf X G) ρ h H → PostB (zOf X G) W ρ h H σ (r σs h) Q → tAnyTs X ifs σ H Q
instance (X : Cx) (G : Nat → Addr) (W : WX) (ifs : List Expr) (r : SEnv → Hs → Out Bool) : CoeFun (STs X G W ifs r) fun _ => ∀ ρ σs h σ H Q, REnv (zOf X G) ρ h.length H σs σ → RHp (zOf X G) ρ h H → PostB (zOf X G) W ρ h H σ (r σs h) Q → tAnyTs X ifs σ H Q := ⟨STs.run⟩
section
variable {X : Cx} {G : Nat → Addr} {W : WX} {pos : Pos} {c e tg : Expr} {tt : SEnv → Hs → Out Bool}
theorem sts_nil : STs X G W [] tYesS := .of fun ρ σs h σ H Q hE hR hP pins s I => pts_nil.run pins s σ H Q I (PostG.ret hR rfl hP)
theorem sts_one (s : ST X G W c tt) : STs X G W [c] tt := .of fun ρ σs h σ H Q hE hR hP pins s' I => (pts_one pt_any).run pins s' σ H Q I (s ρ σs h σ H Q hE hR hP)
theorem XOk.blk (ok : XOk X W) {s : Shared} {H : Hp} {scope : Scope} {ce : PySem.Env} {fp : List Addr} : XOk (X.blk s H scope ce fp) W0 := ⟨⟨ok.nd, takes0, PassesOwn.never, ok.gd, ok.hu⟩, ok.calm⟩
theorem wipe_idem (σ : L2.St) : ∀ vs : List Nat, wipe (wipe σ vs) vs = wipe σ vs := fun vs => by
  apply List.ext_getElem?
  intro i
  have key : ∀ (ws : List Nat) (τ : L2.St), (wipe τ ws)[i]? = if i ∈ ws then (if i < τ.length then some none else none) else τ[i]? := by
    intro ws
    induction ws with
    | nil => intro τ; simp [wipe]
    | cons w ws ih =>
      intro τ
      unfold wipe
      rw [List.getElem?_set, ih, wipe_length]
      by_cases h1 : w = i
      · subst h1
        by_cases h2 : w < τ.length <;> simp [h2]
      · simp only [if_neg h1, List.mem_cons]
        by_cases h2 : i ∈ ws
        · simp [h2]
        · have h3 : ¬ i = w := fun e => h1 e.symm
          simp [h2, h3]
  rw [key, key, wipe_length]
  by_cases h : i ∈ vs <;> simp [h]
section
variable {Z : Cz} {ρ ρ' : Nat → Addr} {n : Nat} {h h' : Hs} {H H' : Hp} {D : Addr} {vs ws : List V}
theorem keep_off (hD : H D = some (.lst vs)) : ∀ a o, H a = some o → ((∃ xs, o = .tup xs) ∨ (∃ b u, o = .frz b u) ∨ (∃ y, o = .own y)) → upd H D (.lst ws) a = some o := fun a o e k => by
  have ne : a ≠ D := fun z => by
    subst z
    rw [hD] at e; cases e
    rcases k with ⟨_, k⟩ | ⟨_, _, k⟩ | ⟨_, k⟩ <;> cases k
  rw [upd_ne ne]; exact e
theorem RHp.off (R : RHp Z ρ h H) (hD : H D = some (.lst vs)) (hne : ∀ i, i < h.length → ρ i ≠ D) : RHp Z ρ h (upd H D (.lst ws)) :=
  ⟨fun i o e => (R.ob i o e).ext' (keep_off hD) (Nat.le_refl _) (fun _ _ => rfl) (upd_ne (hne i (List.getElem?_eq_some_iff.mp e).1)), R.inj⟩
end
section
variable (X : Cx) (scope : Scope)
def gAll (tg : Expr) : TG := fun v σ H Q => ∀ (s : Shared) (H0 : Hp) (C : Addr) (cl : List (Str × Addr)) (fp : List Addr), tAnyG (X.blk s H0 scope (compEnvC scope cl C X.env) fp) tg v σ H Q
def tsAll (ifs : List Expr) : TT := fun σ H Q => ∀ (s : Shared) (H0 : Hp) (C : Addr) (cl : List (Str × Addr)) (fp : List Addr), tAnyTs (X.blk s H0 scope (compEnvC scope cl C X.env) fp) ifs σ H Q
def eAll (e : Expr) : TE := fun σ H Q => ∀ (s : Shared) (H0 : Hp) (C : Addr) (cl : List (Str × Addr)) (fp : List Addr), tAny (X.blk s H0 scope (compEnvC scope cl C X.env) fp) e σ H Q
end
theorem lc_post {elt iter : Expr} {ifs : List Expr} {scope : Scope} {vs : List Nat} {ri : IF} {g : GF} {te : EF} {is : List Nat} (si : SI X G W tg iter ri)
    (sg : ∀ (s : Shared) (H : Hp) (C : Addr) (cl : List (Str × Addr)) (fp : List Addr), SG (X.blk s H scope (compEnvC scope cl C X.env) fp) G tg g is) (hown : ∀ i ∈ is, i ∈ vs)
    (st : ∀ (s : Shared) (H : Hp) (C : Addr) (cl : List (Str × Addr)) (fp : List Addr), STs (X.blk s H scope (compEnvC scope cl C X.env) fp) G W0 ifs tt)
    (se : ∀ (s : Shared) (H : Hp) (C : Addr) (cl : List (Str × Addr)) (fp : List Addr), SE (X.blk s H scope (compEnvC scope cl C X.env) fp) G W0 elt te)
    {ρ : Nat → Addr} {σs : SEnv} {h : Hs} {σ : L2.St} {H : Hp} {Q : VK} (hE : REnv (zOf X G) ρ h.length H σs σ) (hR : RHp (zOf X G) ρ h H) (hP : PostE (zOf X G) W ρ h H σ (rLc vs ri g tt te σs h) Q) :
    tLc (tAnyI X tg iter) (gAll X scope tg) (tsAll X scope ifs) (eAll X scope elt) vs σ H Q := by
  refine si ρ σs h σ H _ hE hR (hP.fst fun p h1 ρ1 H1 J _ E1 R1 hJ p1 D hD => ?_)
  have hJ := hJ h1 rfl R1
  have hEw := renv_wipe (hE.ext hR E1) vs
  have hD1 : ∀ i, i < h1.length → ρ1 i ≠ D := fun i hi => R1.ne hD hi
  let Fin : Out (List SV) → Prop := fun r => match r with
    | .ok acc h => PostE (zOf X G) W ρ1 h1 H1 σ (.ok (.ref h.length) (h ++ [.lst acc])) Q
    | _ => False
  have p1' : Fin (lcGo g tt te p.2 (wipeS σs vs) p.1 h1 []) := by
    cases e : lcGo g tt te p.2 (wipeS σs vs) p.1 h1 [] with
    | ok acc h => rw [e] at p1; exact p1
    | exc c fs h => rw [e] at p1; exact p1.elim
    | stuck => rw [e] at p1; exact p1.elim
  let Wd : Nat → Hp → Prop := fun i H' => ∃ ρ2 h2 acc ws, Gro ρ1 h1 H1 ρ2 h2 H' ∧ RHp (zOf X G) ρ2 h2 H' ∧ H' D = some (.lst ws) ∧ (∀ i, i < h2.length → ρ2 i ≠ D) ∧ RVs (zOf X G) ρ2 h2.length H' acc ws ∧
    Fin (lcGo g tt te p.2 (wipeS σs vs) (p.1.drop i) h2 acc)
  refine ⟨fun i m H' => m = p.1.length - i ∧ i ≤ p.1.length ∧ Wd i H', ⟨p.1.length, by simp, Nat.zero_le _, ρ1, h1, [], [], Gro.lay hD, R1.lay hD, upd_same, hD1, .nil, p1'⟩, ?_⟩
  rintro i m H2 ⟨rfl, hi, ρ2, h2, acc, ws, E2, R2, hD2, ne2, ta, p2⟩
  by_cases hlt : i < p.1.length
  · right
    rw [List.drop_eq_getElem_cons hlt] at p2
    unfold lcGo at p2
    split at p2
    · rename_i hc
      obtain ⟨hgo, hy⟩ := hJ.turn i p.1[i] ρ2 h2 H2 E2 R2 hc.1 (by simp [hlt])
      refine ⟨hgo, Wd (i + 1), fun H' q => ⟨_, by omega, rfl, hlt, q⟩, fun x H3 y => ?_⟩
      obtain ⟨R3, E3, v3⟩ := hy x H3 y
      have hD3 : H3 D = some (.lst ws) := E3.fr D _ hD2 ne2
      split at p2
      · exact p2.elim
      · rename_i σ2 e1
        intro s0 H0 C0 cl0 fp0
        have hEw3 : REnv (zOf X G) ρ2 h2.length H3 (wipeS σs vs) (wipe σ vs) := (hEw.ext R1 E2).ext R2 E3
        refine sg s0 H0 C0 cl0 fp0 ρ2 _ _ σ2 _ _ H3 x _ hEw3 v3 e1 fun σ3 ws3 q3 => ⟨by rw [ws3 vs hown, wipe_idem], ?_⟩
        intro s1 H1' C1 cl1 fp1
        refine st s1 H1' C1 cl1 fp1 ρ2 σ2 h2 σ3 H3 _ q3 R3 ?_
        cases ht : tt σ2 h2 with
        | exc c fs h => rw [ht] at p2; exact p2.elim
        | stuck => rw [ht] at p2; exact p2.elim
        | ok b h3 =>
          intro ρ3 H4 b' E4 R4 eb
          have eb' : b = b' := eb
          subst eb'
          have hD4 : H4 D = some (.lst ws) := E4.fr D _ hD3 ne2
          have ne3 : ∀ i, i < h3.length → ρ3 i ≠ D := fun i hi z => by
            by_cases hl : i < h2.length
            · exact ne2 i hl ((E4.agree i hl).symm.trans z)
            · have w := E4.fresh i (Nat.not_lt.mp hl) hi
              rw [z, hD3] at w; cases w
          cases b with
          | false =>
            rw [ht] at p2
            dsimp only at p2
            rw [if_neg Bool.false_ne_true]
            obtain ⟨a1, a2, a3⟩ := gcV_ok (m := 0) R3 R4 E4
            refine ⟨ρ3, gcV h2 0 h3, acc, ws, (E2.trans R2 E3).trans R3 a2, a1, hD4, fun i hi => ne3 i ?_, (ta.ext R2 E3).ext R3 a2, p2⟩
            rcases a3 with e | ⟨e, _⟩
            · rw [← e]; exact hi
            · rw [e] at hi; exact Nat.lt_of_lt_of_le hi E4.len
          | true =>
            rw [ht] at p2
            dsimp only at p2
            rw [if_pos rfl]
            intro s2 H2' C2 cl2 fp2
            refine se s2 H2' C2 cl2 fp2 ρ3 σ2 h3 σ3 H4 _ (q3.ext R3 E4) R4 ?_
            cases hte : te σ2 h3 with
            | exc c fs h => rw [hte] at p2; exact p2.elim
            | stuck => rw [hte] at p2; exact p2.elim
            | ok y h4 =>
              rw [hte] at p2
              intro ρ4 H5 yv E5 R5 r5
              have hD5 : H5 D = some (.lst ws) := E5.fr D _ hD4 ne3
              have ne4 : ∀ i, i < h4.length → ρ4 i ≠ D := fun i hi z => by
                by_cases hl : i < h3.length
                · exact ne3 i hl ((E5.agree i hl).symm.trans z)
                · have w := E5.fresh i (Nat.not_lt.mp hl) hi
                  rw [z, hD4] at w; cases w
              have E45 := E4.trans R4 E5
              obtain ⟨a1, a2, a3⟩ := gcV_ok (m := y.mx) R3 R5 E45
              have ne5 : ∀ i, i < (gcV h2 y.mx h4).length → ρ4 i ≠ D := fun i hi => ne4 i (by
                rcases a3 with e | ⟨e, _⟩
                · rw [← e]; exact hi
                · rw [e] at hi; exact Nat.lt_of_lt_of_le hi E45.len)
              refine ⟨ws, hD5, ?_, ρ4, gcV h2 y.mx h4, acc ++ [y], ws ++ [yv], ?_, a1.off hD5 ne5, upd_same, ne5, ?_, p2⟩
              · rw [← ta.length, lim_eq]; have := hc.2; omega
              · have G0 := (E2.trans R2 E3).trans R3 a2
                refine ⟨G0.len, G0.agree, fun a o e hx => ?_, G0.fresh⟩
                rw [upd_ne (ne_of_none e hD)]
                exact G0.fr a o e hx
              · have t5 := (ta.ext R2 E3).ext R3 a2
                exact (t5.app (.cons (r5.gc a3) .nil)).ext' (keep_off hD5) (Nat.le_refl _) fun _ _ => rfl
    · exact p2.elim
  · left
    have e : i = p.1.length := by omega
    subst e
    rw [List.drop_length] at p2
    unfold lcGo at p2
    split at p2
    · rename_i hc
      refine ⟨hJ.stop ρ2 h2 H2 E2 R2 hc, ?_⟩
      refine PostG.at (v := SV.ref h2.length) ?_ (R2.adopt hD2 ne2 ta) ?_ (show PostE (zOf X G) W ρ1 h1 H1 σ (.ok (.ref h2.length) (h2 ++ [.lst acc])) Q from p2)
      · refine ⟨by have := E2.len; simp; omega, fun i hi => ?_, E2.fr, fun j h1' h2' => ?_⟩
        · rw [putA_lt (Nat.lt_of_lt_of_le hi E2.len)]; exact E2.agree i hi
        · by_cases hj : j < h2.length
          · rw [putA_lt hj]; exact E2.fresh j h1' hj
          · have : j = h2.length := by simp at h2'; omega
            subst this
            rw [putA_same]; exact hD
      · have e : RV (zOf X G) (putA ρ2 h2.length D) (h2 ++ [SO.lst acc]).length H2 (.ref h2.length) (.ref (putA ρ2 h2.length D h2.length)) := .ref (by simp)
        rw [putA_same] at e; exact e
    · exact p2.elim
theorem se_lc {elt iter : Expr} {ifs : List Expr} {scope : Scope} (own : List (Str × Nat)) {ri : IF} {g : GF} {te : EF} {is : List Nat} (ok : XOk X W) (si : SI X G W tg iter ri) (bo : blkC X.N X.env.scope scope own = true)
    (sg : ∀ (s : Shared) (H : Hp) (C : Addr) (cl : List (Str × Addr)) (fp : List Addr), XOk (X.blk s H scope (compEnvC scope cl C X.env) fp) W0 → SG (X.blk s H scope (compEnvC scope cl C X.env) fp) G tg g is) (hown : is.all (fun i => (own.map (·.2)).contains i) = true)
    (st : ∀ (s : Shared) (H : Hp) (C : Addr) (cl : List (Str × Addr)) (fp : List Addr), XOk (X.blk s H scope (compEnvC scope cl C X.env) fp) W0 → STs (X.blk s H scope (compEnvC scope cl C X.env) fp) G W0 ifs tt)
    (se : ∀ (s : Shared) (H : Hp) (C : Addr) (cl : List (Str × Addr)) (fp : List Addr), XOk (X.blk s H scope (compEnvC scope cl C X.env) fp) W0 → SE (X.blk s H scope (compEnvC scope cl C X.env) fp) G W0 elt te)
    (hs : ∀ x, foldedSetIterable iter X.env x = pure x := by intro _; rfl) : SE X G W (.ListComp elt [⟨tg, iter, ifs, 0⟩] scope pos) (rLc (own.map (·.2)) ri g tt te) :=
  se_pe (pe_lc (own := own) (g := gAll X scope tg) (tt := tsAll X scope ifs) (te := eAll X scope elt) ok.calm ok.nd pi_any (blkOk_by bo) (fun s H C cl fp => ⟨fun pins s' σ H v u Q I r q => q s _ C cl fp pins s' u I r⟩) (fun s H C cl fp => ⟨fun pins s' σ H Q I q => q s _ C cl fp pins s' I⟩) (fun s H C cl fp => ⟨fun pins s' σ H Q I q => q s _ C cl fp pins s' I⟩) hs)
    fun ρ σs h σ H Q hE hR hP => lc_post si (fun s H C cl fp => sg s H C cl fp ok.blk) (fun i hi => by have := List.all_eq_true.mp hown i hi; simpa using this) (fun s H C cl fp => st s H C cl fp ok.blk) (fun s H C cl fp => se s H C cl fp ok.blk) hE hR hP
/-- name = [..] on one line -/
theorem ss_lc {i : Nat} {y : Str} {py : Pos} {spos : Pos} {elt iter : Expr} {ifs : List Expr} {scope : Scope} (own : List (Str × Nat)) {ri : IF} {g : GF} {te : EF} {is : List Nat} (ok : XOk X W) (hy : X.N[i]? = some y) (hyl : X.env.scope.names.lookup y = some .local)
    (hsw : swapsWith (.ListComp elt [⟨tg, iter, ifs, 0⟩] scope pos) (some (.Name y py)) spos.line X.env = pure true) (si : SI X G W tg iter ri) (bo : blkC X.N X.env.scope scope own = true)
    (sg : ∀ (s : Shared) (H : Hp) (C : Addr) (cl : List (Str × Addr)) (fp : List Addr), XOk (X.blk s H scope (compEnvC scope cl C X.env) fp) W0 → SG (X.blk s H scope (compEnvC scope cl C X.env) fp) G tg g is) (hown : is.all (fun i => (own.map (·.2)).contains i) = true)
    (st : ∀ (s : Shared) (H : Hp) (C : Addr) (cl : List (Str × Addr)) (fp : List Addr), XOk (X.blk s H scope (compEnvC scope cl C X.env) fp) W0 → STs (X.blk s H scope (compEnvC scope cl C X.env) fp) G W0 ifs tt)
    (se : ∀ (s : Shared) (H : Hp) (C : Addr) (cl : List (Str × Addr)) (fp : List Addr), XOk (X.blk s H scope (compEnvC scope cl C X.env) fp) W0 → SE (X.blk s H scope (compEnvC scope cl C X.env) fp) G W0 elt te)
    (hs : ∀ x, foldedSetIterable iter X.env x = pure x := by intro _; rfl) : SS X G W (.Assign [.Name y py] (.ListComp elt [⟨tg, iter, ifs, 0⟩] scope pos) spos) (sAsg (rLc (own.map (·.2)) ri g tt te) (gNm i)) := .of fun ρ σs h σ H D hE hR hP =>
  any_ps (ps_setLc (own := own) (g := gAll X scope tg) (tt := tsAll X scope ifs) (te := eAll X scope elt) ok.calm ok.nd hy hyl hsw pi_any (blkOk_by bo) (fun s H C cl fp => ⟨fun pins s' σ H v u Q I r q => q s _ C cl fp pins s' u I r⟩) (fun s H C cl fp => ⟨fun pins s' σ H Q I q => q s _ C cl fp pins s' I⟩) (fun s H C cl fp => ⟨fun pins s' σ H Q I q => q s _ C cl fp pins s' I⟩) hs)
    (lc_post si (fun s H C cl fp => sg s H C cl fp ok.blk) (fun i hi => by have := List.all_eq_true.mp hown i hi; simpa using this) (fun s H C cl fp => st s H C cl fp ok.blk) (fun s H C cl fp => se s H C cl fp ok.blk) hE hR
      (PostS.expr hE hR hP fun v h1 ρ1 H1 x _ E1 R1 v1 p1 => p1 ρ1 H1 _ Gro.refl R1 (renv_set (hE.ext hR E1) v1 i)))
end
end Pz

set_option Elab.async false
set_option linter.all false
set_option maxRecDepth 100000
set_option maxHeartbeats 1000000
namespace Pz
open PySem PySem.Spec L2

/-! ### defs -/
abbrev FF := List SV → Hs → Out SV
def finF (h : Hs) (r : OS) : Out SV := match r with
  | .nx _ h' => .ok .non (gcV h 0 h')
  | .rt v h' => .ok v (gcV h v.mx h')
  | .exc c fs _ h' => .exc c fs (gcV h (fmx fs) h')
  | _ => .stuck
def startS (n : Nat) (vs : List SV) : SEnv := vs.map some ++ List.replicate (n - vs.length) none
def mkF (n : Nat) (body : SF) : FF := fun vs h =>
  if SV.mxs vs = 0 then (match finF [] (body (startS n vs) []) with
    | .ok v [] => .ok v h
    | .exc c fs [] => .exc c fs h
    | _ => finF h (body (startS n vs) h)) else finF h (body (startS n vs) h)
/-- what a call wants -/
abbrev WE (E : XK) : WX := fun cls d _ H => E cls d H
structure FnG (P : Program) (w : World) (K : PySem.W.Frag) (mg : Str → Option Value) (base : Heap) (G : Nat → Addr) (k : Nat) (f : Addr) (fd : FuncData) (ps : List Str) (F : FF) : Prop where
  run : ∀ (A : Around) (outer : List PySem.Env) (s : Shared) (H : Hp) (args : Args) (us : List Value) (vs : List V) (ρ : Nat → Addr) (h : Hs) (svs : List SV) (Q : VK) (E : XK), Room k A → A.guards = some [] → Env0 P w K mg base A outer s H →
    BindsTo s fd args (ps.zip us) → Vals vs us → RHp ⟨P, w, K, G⟩ ρ h H → RVs ⟨P, w, K, G⟩ ρ h.length H svs vs → svs.length = ps.length → PostE ⟨P, w, K, G⟩ (WE E) ρ h H [] (F svs h) Q →
    codeAny (model P w) A (.call (.ref f) args) (CR (L2.CX P w) outer P w H s Q E) s
theorem FnG.mono {P : Program} {w : World} {K : PySem.W.Frag} {mg : Str → Option Value} {base : Heap} {G : Nat → Addr} {j k : Nat} {f : Addr} {fd : FuncData} {ps : List Str} {F : FF} (g : FnG P w K mg base G j f fd ps F) (h : j ≤ k) : FnG P w K mg base G k f fd ps F :=
  ⟨fun A o s H a us vs ρ h' svs Q E hr => g.run A o s H a us vs ρ h' svs Q E (hr.mono h)⟩
section
variable {Z : Cz} {W : WX} {ρ : Nat → Addr} {h : Hs} {H : Hp} {σ : L2.St} {Q : VK}
theorem RVs.up0 {m : Nat} {ρ' : Nat → Addr} {vs : List SV} {xs : List V} (t : RVs Z ρ' m H vs xs) (e : SV.mxs vs = 0) : RVs Z ρ 0 H vs xs := by
  have t0 : RVs Z ρ' 0 H vs xs := t.cut (by omega)
  exact t0.ext' (fun _ _ e _ => e) (Nat.le_refl _) fun i hi => absurd hi (Nat.not_lt_zero _)
theorem RHp.nil {ρ : Nat → Addr} : RHp Z ρ [] H := ⟨fun i o e => by simp at e, fun i j hi => absurd hi (by simp)⟩
theorem gro_nil {ρ' : Nat → Addr} {H' : Hp} (R : RHp Z ρ h H) (E : Gro ρ [] H ρ' [] H') : Gro ρ h H ρ h H' ∧ RHp Z ρ h H' := by
  have all : ∀ a o, H a = some o → H' a = some o := fun a o e => E.fr a o e fun i hi => absurd hi (by simp)
  refine ⟨⟨Nat.le_refl _, fun _ _ => rfl, fun a o e _ => all a o e, fun j h1 h2 => absurd h2 (Nat.not_lt.mpr h1)⟩, ⟨fun i o e => ?_, R.inj⟩⟩
  have q := R.apart (List.getElem?_eq_some_iff.mp e).1
  cases eo : H (ρ i) with
  | none => exact absurd eo q.2.2.1
  | some u => exact (R.ob i o e).ext' (fun a o e _ => all a o e) (Nat.le_refl _) (fun _ _ => rfl) (by rw [eo]; exact all _ _ eo)
/-- from the body's end to the call's -/
theorem fin_post {r : OS} {E : XK} {D : Ends} (R : RHp Z ρ h H) (hn : ∀ σ' H', Q .non H' → D.nx σ' H') (hr : ∀ v H', Q v H' → D.rt v H') (hP : PostE Z (WE E) ρ h H [] (finF h r) Q) : PostS Z (WE E) ρ h H r D := by
  cases r with
  | nx σ h' =>
    intro ρ' H' σ' E1 R1 q
    obtain ⟨a1, a2, _⟩ := gcV_ok (m := 0) R R1 E1
    exact hn _ _ (hP ρ' H' .non a2 a1 .non)
  | rt v h' =>
    intro ρ' H' x E1 R1 q
    obtain ⟨a1, a2, a3⟩ := gcV_ok (m := v.mx) R R1 E1
    exact hr _ _ (hP ρ' H' x a2 a1 (q.gc a3))
  | exc c fs σ h' =>
    intro σ' ρ' H' d xs E1 R1 _ e q
    obtain ⟨a1, a2, a3⟩ := gcV_ok (m := fmx fs) R R1 E1
    refine hP ρ' H' d xs a2 a1 ⟨e.at', e.new, fun i hi => e.off i (by
      rcases a3 with z | ⟨z, _⟩
      · rw [← z]; exact hi
      · rw [z] at hi; exact Nat.lt_of_lt_of_le hi E1.len)⟩ ?_
    rcases a3 with z | ⟨z, hm⟩
    · rw [z]; exact q
    · exact q.cut (by rw [z]; exact hm)
  | bk σ h' => exact hP.elim
  | ct σ h' => exact hP.elim
  | stuck => exact hP.elim
theorem mk_post {n : Nat} {body : SF} {vs : List SV} {xs : List V} {E : XK} {D : Ends} (R : RHp Z ρ h H) (t : RVs Z ρ h.length H vs xs) (hn : ∀ σ' H', Q .non H' → D.nx σ' H') (hr : ∀ v H', Q v H' → D.rt v H')
    (hP : PostE Z (WE E) ρ h H [] (mkF n body vs h) Q) : ∃ h0, (h0 = h ∨ (h0 = [] ∧ SV.mxs vs = 0)) ∧ PostS Z (WE E) ρ h0 H (body (startS n vs) h0) D := by
  unfold mkF at hP
  split at hP
  · rename_i e0
    split at hP
    · rename_i v e1
      refine ⟨[], .inr ⟨rfl, e0⟩, fin_post (Q := Q) RHp.nil hn hr ?_⟩
      rw [e1]
      intro ρ' H' x E1 R1 q
      obtain ⟨a1, a2⟩ := gro_nil R E1
      refine hP ρ H' x a1 a2 ?_
      exact q.ext' (fun _ _ e _ => e) (Nat.zero_le _) fun i hi => absurd hi (by simp)
    · rename_i c fs e1
      refine ⟨[], .inr ⟨rfl, e0⟩, fin_post (Q := Q) RHp.nil hn hr ?_⟩
      rw [e1]
      intro ρ' H' d xs' E1 R1 e q
      obtain ⟨a1, a2⟩ := gro_nil R E1
      exact hP ρ H' d xs' a1 a2 ⟨e.at', e.new, fun i hi z => (R.apart hi).2.2.1 (z ▸ e.new)⟩ (q.ext' (fun _ _ e _ => e) (Nat.zero_le _) fun i hi => absurd hi (by simp))
    · exact ⟨h, .inl rfl, fin_post R hn hr hP⟩
  · exact ⟨h, .inl rfl, fin_post R hn hr hP⟩
theorem start_env {n : Nat} : ∀ {vs : List SV} {xs : List V} {m : Nat}, RVs Z ρ m H vs xs → (N : List Str) → N.length = n → REnv Z ρ m H (startS n vs) (L2.start N xs) := fun {vs xs m} t N hN => by
  have hl := t.length
  refine ⟨by unfold startS L2.start; simp [hl, hN], fun j x e => ?_⟩
  unfold startS at e
  unfold L2.start
  by_cases hj : j < vs.length
  · rw [List.getElem?_append_left (by simpa using hj), List.getElem?_map, Option.map_eq_some_iff] at e
    obtain ⟨y, e1, e2⟩ := e
    cases e2
    obtain ⟨v, e3, r⟩ := t.get e1
    exact ⟨v, by rw [List.getElem?_append_left (by simp; omega), List.getElem?_map, e3]; rfl, r⟩
  · rw [List.getElem?_append_right (by simpa using Nat.not_lt.mp hj), List.getElem?_replicate] at e
    split at e <;> cases e
end

section
variable {P : Program} {w : World} {K : PySem.W.Frag} {mg : Str → Option Value} {base : Heap} {G : Nat → Addr}
/-- the context of a def's body -/
theorem xok_def {N ps : List Str} {qual : Str} {sc : Scope} {f : Addr} {cd : Value} {A : Around} {outer : List PySem.Env} {s : Shared} {H : Hp} {E : XK} {k : Nat} (S : FnScope N ps sc) (hr : Room k (A.deeper (PyProof.Rows.envOfC qual sc s.heap.objs.size f cd))) (hg : A.guards = some []) :
    XOk (cxOf (L2.CX P w) P w K mg base N qual sc f cd A outer s H E) (WE E) where
  nd := S.nd
  calm := rfl
  tk := takes_of rfl rfl rfl rfl
  po := passes_of rfl
  gd := hg
  hu := by
    have h1 := hr.un
    show (A.deeper (PyProof.Rows.envOfC qual sc s.heap.objs.size f cd)).units + 200 < cLine
    omega
theorem fng_of {k : Nat} {f : Addr} {x qual : Str} {st : Stmt} {fd : FuncData} {N ps : List Str} {n : Nat} {body : SF} (F : Fun K x qual st f fd) (S : FnScope N ps (defScope st)) (hn : N.length = n)
    (hb : ∀ (cd : Value) (A : Around) (outer : List PySem.Env) (s : Shared) (H : Hp) (E : XK), Room k (A.deeper (PyProof.Rows.envOfC qual (defScope st) s.heap.objs.size f cd)) →
      XOk (cxOf (L2.CX P w) P w K mg base N qual (defScope st) f cd A outer s H E) (WE E) → SSs (cxOf (L2.CX P w) P w K mg base N qual (defScope st) f cd A outer s H E) G (WE E) (defBody st) body) :
    FnG P w K mg base G (k + 1) f fd ps (mkF n body) := by
  obtain ⟨oc, od, kV, doc, pm, an, cdv, ct, osl, rfl, lk, hcd⟩ := F.ex
  refine ⟨fun A outer s H args us vs ρ h svs Q E room guard e0 bind rv R t hlen hP => ?_⟩
  have inK : K.In s.heap := e0.mod.kin.keeps fun b o e => (e0.bs b o e).1
  have noLim : s.heap.NoLimit := e0.mod.nolimit.keeps fun b o e => (e0.bs b o e).1
  have hvl : vs.length = ps.length := by rw [← t.length]; exact hlen
  refine codeAny_call_function room.depth (inK _ _ lk) rfl S.co S.gen rfl (PySem.W.codeRec_of inK hcd) (bind _ _ _ _ ?_)
  refine wpAny_newFunctionEnv_cells S.kind (fun ⟨nm, v⟩ hy => ?_) fun env he s1 inC => ?_
  · rcases S.par nm (List.of_mem_zip hy).1 with q | q
    · exact .inl q
    · exact .inr ⟨q, PySem.W.cellsFrom_some _ _ _ (.inl q)⟩
  · subst he
    refine ⟨noLim.keeps inC.toInCall.keep, codeAny_func ?_⟩
    have rm := room.deeper (PyProof.Rows.envOfC qual (defScope st) s.heap.objs.size f cdv)
    have I0 : Inv (cxOf (L2.CX P w) P w K mg base N qual (defScope st) f cdv A outer s H E) [] (L2.start N vs) H s1 := inv_start S room.hd e0 hvl rv inC
    obtain ⟨h0, hh0, hS⟩ := mk_post (D := { nx := fun _ H' => Q .non H', rt := Q }) R t (fun _ _ q => q) (fun _ _ q => q) hP
    have R0 : RHp ⟨P, w, K, G⟩ ρ h0 H := by
      rcases hh0 with rfl | ⟨rfl, _⟩
      · exact R
      · exact RHp.nil
    have t0 : RVs ⟨P, w, K, G⟩ ρ h0.length H svs vs := by
      rcases hh0 with rfl | ⟨rfl, e⟩
      · exact t
      · exact t.up0 e
    have go := hb cdv A outer s H E rm (xok_def S rm guard) ρ (startS n svs) h0 (L2.start N vs) H { nx := fun _ H' => Q .non H', rt := Q } (start_env t0 N hn) R0 hS [] s1 I0
    refine wpAny_mono go (fun fl s' hs => ?_) fun e s' hs => hs
    cases fl with
    | ret u =>
      obtain ⟨v, σ', H', J, r, q⟩ := hs
      exact ⟨v, H', J.os, J.bare, J.base, J.hok, r, q⟩
    | next =>
      obtain ⟨σ', H', J, q⟩ := hs
      exact ⟨V.non, H', J.os, J.bare, J.base, J.hok, rfl, q⟩
    | brk => obtain ⟨_, _, _, q⟩ := hs; exact q.elim
    | cont => obtain ⟨_, _, _, q⟩ := hs; exact q.elim
end
end Pz

set_option Elab.async false
set_option linter.all false
set_option maxRecDepth 100000
set_option maxHeartbeats 1000000
namespace Pz
open PySem PySem.Spec L2

/-! ### calls -/
/-- the defaults that fill up -/
def Dfl (X : Cx) (G : Nat → Addr) (dv : List SV) (ds : List Value) : Prop := ∃ xs, Vals xs ds ∧ ∀ ρ n H, RVs (zOf X G) ρ n H dv xs
theorem dfl_nil {X : Cx} {G : Nat → Addr} : Dfl X G [] [] := ⟨[], .nil, fun _ _ _ => .nil⟩
section
variable {X : Cx} {G : Nat → Addr} {W : WX} {pos p apos : Pos} {e o : Expr} {es : List Expr} {ra : EF} {re : LF} {k : Nat} {f C : Addr} {fd : FuncData} {ps : List Str} {F : FF} {dv : List SV} {ds : List Value} {x m : Str}
theorem post_we {Z : Cz} {ρ : Nat → Addr} {h : Hs} {H : Hp} {σ : L2.St} {r : Out SV} {Q : VK} (hP : PostE Z W ρ h H σ r Q) : PostE Z (WE fun c d H => W c d σ H) ρ h H [] r Q := by
  cases r with
  | ok v h => exact hP
  | exc c fs h => exact fun ρ' H' d xs E1 R1 e q => hP ρ' H' d xs E1 R1 e q
  | stuck => exact hP
theorem runG {pins : List (Addr × Obj)} {σ : L2.St} {H : Hp} {s : Shared} {Q : VK} {us : List Value} {vs : List V} {svs : List SV} {ρ : Nat → Addr} {h : Hs} (g : FnG X.prog X.w X.K X.mg X.base G k f fd ps F) (ok : XOs X W) (hr : Room k X.A) (hb : Binds X.K fd ps ds) (hd : Dfl X G dv ds)
    (I : Inv X pins σ H s) (r : Vals vs us) (R : RHp (zOf X G) ρ h H) (t : RVs (zOf X G) ρ h.length H svs vs) (hlen : svs.length + dv.length = ps.length) (hP : PostE (zOf X G) W ρ h H σ (F (svs ++ dv) h) Q) : wpAny (model X.prog X.w) X.A (call (.ref f) us) (EP X pins σ Q) X.xe s := by
  obtain ⟨xs, rd, td⟩ := hd
  have r2 : Vals (vs ++ xs) (us ++ ds) := r.append rd
  have t2 := t.app (td ρ h.length H)
  have hl : (us ++ ds).length = ps.length := by rw [← r2.length, ← t2.length, List.length_append]; exact hlen
  refine wpAny_call (codeAny_mono (g.run X.A X.stack s H ⟨us, []⟩ (us ++ ds) (vs ++ xs) ρ h (svs ++ dv) Q (fun c d H => W c d σ H) hr ok.gd I.env0 (hb s us I.kIn hl) r2 R t2 (by rw [List.length_append]; exact hlen) (post_we hP)) fun r s' hq => ?_)
  cases r with
  | error e => exact ok.tk e s' (XE.of_call I (fun _ _ _ z => z) hq)
  | ok fl =>
    cases fl with
    | ret u => exact I.after hq
    | next => exact False.elim hq
    | brk => exact False.elim hq
    | cont => exact False.elim hq
def rCall (F : FF) (n : Nat) (dv : List SV) (re : LF) : EF := fun σ h => (re σ h).bnd fun vs h => if vs.length + dv.length = n then F (vs ++ dv) h else .stuck
theorem se_call (g : FnG X.prog X.w X.K X.mg X.base G k f fd ps F) (ok : XOs X W) (hr : Room k X.A) (hm : X.mg x = some (.ref f)) (hk : PySem.W.keepIn X.K (.ref f) = true) (hb : Binds X.K fd ps ds) (hd : Dfl X G dv ds) (sl : SA X G W (e :: es) re) (hg : Gl X x := by rfl)
    (hdb : (x == ("__debug__" : Str)) = false := by decide) (he : starEach (e :: es) X.env = (false, eval e X.env) :: starEach es X.env := by rfl) (hpl : (backTo pos (starEach es X.env)).any (·.1) = false := by rfl) :
    SE X G W (.Call (.Name x p) (e :: es) [] pos) (rCall F ps.length dv re) := .of fun ρ σs h σ H Q hE hR hP pins s I => by
  refine wpAny_Call_Name_kw (ld_glob I hg hm ?_ hdb)
  refine PySem.W.callWith_K (h₀ := X.base) I.ok.mod.kin hk (thn (sl ρ σs h σ H (fun vs H1 => ∀ (pins : List (Addr × Obj)) (s : Shared) (us : List Value), Inv X pins σ H1 s → Vals vs us → wpAny (model X.prog X.w) X.A (call (.ref f) us) (EP X pins σ Q) X.xe s) hE hR (hP.fst fun vs h1 ρ1 H1 xs _ E1 R1 v1 p1 pins s us I r => ?_) pos pins s I) fun us s1 ⟨vs, H1, I1, r, q⟩ => ⟨I1.kIn, q pins s1 us I1 r⟩) he hpl
  split at p1
  · rename_i hl
    exact runG g ok hr hb hd I r R1 v1 hl p1
  · exact p1.elim
theorem se_call0 (g : FnG X.prog X.w X.K X.mg X.base G k f fd ps F) (ok : XOs X W) (hr : Room k X.A) (hm : X.mg x = some (.ref f)) (hk : PySem.W.keepIn X.K (.ref f) = true) (hb : Binds X.K fd ps ds) (hd : Dfl X G dv ds) (hg : Gl X x := by rfl)
    (hdb : (x == ("__debug__" : Str)) = false := by decide) : SE X G W (.Call (.Name x p) [] [] pos) (rCall F ps.length dv lNil) := .of fun ρ σs h σ H Q hE hR hP pins s I => by
  refine wpAny_Call_Name_kw (ld_glob I hg hm ?_ hdb)
  refine PySem.W.callWith_K0 I.kIn hk ?_
  unfold rCall lNil at hP
  rw [Out.bnd_ok] at hP
  split at hP
  · rename_i hl
    exact runG (us := []) g ok hr hb hd I .nil hR .nil hl hP
  · exact hP.elim

/-! ### instances -/
theorem RF.lookup {Z : Cz} {ρ : Nat → Addr} {n : Nat} {H : Hp} {f : Str} : ∀ {fs : List (Str × SV)} {vs : List (Str × V)}, RF Z ρ n H fs vs → (∀ v, fs.lookup f = some v → ∃ x, vs.lookup f = some x ∧ RV Z ρ n H v x) ∧ (fs.lookup f = none → vs.lookup f = none)
  | _, _, .nil => ⟨fun v e => by simp at e, fun _ => rfl⟩
  | _, _, .cons (f := g) r t => by
    obtain ⟨i1, i2⟩ := RF.lookup (f := f) t
    simp only [List.lookup_cons]
    cases hb : f == g with
    | true => exact ⟨fun v e => by simp at e; subst e; exact ⟨_, rfl, r⟩, fun e => by simp at e⟩
    | false => exact ⟨i1, i2⟩
def putFS (f : Str) (v : SV) : List (Str × SV) → List (Str × SV)
  | [] => [(f, v)]
  | (g, u) :: r => if g = f then (g, v) :: r else (g, u) :: putFS f v r
theorem RF.len {Z : Cz} {ρ : Nat → Addr} {n : Nat} {H : Hp} : ∀ {fs : List (Str × SV)} {vs : List (Str × V)}, RF Z ρ n H fs vs → fs.length = vs.length
  | _, _, .nil => rfl
  | _, _, .cons _ t => by simp [RF.len t]
/-- o.f -/
def rFld (cs : List Nat) (f : Str) (ra : EF) : EF := fun σ h => (ra σ h).bnd fun v h => match v with
  | .ref i => (match h[i]? with
    | some (.ins c fs) => if cs.contains c = true then (match fs.lookup f with
      | some u => .ok u h
      | none => .stuck) else .stuck
    | _ => .stuck)
  | _ => .stuck
def FldOk (X : Cx) (G : Nat → Addr) (cs : List Nat) (f : Str) : Prop := ∀ c ∈ cs, Cls X.K (G c) ∧ NoAttr X.K (G c) f
theorem se_fld {f : Str} {cs : List Nat} (ho : FldOk X G cs f) (sa : SE X G W e ra) (hb : attributeBase e f X.env (eval e X.env) = eval e X.env := by rfl) : SE X G W (.Attribute e f pos) (rFld cs f ra) :=
  se_pe (pe_fld pe_any hb) fun ρ σs h σ H Q hE hR hP => sa ρ σs h σ H _ hE hR (hP.fst fun v h1 ρ1 H1 x _ E1 R1 v1 p1 => by
    split at p1
    · cases v1 with | ref hi => ?_
      split at p1
      · rename_i e0
        obtain ⟨_, dx, vs, f0, t⟩ := R1.ins e0
        split at p1
        · rename_i hc
          obtain ⟨h1, h2⟩ := ho _ (by simpa using hc)
          split at p1
          · rename_i e1
            obtain ⟨y, e2, r⟩ := t.lookup.1 _ e1
            exact ⟨_, _, _, _, _, rfl, f0, h1, h2, e2, PostG.ret R1 r p1⟩
          · exact p1.elim
        · exact p1.elim
      · exact p1.elim
    · exact p1.elim)
theorem RF.put {Z : Cz} {ρ : Nat → Addr} {n : Nat} {H : Hp} {f : Str} {v : SV} {x : V} (r : RV Z ρ n H v x) : ∀ {fs : List (Str × SV)} {vs : List (Str × V)}, RF Z ρ n H fs vs → RF Z ρ n H (putFS f v fs) (putF f x vs)
  | _, _, .nil => .cons r .nil
  | _, _, .cons (f := g) q t => by
    unfold putFS putF
    by_cases hg : g = f
    · rw [if_pos hg, if_pos hg]; exact .cons r t
    · rw [if_neg hg, if_neg hg]; exact .cons q (RF.put r t)
/-- o.f = e -/
def sFldS (cs : List Nat) (f : Str) (ro rv : EF) : SF := fun σ h => (rv σ h).st σ fun v h => (ro σ h).st σ fun u h => match u with
  | .ref i => (match h[i]? with
    | some (.ins c fs) => if cs.contains c = true ∧ fs.length < 1000 then .nx σ (h.set i (.ins c (putFS f v fs))) else .stuck
    | _ => .stuck)
  | _ => .stuck
theorem ss_fld {f : Str} {cs : List Nat} {p2 : Pos} {ro rv : EF} (ho : FldOk X G cs f) (so : SE X G W o ro) (sv : SE X G W e rv) (hs : swapsWith e (some (.Attribute o f p2)) pos.line X.env = pure false := by rfl) : SS X G W (.Assign [.Attribute o f p2] e pos) (sFldS cs f ro rv) := .of fun ρ σs h σ H D hE hR hP =>
  any_ps (ps_fld pe_any pe_any hs) (sv ρ σs h σ H _ hE hR (PostS.expr hE hR hP fun v h1 ρ1 H1 y _ E1 R1 v1 p1 =>
    so ρ1 σs h1 σ H1 _ (hE.ext hR E1) R1 (PostS.expr (hE.ext hR E1) R1 p1 fun u h2 ρ2 H2 x _ E2 R2 v2 p2 => by
      split at p2
      · cases v2 with | ref hi => ?_
        split at p2
        · rename_i e0
          obtain ⟨_, dx, vs, f0, t⟩ := R2.ins e0
          split at p2
          · rename_i hc
            obtain ⟨h1, h2⟩ := ho _ (by simpa using hc.1)
            refine ⟨_, _, _, _, rfl, f0, h1, h2, by rw [← t.len]; exact hc.2, ?_⟩
            exact p2 ρ2 _ σ (Gro.wr hi) (R2.wr hi ⟨dx, _, upd_same, (t.put (v1.ext R1 E2)).ext' (keep_wr R2 hi) (Nat.le_refl _) fun _ _ => rfl⟩) (((hE.ext hR E1).ext R1 E2).ext R2 (Gro.wr hi))
          · exact p2.elim
        · exact p2.elim
      · exact p2.elim)))
/-- o.m(e, ..) -/
def rMeth (c : Nat) (m : Str) (F : FF) (n : Nat) (dv : List SV) (ra : EF) (re : LF) : EF := fun σ h => (ra σ h).bnd fun v h => match v with
  | .ref i => (match h[i]? with
    | some (.ins c' fs) => if c' = c ∧ fs.lookup m = none then (re σ h).bnd fun vs h => if 1 + vs.length + dv.length = n then F (.ref i :: vs ++ dv) h else .stuck else .stuck
    | _ => .stuck)
  | _ => .stuck
theorem se_meth {c : Nat} {pl : Sem Bool} (sa : SE X G W o ra) (cl : Cls X.K (G c)) (hm : Meth X.K (G c) m f) (g : FnG X.prog X.w X.K X.mg X.base G k f fd ps F) (ok : XOs X W) (hr : Room k X.A) (hb : Binds X.K fd ps ds) (hd : Dfl X G dv ds) (sl : SA X G W (e :: es) re)
    (hst : starEach (e :: es) X.env = (false, eval e X.env) :: starEach es X.env := by rfl) (hpl : (backTo pos (starEach es X.env)).any (·.1) = false := by rfl)
    (ht : eval (.Call (.Attribute o m apos) (e :: es) [] pos) X.env = (do let ov ← eval o X.env; standAt apos.atName; let (f, first) ← holding [ov] (getMethod ov m pl); callWith pos f first (backTo pos (starEach (e :: es) X.env)) (backToKw pos (keywordEach [] X.env))) := by rfl) :
    SE X G W (.Call (.Attribute o m apos) (e :: es) [] pos) (rMeth c m F ps.length dv ra re) := .of fun ρ σs h σ H Q hE hR hP pins s I => by
  refine PySem.W.methodCall_KW (pl := pl) (thn (sa ρ σs h σ H (fun x H1 => ∃ i c' dx fs ρ1 h1, x = .ref (ρ1 i) ∧ H1 (ρ1 i) = some (.ins (G c) dx fs) ∧ fs.lookup m = none ∧ REnv (zOf X G) ρ1 h1.length H1 σs σ ∧ RHp (zOf X G) ρ1 h1 H1 ∧ i < h1.length ∧ c' = c ∧
      PostE (zOf X G) W ρ1 h1 H1 σ ((re σs h1).bnd fun vs h => if 1 + vs.length + dv.length = ps.length then F (.ref i :: vs ++ dv) h else .stuck) Q) hE hR (hP.fst fun v h1 ρ1 H1 x _ E1 R1 v1 p1 => ?_) pins s I) fun u s1 ⟨x, H1, I1, rx, i, c', dx, fs, ρ1, h1, ex, e0, l, q1, R1, hi, ec, p1⟩ => ?_) ht
  · split at p1
    · cases v1 with | ref hi => ?_
      split at p1
      · rename_i e0
        obtain ⟨_, dx, vs, f0, t⟩ := R1.ins e0
        split at p1
        · rename_i hc
          exact ⟨_, _, dx, vs, ρ1, h1, rfl, by rw [← hc.1]; exact f0, t.lookup.2 hc.2, hE.ext hR E1, R1, hi, hc.1, p1⟩
        · exact p1.elim
      · exact p1.elim
    · exact p1.elim
  · subst ex
    obtain rfl : u = Value.ref (ρ1 i) := rx
    refine getmeth_ok I1 e0 cl hm l ?_
    refine PySem.W.callWith_K (first := [.ref (ρ1 i)]) (h₀ := X.base) I.ok.mod.kin hm.kp (thn (sl ρ1 σs h1 σ H1 (fun vs H2 => ∀ (pins : List (Addr × Obj)) (s : Shared) (us : List Value), Inv X pins σ H2 s → Vals vs us → wpAny (model X.prog X.w) X.A (call (.ref f) (.ref (ρ1 i) :: us)) (EP X pins σ Q) X.xe s) q1 R1 (p1.fst fun vs h2 ρ2 H2 xs _ E2 R2 v2 p2 pins s us I r => ?_) pos pins s1 I1) fun us s2 ⟨vs, H2, I2, r, q2⟩ => ⟨I2.kIn, q2 pins s2 us I2 r⟩) hst hpl
    split at p2
    · rename_i hl
      have ra : RV (zOf X G) ρ2 h2.length H2 (.ref i) (.ref (ρ1 i)) := by rw [← E2.agree i hi]; exact .ref (Nat.lt_of_lt_of_le hi E2.len)
      exact runG (us := .ref (ρ1 i) :: us) (vs := .ref (ρ1 i) :: xs) (svs := .ref i :: _) g ok hr hb hd I (.cons rfl r) R2 (.cons ra v2) (by simp; omega) p2
    · exact p2.elim
theorem se_meth0 {c : Nat} {pl : Sem Bool} (sa : SE X G W o ra) (cl : Cls X.K (G c)) (hm : Meth X.K (G c) m f) (g : FnG X.prog X.w X.K X.mg X.base G k f fd ps F) (ok : XOs X W) (hr : Room k X.A) (hb : Binds X.K fd ps ds) (hd : Dfl X G dv ds)
    (ht : eval (.Call (.Attribute o m apos) [] [] pos) X.env = (do let ov ← eval o X.env; standAt apos.atName; let (f, first) ← holding [ov] (getMethod ov m pl); callWith pos f first (backTo pos (starEach [] X.env)) (backToKw pos (keywordEach [] X.env))) := by rfl) :
    SE X G W (.Call (.Attribute o m apos) [] [] pos) (rMeth c m F ps.length dv ra lNil) := .of fun ρ σs h σ H Q hE hR hP pins s I => by
  refine PySem.W.methodCall_KW (pl := pl) (thn (sa ρ σs h σ H (fun x H1 => ∀ (pins : List (Addr × Obj)) (s : Shared), Inv X pins σ H1 s → ∃ a dx fs, x = .ref a ∧ H1 a = some (.ins (G c) dx fs) ∧ fs.lookup m = none ∧ wpAny (model X.prog X.w) X.A (call (.ref f) [.ref a]) (EP X pins σ Q) X.xe s) hE hR (hP.fst fun v h1 ρ1 H1 x _ E1 R1 v1 p1 pins s I => ?_) pins s I) fun u s1 ⟨x, H1, I1, rx, q⟩ => ?_) ht
  · split at p1
    · cases v1 with | ref hi => ?_
      split at p1
      · rename_i e0
        obtain ⟨_, dx, vs, f0, t⟩ := R1.ins e0
        split at p1
        · rename_i hc
          refine ⟨_, dx, vs, rfl, by rw [← hc.1]; exact f0, t.lookup.2 hc.2, ?_⟩
          unfold lNil at p1
          rw [Out.bnd_ok] at p1
          split at p1
          · rename_i hl
            exact runG (svs := [_]) g ok hr hb hd I (show Vals [V.ref _] [Value.ref _] from .cons rfl .nil) R1 (.cons (.ref hi) .nil) (by simpa using hl) p1
          · exact p1.elim
        · exact p1.elim
      · exact p1.elim
    · exact p1.elim
  · obtain ⟨a, dx, fs, ex, e0, l, q1⟩ := q pins s1 I1
    subst ex
    obtain rfl : u = Value.ref a := rx
    refine getmeth_ok I1 e0 cl hm l ?_
    exact PySem.W.callWith_K0 (first := [.ref a]) I1.kIn hm.kp q1
/-- C(e, ..) -/
def rMake (c : Nat) (F : FF) (n : Nat) (dv : List SV) (re : LF) : EF := fun σ h => (re σ h).bnd fun vs h => if 1 + vs.length + dv.length = n then (match F (.ref h.length :: vs ++ dv) (h ++ [.ins c []]) with
  | .ok .non h' => .ok (.ref h.length) h'
  | .exc c' fs h' => .exc c' fs h'
  | _ => .stuck) else .stuck
theorem runMk {fI : Addr} {pins : List (Addr × Obj)} {σ : L2.St} {H : Hp} {s : Shared} {Q : VK} {us : List Value} {vs : List V} {svs : List SV} {ρ : Nat → Addr} {h : Hs} {c : Nat} (M : Mk X.K (G c) fI) (g : FnG X.prog X.w X.K X.mg X.base G k fI fd ps F) (ok : XOs X W) (hr : Room (k + 1) X.A) (hb : Binds X.K fd ps ds) (hd : Dfl X G dv ds)
    (I : Inv X pins σ H s) (r : Vals vs us) (R : RHp (zOf X G) ρ h H) (t : RVs (zOf X G) ρ h.length H svs vs) (hlen : 1 + svs.length + dv.length = ps.length)
    (hP : PostE (zOf X G) W ρ h H σ (match F (.ref h.length :: svs ++ dv) (h ++ [.ins c []]) with | .ok .non h' => .ok (.ref h.length) h' | .exc c' fs h' => .exc c' fs h' | _ => .stuck) Q) : wpAny (model X.prog X.w) X.A (call (.ref (G c)) us) (EP X pins σ Q) X.xe s := by
  obtain ⟨xs, rd, td⟩ := hd
  have f1 : H s.heap.objs.size = none := I.hok.fresh (Nat.le_refl _)
  have f2 : H (s.heap.objs.size + 1) = none := I.hok.fresh (Nat.le_succ _)
  have I2 := Inv.made (C := G c) I
  have ne : s.heap.objs.size + 1 ≠ s.heap.objs.size := Nat.succ_ne_self _
  have f2' : (upd H s.heap.objs.size (.own (s.heap.objs.size + 1))) (s.heap.objs.size + 1) = none := by rw [upd_ne ne]; exact f2
  have R1 := R.lay (u := .own (s.heap.objs.size + 1)) f1
  have E1 : Gro ρ h H ρ h (upd H s.heap.objs.size (.own (s.heap.objs.size + 1))) := Gro.lay f1
  have R2 := R1.push (u := .ins (G c) s.heap.objs.size []) (o := .ins c []) f2' ⟨s.heap.objs.size, [], upd_same, .nil⟩
  have E2 : Gro ρ h (upd H s.heap.objs.size (.own (s.heap.objs.size + 1))) (putA ρ h.length (s.heap.objs.size + 1)) (h ++ [.ins c []]) _ := Gro.push (u := .ins (G c) s.heap.objs.size []) f2'
  have E12 := E1.trans R1 E2
  have t2 : RVs (zOf X G) _ _ _ (svs ++ dv) (vs ++ xs) := (t.ext R E12).app (td _ _ _)
  have rx : RV (zOf X G) (putA ρ h.length (s.heap.objs.size + 1)) (h ++ [SO.ins c []]).length (upd (upd H s.heap.objs.size (.own (s.heap.objs.size + 1))) (s.heap.objs.size + 1) (.ins (G c) s.heap.objs.size [])) (.ref h.length) (.ref (s.heap.objs.size + 1)) := by
    have e : RV (zOf X G) (putA ρ h.length (s.heap.objs.size + 1)) (h ++ [SO.ins c []]).length (upd (upd H s.heap.objs.size (.own (s.heap.objs.size + 1))) (s.heap.objs.size + 1) (.ins (G c) s.heap.objs.size [])) (.ref h.length) (.ref (putA ρ h.length (s.heap.objs.size + 1) h.length)) := .ref (by simp)
    rw [putA_same] at e; exact e
  have r2 : Vals (V.ref (s.heap.objs.size + 1) :: (vs ++ xs)) (Value.ref (s.heap.objs.size + 1) :: (us ++ ds)) := .cons rfl (r.append rd)
  have hl : (Value.ref (s.heap.objs.size + 1) :: us ++ ds).length = ps.length := by
    have e1 := r.length; have e2 := rd.length; have e3 := t.length; have e4 := (td ρ 0 H).length
    simp; omega
  have pp : PostE (zOf X G) (WE fun c d H => W c d σ H) (putA ρ h.length (s.heap.objs.size + 1)) (h ++ [.ins c []]) (upd (upd H s.heap.objs.size (.own (s.heap.objs.size + 1))) (s.heap.objs.size + 1) (.ins (G c) s.heap.objs.size [])) [] (F (.ref h.length :: (svs ++ dv)) (h ++ [.ins c []])) (fun v H' => v = .non ∧ Q (.ref (s.heap.objs.size + 1)) H') := by
    have hP' := PostG.step R2 E12 hP
    rw [List.cons_append] at hP'
    cases hF : F (.ref h.length :: (svs ++ dv)) (h ++ [.ins c []]) with
    | ok v h' =>
      rw [hF] at hP'
      cases v <;> first | exact hP'.elim | skip
      intro ρ' H' x E3 R3 r3
      cases r3
      refine ⟨rfl, hP' ρ' H' _ E3 R3 (rx.ext R2 E3)⟩
    | exc c' fs h' =>
      rw [hF] at hP'
      exact fun ρ' H' d ys E3 R3 e q => hP' ρ' H' d ys E3 R3 e q
    | stuck => rw [hF] at hP'; exact hP'.elim
  refine wpAny_call (make_map (f := fI) I.kIn M.makes M.init (beq_iff_eq.mp M.fn) (codeAny_mono (g.run (X.A.under (.builtin "type.__call__" ⟨.ref (G c) :: us, []⟩)) X.stack _ _ ⟨Value.ref (s.heap.objs.size + 1) :: us, []⟩ _ _ _ _ (.ref h.length :: (svs ++ dv)) (fun v H' => v = .non ∧ Q (.ref (s.heap.objs.size + 1)) H') (fun c d H => W c d σ H) (hr.make (G c) us []) ok.gd
    (I2.env0.make (G c) us []) (hb _ (Value.ref (s.heap.objs.size + 1) :: us) I2.kIn hl) r2 R2 (.cons rx t2) (by simp; omega) pp) fun r s' hq' => ?_))
  cases r with
  | error e => exact ok.tk e s' (XE.of_call I2 (fun _ _ _ z => z) hq')
  | ok fl =>
    cases fl with
    | ret u =>
      obtain ⟨v, H', I3, rv, ev, q3⟩ := I2.after hq'
      subst ev
      exact ⟨rv, V.ref (s.heap.objs.size + 1), H', I3, rfl, q3⟩
    | next => exact False.elim hq'
    | brk => exact False.elim hq'
    | cont => exact False.elim hq'
theorem se_make {fI : Addr} {c : Nat} (M : Mk X.K (G c) fI) (g : FnG X.prog X.w X.K X.mg X.base G k fI fd ps F) (ok : XOs X W) (hr : Room (k + 1) X.A) (hm : X.mg x = some (.ref (G c))) (hb : Binds X.K fd ps ds) (hd : Dfl X G dv ds) (sl : SA X G W (e :: es) re) (hg : Gl X x := by rfl)
    (hdb : (x == ("__debug__" : Str)) = false := by decide) (he : starEach (e :: es) X.env = (false, eval e X.env) :: starEach es X.env := by rfl) (hpl : (backTo pos (starEach es X.env)).any (·.1) = false := by rfl) :
    SE X G W (.Call (.Name x p) (e :: es) [] pos) (rMake c F ps.length dv re) := .of fun ρ σs h σ H Q hE hR hP pins s I => by
  refine wpAny_Call_Name_kw (ld_glob I hg hm ?_ hdb)
  refine PySem.W.callWith_K (h₀ := X.base) I.ok.mod.kin M.kp (thn (sl ρ σs h σ H (fun vs H1 => ∀ (pins : List (Addr × Obj)) (s : Shared) (us : List Value), Inv X pins σ H1 s → Vals vs us → wpAny (model X.prog X.w) X.A (call (.ref (G c)) us) (EP X pins σ Q) X.xe s) hE hR (hP.fst fun vs h1 ρ1 H1 xs _ E1 R1 v1 p1 pins s us I r => ?_) pos pins s I) fun us s1 ⟨vs, H1, I1, r, q⟩ => ⟨I1.kIn, q pins s1 us I1 r⟩) he hpl
  split at p1
  · rename_i hl
    exact runMk M g ok hr hb hd I r R1 v1 hl p1
  · exact p1.elim
end
end Pz

set_option Elab.async false
set_option linter.all false
set_option maxRecDepth 100000
set_option maxHeartbeats 1000001
namespace Pz
open PySem PySem.Spec L2

/-! ### methods of built-ins -/
def isTy (T : String) (u : SV) (h : Hs) : Bool := match u with
  | .str _ => T == "str"
  | .scr _ => T == "list"
  | .ref i => match h[i]? with
    | some (.lst _) => T == "list"
    | some (.dct _) => T == "dict"
    | _ => false
  | _ => false
structure MtS (X : Cx) (G : Nat → Addr) (id : String) (f : SV → List SV → Hs → Out SV) : Prop where of ::
  run : ∀ W ρ h H σ u us x xs Q, RHp (zOf X G) ρ h H → RV (zOf X G) ρ h.length H u x → RVs (zOf X G) ρ h.length H us xs → PostE (zOf X G) W ρ h H σ (f u us h) Q → ∀ (pins : List (Addr × Obj)) (s : Shared) (σ' : L2.St) (v : Value) (ws : List Value), Inv X pins σ' H s → RelV x v → Vals xs ws → wpAny (model X.prog X.w) X.A (call (.builtin id) (v :: ws)) (EP X pins σ' Q) X.xe s
instance (X : Cx) (G : Nat → Addr) (id : String) (f : SV → List SV → Hs → Out SV) : CoeFun (MtS X G id f) fun _ => ∀ W ρ h H σ u us x xs Q, RHp (zOf X G) ρ h H → RV (zOf X G) ρ h.length H u x → RVs (zOf X G) ρ h.length H us xs → PostE (zOf X G) W ρ h H σ (f u us h) Q → ∀ (pins : List (Addr × Obj)) (s : Shared) (σ' : L2.St) (v : Value) (ws : List Value), Inv X pins σ' H s → RelV x v → Vals xs ws → wpAny (model X.prog X.w) X.A (call (.builtin id) (v :: ws)) (EP X pins σ' Q) X.xe s := ⟨MtS.run⟩
def mAny (X : Cx) (id : String) : V → List V → Hp → VK → Prop := fun x xs H Q => ∀ (pins : List (Addr × Obj)) (s : Shared) (σ' : L2.St) (v : Value) (ws : List Value), Inv X pins σ' H s → RelV x v → Vals xs ws → wpAny (model X.prog X.w) X.A (call (.builtin id) (v :: ws)) (EP X pins σ' Q) X.xe s
theorem mt_any {X : Cx} {id : String} : MtR X id (mAny X id) := fun pins s σ H x xs v us Q I rx r h => h pins s σ v us I rx r
theorem mts_of {X : Cx} {G : Nat → Addr} {id : String} {f : SV → List SV → Hs → Out SV} {r : V → List V → Hp → VK → Prop} (hm : MtR X id r)
    (k : ∀ W ρ h H σ u us x xs Q, RHp (zOf X G) ρ h H → RV (zOf X G) ρ h.length H u x → RVs (zOf X G) ρ h.length H us xs → PostE (zOf X G) W ρ h H σ (f u us h) Q → r x xs H Q) : MtS X G id f :=
  .of fun W ρ h H σ u us x xs Q hR rx t hP pins s σ' v ws I rv rw => hm pins s σ' H x xs v ws Q I rv rw (k W ρ h H σ u us x xs Q hR rx t hP)
def rBM0 (T : String) (f : SV → List SV → Hs → Out SV) (ra : EF) : EF := fun σ h => (ra σ h).bnd fun u h => if isTy T u h = true then f u [] h else .stuck
def rBM (T : String) (f : SV → List SV → Hs → Out SV) (ra : EF) (re : LF) : EF := fun σ h => (ra σ h).bnd fun u h => if isTy T u h = true then (re σ h).bnd fun us h => f u us h else .stuck
section
variable {X : Cx} {G : Nat → Addr} {W : WX} {pos cpos apos : Pos} {a b o e i : Expr} {es : List Expr} {ra rb ro ri : EF} {re : LF} {name : Str} {T id : String} {f : SV → List SV → Hs → Out SV}
theorem isTy_tyV {ρ : Nat → Addr} {h : Hs} {H : Hp} {u : SV} {x : V} (hR : RHp (zOf X G) ρ h H) (r : RV (zOf X G) ρ h.length H u x) (e : isTy T u h = true) : tyV X.K T x H := by
  unfold isTy at e
  split at e
  · cases r; exact beq_iff_eq.mp e
  · obtain ⟨p, rfl, q⟩ := scr_sq r
    exact .inl ⟨beq_iff_eq.mp e, _, q⟩
  · cases r with | ref hi => ?_
    split at e
    · rename_i e0
      obtain ⟨_, vs, f, t⟩ := hR.lst e0
      exact .inl ⟨beq_iff_eq.mp e, _, SqL.of f⟩
    · rename_i e0
      obtain ⟨_, vs, f, t⟩ := hR.dct e0
      exact .inr (.inr (.inl ⟨beq_iff_eq.mp e, .inl ⟨_, f⟩⟩))
    · cases e
  · cases e
theorem se_bm0 (hm : MtS X G id f) (pa : PlainAttrs T) (slot : Slot T name id) (hty : typeOf (.builtin id) = pure (.type "method_descriptor")) (so : SE X G W o ro)
    (hbase : attributeBase o name X.env (eval o X.env) = eval o X.env := by rfl) (hline : (apos.endLine == cpos.line) = true := by rfl) : SE X G W (.Call (.Attribute o name apos) [] [] cpos) (rBM0 T f ro) :=
  se_pe (pe_bm0 pa slot hty mt_any pe_any hbase hline) fun ρ σs h σ H Q hE hR hP => so ρ σs h σ H _ hE hR (hP.fst fun u h1 ρ1 H1 x _ E1 R1 v1 p1 => by
    split at p1
    · rename_i e0
      exact ⟨isTy_tyV R1 v1 e0, fun pins s σ' v ws I rv rw => hm W ρ1 h1 H1 σ u [] x [] Q R1 v1 .nil p1 pins s σ' v ws I rv rw⟩
    · exact p1.elim)
theorem se_bm (hm : MtS X G id f) (pa : PlainAttrs T) (slot : Slot T name id) (hty : typeOf (.builtin id) = pure (.type "method_descriptor")) (so : SE X G W o ro) (sl : SA X G W (e :: es) re)
    (hbase : attributeBase o name X.env (eval o X.env) = eval o X.env := by rfl)
    (hfew : ((backTo cpos (starEach (e :: es) X.env)).all (fun x => !x.1) && (backToKw cpos (keywordEach [] X.env)).all (fun x => x.1.isSome) && decide ((e :: es).length + ([] : List Keyword).length + (if ([] : List Keyword).isEmpty then 0 else 1) < 30)) = true := by rfl)
    (hline : (apos.endLine == cpos.line) = true := by rfl) (hs : starEach (e :: es) X.env = (false, eval e X.env) :: starEach es X.env := by rfl) (hpl : (backTo cpos (starEach es X.env)).any (·.1) = false := by rfl) :
    SE X G W (.Call (.Attribute o name apos) (e :: es) [] cpos) (rBM T f ro re) :=
  se_pe (pe_bm pa slot hty mt_any pe_any pa_any hbase hfew hline hs hpl) fun ρ σs h σ H Q hE hR hP => so ρ σs h σ H _ hE hR (hP.fst fun u h1 ρ1 H1 x _ E1 R1 v1 p1 => by
    split at p1
    · rename_i e0
      refine ⟨isTy_tyV R1 v1 e0, sl ρ1 σs h1 σ H1 _ (hE.ext hR E1) R1 (p1.fst fun us h2 ρ2 H2 xs _ E2 R2 v2 p2 => ?_)⟩
      exact fun pins s σ' v ws I rv rw => hm W ρ2 h2 H2 σ u us x xs Q R2 (v1.ext R1 E2) v2 p2 pins s σ' v ws I rv rw
    · exact p1.elim)
theorem wr_lst {Z : Cz} {ρ : Nat → Addr} {h : Hs} {H : Hp} {σ : L2.St} {k : Nat} {xs : List SV} {vs : List V} {u : SV} {x : V} {Q : VK} (R : RHp Z ρ h H) (hi : k < h.length) (r : RVs Z ρ h.length H xs vs) (ru : RV Z ρ h.length H u x)
    (hP : PostE Z W ρ h H σ (.ok u (h.set k (.lst xs))) Q) : Q x (upd H (ρ k) (.lst vs)) :=
  PostG.at (Gro.wr hi) (R.wr (o := .lst xs) hi ⟨vs, upd_same, r.ext' (keep_wr R hi) (Nat.le_refl _) fun _ _ => rfl⟩) (by rw [List.length_set]; exact ru.ext' (keep_wr R hi) (Nat.le_refl _) fun _ _ => rfl) hP

/-! the methods -/
def mAppend : SV → List SV → Hs → Out SV
  | .ref k, [v], h => match h[k]? with
    | some (.lst xs) => if xs.length < 16777216 then .ok .non (h.set k (.lst (xs ++ [v]))) else .stuck
    | _ => .stuck
  | _, _, _ => .stuck
theorem mt_appendS : MtS X G "list.append" mAppend := mts_of mt_append fun W ρ h H σ u us x xs Q hR rx t hP => by
  unfold mAppend at hP
  split at hP
  · cases rx with | ref hi => ?_
    obtain ⟨y, rfl, ry⟩ := rvs1 t
    split at hP
    · rename_i e0
      obtain ⟨_, vs, f, t2⟩ := hR.lst e0
      split at hP
      · rename_i hz
        exact ⟨_, _, _, rfl, rfl, f, by rw [← t2.length, lim_eq]; exact hz, wr_lst hR hi (t2.app (.cons ry .nil)) .non hP⟩
      · exact hP.elim
    · exact hP.elim
  · exact hP.elim
def mExtend : SV → List SV → Hs → Out SV
  | .ref k, [.ref j], h => match h[k]?, h[j]? with
    | some (.lst xs), some (.lst ys) => if xs.length + ys.length ≤ 16777216 then .ok .non (h.set k (.lst (xs ++ ys))) else .stuck
    | _, _ => .stuck
  | _, _, _ => .stuck
theorem mt_extendS : MtS X G "list.extend" mExtend := mts_of mt_extend fun W ρ h H σ u us x xs Q hR rx t hP => by
  unfold mExtend at hP
  split at hP
  · cases rx with | ref hi => ?_
    obtain ⟨y, rfl, ry⟩ := rvs1 t
    cases ry with | ref hj => ?_
    split at hP
    · rename_i e0 e1
      obtain ⟨_, vs, f, t2⟩ := hR.lst e0
      obtain ⟨_, ws, g, t3⟩ := hR.lst e1
      split at hP
      · rename_i hz
        exact ⟨_, _, _, _, rfl, rfl, f, g, by rw [← t2.length, ← t3.length, lim_eq]; exact hz, wr_lst hR hi (t2.app t3) .non hP⟩
      · exact hP.elim
    · exact hP.elim
  · exact hP.elim
theorem RVs.dropLast {Z : Cz} {ρ : Nat → Addr} {n : Nat} {H : Hp} {xs : List SV} {vs : List V} (t : RVs Z ρ n H xs vs) : RVs Z ρ n H xs.dropLast vs.dropLast := by
  rw [List.dropLast_eq_take, List.dropLast_eq_take, ← t.length]; exact t.take _
def mPop : SV → List SV → Hs → Out SV
  | .ref k, [], h => match h[k]? with
    | some (.lst xs) => (match xs[xs.length - 1]? with
      | some v => .ok v (h.set k (.lst xs.dropLast))
      | none => .stuck)
    | _ => .stuck
  | .ref k, [.int i], h => match h[k]? with
    | some (.lst xs) => if -(2 ^ 63) ≤ i ∧ i < 2 ^ 63 then (match seqIndex? i xs.length with
      | some j => (match xs[j]? with
        | some v => .ok v (h.set k (.lst (xs.eraseIdx j)))
        | none => .stuck)
      | none => .stuck) else .stuck
    | _ => .stuck
  | _, _, _ => .stuck
theorem RVs.eraseIdx {Z : Cz} {ρ : Nat → Addr} {n : Nat} {H : Hp} : ∀ {xs : List SV} {vs : List V} (j : Nat), RVs Z ρ n H xs vs → RVs Z ρ n H (xs.eraseIdx j) (vs.eraseIdx j)
  | _, _, _, .nil => .nil
  | _, _, 0, .cons _ s => s
  | _, _, j + 1, .cons r s => .cons r (RVs.eraseIdx j s)
theorem mt_popS : MtS X G "list.pop" mPop := .of fun W ρ h H σ u us x xs Q hR rx t hP pins s σ' v ws I rv rw => by
  unfold mPop at hP
  split at hP
  · cases rx with | ref hi => ?_
    cases t
    split at hP
    · rename_i e0
      obtain ⟨_, vs, f, t2⟩ := hR.lst e0
      split at hP
      · rename_i e1
        obtain ⟨y, e2, ry⟩ := t2.get e1
        exact mt_pop pins s σ' H _ _ v ws Q I rv rw ⟨_, _, _, rfl, rfl, f, by rw [← t2.length]; exact e2, wr_lst hR hi t2.dropLast ry hP⟩
      · exact hP.elim
    · exact hP.elim
  · cases rx with | ref hi => ?_
    obtain ⟨y, rfl, ry⟩ := rvs1 t
    cases ry
    split at hP
    · rename_i e0
      obtain ⟨_, vs, f, t2⟩ := hR.lst e0
      split at hP
      · rename_i hz
        split at hP
        · rename_i e1
          split at hP
          · rename_i e2
            obtain ⟨y, e3, ry⟩ := t2.get e2
            exact mt_popAt pins s σ' H _ _ v ws Q I rv rw ⟨_, _, _, _, _, rfl, rfl, f, hz.1, hz.2, by rw [← t2.length]; exact e1, e3, wr_lst hR hi (RVs.eraseIdx _ t2) ry hP⟩
          · exact hP.elim
        · exact hP.elim
      · exact hP.elim
    · exact hP.elim
  · exact hP.elim
/-- a test of a text -/
def mStrB (g : Str → Bool) : SV → List SV → Hs → Out SV
  | .str z, [], h => .ok (.bl (g z)) h
  | _, _, _ => .stuck
theorem mts_strB {g : Str → Bool} (hm : MtR X id (fun x xs H Q => ∃ a, x = .str a ∧ xs = [] ∧ True ∧ Q (.bl (g a)) H)) : MtS X G id (mStrB g) := mts_of hm fun W ρ h H σ u us x xs Q hR rx t hP => by
  unfold mStrB at hP
  split at hP
  · cases rx; cases t
    exact ⟨_, rfl, rfl, trivial, PostG.ret hR (.bl _) hP⟩
  · exact hP.elim
theorem se_isascii (so : SE X G W o ro) (hbase : attributeBase o "isascii" X.env (eval o X.env) = eval o X.env := by rfl) (hline : (apos.endLine == cpos.line) = true := by rfl) : SE X G W (.Call (.Attribute o "isascii" apos) [] [] cpos) (rBM0 "str" (mStrB Txt.isascii) ro) := se_bm0 (mts_strB mt_isascii) PySem.F.plainAttrs_str PySem.F.slot_str_isascii PySem.F.type_str_isascii so hbase hline
theorem se_islower (so : SE X G W o ro) (hbase : attributeBase o "islower" X.env (eval o X.env) = eval o X.env := by rfl) (hline : (apos.endLine == cpos.line) = true := by rfl) : SE X G W (.Call (.Attribute o "islower" apos) [] [] cpos) (rBM0 "str" (mStrB Txt.islower) ro) := se_bm0 (mts_strB mt_islower) PySem.F.plainAttrs_str PySem.F.slot_str_islower PySem.F.type_str_islower so hbase hline
theorem se_isalpha (so : SE X G W o ro) (hbase : attributeBase o "isalpha" X.env (eval o X.env) = eval o X.env := by rfl) (hline : (apos.endLine == cpos.line) = true := by rfl) : SE X G W (.Call (.Attribute o "isalpha" apos) [] [] cpos) (rBM0 "str" (mStrB Txt.isalpha) ro) := se_bm0 (mts_strB mt_isalpha) PySem.F.plainAttrs_str PySem.F.slot_str_isalpha PySem.F.type_str_isalpha so hbase hline

/-! ### o[i] = e on lists, {} -/
def oSetIx : SV → SV → SV → Hs → Option Hs
  | .ref a, .int i, v, h => match h[a]? with
    | some (.lst xs) => (match ixN xs.length i with
      | some j => some (h.set a (.lst (xs.set j v)))
      | none => none)
    | _ => none
  | _, _, _, _ => none
def sSetIx (ro ri rv : EF) : SF := fun σ h => (rv σ h).st σ fun v h => (ro σ h).st σ fun u h => (ri σ h).st σ fun i h => match oSetIx u i v h with
  | some h => .nx σ h
  | none => .stuck
def setAny (X : Cx) : TSet := fun o i v H Q => ∀ (pins : List (Addr × Obj)) (s : Shared) (σ : L2.St) (ov iv u : Value), Inv X pins σ H s → RelV o ov → RelV i iv → RelV v u → wpAny (model X.prog X.w) X.A (setItem ov iv u) (fun _ s' => ∃ H', Inv X pins σ H' s' ∧ Q H') X.xe s
theorem ss_setIx {rv : EF} {p2 : Pos} (so : SE X G W o ro) (si : SE X G W i ri) (sv : SE X G W e rv) (hs : swapsWithSole [.Subscript o i p2] e pos.line X.env = pure false := by rfl) (hw : swappedStores [.Subscript o i p2] e X.env = pure none := by rfl)
    (h1 : (assignEach [.Subscript o i p2] X.env).map (·.2) = [assign (.Subscript o i p2) X.env] := by rfl)
    (ha : ∀ v, assign (.Subscript o i p2) X.env v = (do let ov ← holding [v] (eval o X.env); let iv ← holding [v, ov] (eval i X.env); standAt p2; holding [v, ov, iv] (setItem ov iv v); release [v, ov, iv] []) := by intro _; rfl) :
    SS X G W (.Assign [.Subscript o i p2] e pos) (sSetIx ro ri rv) := .of fun ρ σs h σ H D hE hR hP =>
  any_ps (ps_asg pe_any (pg_sub pe_any pe_any set_list ha) hs hw h1) (sv ρ σs h σ H _ hE hR (PostS.expr hE hR hP fun v h1 ρ1 H1 y _ E1 R1 v1 p1 =>
    so ρ1 σs h1 σ H1 _ (hE.ext hR E1) R1 (PostS.expr (hE.ext hR E1) R1 p1 fun u h2 ρ2 H2 x _ E2 R2 v2 p2 =>
      si ρ2 σs h2 σ H2 _ ((hE.ext hR E1).ext R1 E2) R2 (PostS.expr ((hE.ext hR E1).ext R1 E2) R2 p2 fun n h3 ρ3 H3 z _ E3 R3 v3 p3 => by
        split at p3
        · rename_i h4 e4
          have hE3 := ((hE.ext hR E1).ext R1 E2).ext R2 E3
          have v2 := v2.ext R2 E3
          have v1 := (v1.ext R1 E2).ext R2 E3
          unfold oSetIx at e4
          split at e4
          · cases v2 with | ref hi => ?_
            cases v3
            split at e4
            · rename_i e0
              obtain ⟨_, vs, f, t⟩ := R3.lst e0
              split at e4
              · rename_i j ej
                cases e4
                refine ⟨_, _, _, j, rfl, rfl, f, by rw [← t.length]; exact ej, ?_⟩
                exact p3 ρ3 _ σ (Gro.wr hi) (R3.wr (o := .lst _) hi ⟨_, upd_same, (RVs.set v1 j t).ext' (keep_wr R3 hi) (Nat.le_refl _) fun _ _ => rfl⟩) (hE3.ext R3 (Gro.wr hi))
              · cases e4
            · cases e4
          · cases e4
        · exact p3.elim))))
def rDNil : EF := fun _ h => .ok (.ref h.length) (h ++ [.dct []])
theorem se_dnil : SE X G W (.Dict [] [] pos) rDNil := se_pe pe_dnewK fun ρ σs h σ H Q hE hR hP => fun p hp => new_dct hR hp .nil hP

/-! ### isinstance -/
inductive TyS where
  | b (n : String) | c (i : Nat)
  deriving DecidableEq
def tyS (h : Hs) : SV → Option TyS
  | .non => some (.b "NoneType")
  | .bl _ => some (.b "bool")
  | .int _ => some (.b "int")
  | .str _ => some (.b "str")
  | .tup _ => some (.b "tuple")
  | .scr _ => some (.b "list")
  | .ref i => match h[i]? with
    | some (.lst _) => some (.b "list")
    | some (.dct _) => some (.b "dict")
    | some (.ins c _) => some (.c c)
    | _ => none
  | _ => none
def TyS.v (G : Nat → Addr) : TyS → Value
  | .b n => .type n
  | .c i => .ref (G i)
def clS : SV → Option TyS
  | .ty n => some (.b n)
  | .obj i => some (.c i)
  | _ => none
/-- an own class, as isinstance wants it -/
structure IsC (K : PySem.W.Frag) (C : Addr) : Prop where
  cl : Cls K C
  ha : PySem.W.findIn K (.ref C) "__class__" = some (some (.builtin "object.__class__"))
  hn : PySem.W.specialIn K (.builtin "object.__class__") "__get__" = some (some (.builtin "getset_descriptor.__get__"))
  hk : PySem.W.takesIn K (.builtin "object.__class__") = some true
  hm : PySem.W.mroIn K C (.type "object") = some true
/-- the table of answers -/
structure IsT (X : Cx) (G : Nat → Addr) (T : TyS → TyS → Option Bool) : Prop where
  one : ∀ a b r, T a b = some r → PySem.W.kitOne X.K (a.v G) (b.v G) = some r
  own : ∀ c b r, T (.c c) b = some r → IsC X.K (G c)
def tB (a b : TyS) : Option Bool := match a, b with
  | .b m, .b n => kitB m n
  | _, _ => none
theorem ist_b : IsT X G tB where
  one := fun a b r e => by
    unfold tB at e
    split at e
    · exact kit_ty e
    · cases e
  own := fun c b r e => by simp [tB] at e
def bIsi (T : TyS → TyS → Option Bool) : List SV → Hs → Out SV
  | [u, c], h => match tyS h u, clS c with
    | some t, some k => (match T t k with
      | some r => .ok (.bl r) h
      | none => .stuck)
    | _, _ => .stuck
  | _, _ => .stuck
theorem tyS_x {T : TyS → TyS → Option Bool} {ρ : Nat → Addr} {h : Hs} {H : Hp} {u : SV} {x : V} {t k : TyS} {r : Bool} (hT : IsT X G T) (e2 : T t k = some r) (hR : RHp (zOf X G) ρ h H) (rx : RV (zOf X G) ρ h.length H u x) (e : tyS h u = some t) : TyX X.K H x (t.v G) := by
  unfold tyS at e
  split at e
  · cases rx; cases e; exact .base .non
  · cases rx; cases e; exact .base (.bl _)
  · cases rx; cases e; exact .base (.int _)
  · cases rx; cases e; exact .base (.str _)
  · cases e
    cases rx with | tup q t2 => ?_
    rcases q with (q | ⟨_, q⟩) | ⟨_, _, _, e, c, _⟩
    · exact .base (.tup q)
    · exact .fTuple q
    · exact .kTuple e c
  · cases e
    obtain ⟨a, rfl, q⟩ := scr_sq rx
    rcases q with (q | ⟨_, q⟩) | ⟨_, _, _, e, c, _⟩
    · exact .base (.lst q)
    · exact .base (.frz q)
    · exact .kList e c
  · cases rx with | ref hi => ?_
    split at e
    · rename_i e0
      cases e
      obtain ⟨_, vs, f, t⟩ := hR.lst e0
      exact .base (.lst f)
    · rename_i e0
      cases e
      obtain ⟨_, vs, f, t⟩ := hR.dct e0
      exact .base (.dK f)
    · rename_i e0
      cases e
      obtain ⟨_, dx, vs, f, t⟩ := hR.ins e0
      have q := hT.own _ _ _ e2
      exact .base (.ins f q.cl q.ha q.hn q.hk q.hm)
    · cases e
  · cases e
theorem fn_isi {T : TyS → TyS → Option Bool} (hT : IsT X G T) : FnS X G (.builtin "isinstance") (bIsi T) := fns_of call_isi fun W ρ h H σ us xs Q hR t hP => by
  unfold bIsi at hP
  split at hP
  · obtain ⟨x, y, rfl, r1, r2⟩ := rvs2 t
    split at hP
    · rename_i t k e1 e2
      split at hP
      · rename_i r e3
        refine ⟨x, y, _, k.v G, r, rfl, ?_, tyS_x hT e3 hR r1 e1, hT.one _ _ _ e3, PostG.ret hR (.bl _) hP⟩
        unfold clS at e2
        split at e2
        · cases e2; cases r2; exact .ty _
        · cases e2; cases r2; exact .own _
        · cases e2
      · exact hP.elim
    · exact hP.elim
  · exact hP.elim
end
end Pz

set_option Elab.async false
set_option linter.all false
set_option maxRecDepth 100000
set_option maxHeartbeats 2000001
namespace Pz
open PySem PySem.Spec L2

/-! ### an exception that a suite holds stands in the heap, as it is -/
section
variable {X : Cx} {pins : List (Addr × Obj)} {σ : L2.St} {H : Hp} {s : Shared} {a : Addr} {o : HO}
theorem inv_adopt (I : Inv X pins σ H s) (na : H a = none) (n0 : a ∉ X.ex → X.s_0.heap.get? a = none) (nL : a ≠ X.env.locals) (nc : ∀ x c, X.env.cells.lookup x = some c → c ≠ a) (np : ∀ p ∈ X.pn ++ pins, p.1 ≠ a) (new : ObjOk X.prog X.w (upd H a o) s.heap a o) : Inv X pins σ (upd H a o) s where
  ok := I.ok
  os := I.os
  bare := I.bare
  base :=
    { keep := I.base.keep, slot := I.base.slot, there := I.base.there,
      free := fun b u e n x => by
        by_cases hb : b = a
        · subst hb; rw [n0 x] at e; cases e
        · rw [upd_ne hb]; exact I.base.free b u e n x,
      tups := fun b xs e => by
        have q := I.base.tups b xs e
        rw [upd_ne (ne_of_none q na)]; exact q,
      frzs := fun b u v e => by
        have q := I.base.frzs b u v e
        rw [upd_ne (ne_of_none q na)]; exact q,
      tbls := fun b ps e => by
        obtain ⟨m, q⟩ := I.base.tbls b ps e
        exact ⟨m, by rw [upd_ne (ne_of_none q na)]; exact q⟩ }
  loc := I.loc
  cell := I.cell
  free := by rw [upd_ne (Ne.symm nL)]; exact I.free
  freeC := fun x c e => by rw [upd_ne (nc x c e)]; exact I.freeC x c e
  pin := fun p hp => by
    obtain ⟨h1, h2, h3⟩ := I.pin p hp
    exact ⟨h1, by rw [upd_ne (np p hp)]; exact h2, h3⟩
  hok := fun b u e => by
    by_cases hb : b = a
    · subst hb; rw [upd_same] at e; cases e; exact new
    · rw [upd_ne hb] at e
      refine (I.hok b u e).stay (fun c v _ q => q) (fun c q => ?_) fun c xs q => ?_ <;> (rw [upd_ne (ne_of_none q na)]; exact q)
  len := I.len
/-- into a suite, out of it -/
theorem inv_into (I : Inv X pins σ H s) (a : Addr) : Inv (X.suite a (X.pn ++ pins)) [] σ H s :=
  ⟨I.ok.suite _ _, I.os, I.bare, I.base, I.loc, I.cell, I.free, I.freeC, fun p hp => I.pin p (by rw [List.append_nil] at hp; exact hp), I.hok, I.len⟩
theorem inv_outof {pn' : List (Addr × Obj)} (I : Inv (X.suite a (X.pn ++ pins)) pn' σ H s) (ok : X.Ok) : Inv X pins σ H s :=
  ⟨ok, I.os, I.bare, I.base, I.loc, I.cell, I.free, I.freeC, fun p hp => I.pin p (List.mem_append_left _ hp), I.hok, I.len⟩
end

/-! ### try with several clauses, with names or without -/
def cutI (i : Option Nat) (σ : L2.St) : L2.St := match i with
  | none => σ
  | some k => σ.set k none
def setI (i : Option Nat) (x : V) (σ : L2.St) : L2.St := match i with
  | none => σ
  | some k => σ.set k (some x)
def endI (i : Option Nat) (D : Ends) : Ends := { nx := fun σ H => D.nx (cutI i σ) H, rt := D.rt, bk := fun σ H => D.bk (cutI i σ) H, ct := fun σ H => D.ct (cutI i σ) H }
abbrev Hd := Value × Option Nat × (Addr → List (Addr × Obj) → TS)
def wHd (K : PySem.W.Frag) (Wo : WX) (D : Ends) : List Hd → WX
  | [] => Wo
  | (c, i, ts) :: r => fun cls d σ H => ∃ b, PySem.W.exmOne K cls c = some b ∧ (b = false → wHd K Wo D r cls d σ H) ∧
      (b = true → ∀ (a : Addr) (oe : Obj) (pn : List (Addr × Obj)), H a = none → Zc cls d oe → (∃ vs, oe.data = .fields vs) → ts a pn (endI i D) (setI i (.ref a) σ) (upd H a (.frz oe (.own a))))
def NmOk (X : Cx) : Option Str → Option Nat → Prop
  | none, none => True
  | some n, some k => X.N[k]? = some n ∧ X.env.kindOf n = some .local
  | _, _ => False
inductive HsOk (X : Cx) : List ExceptHandler → List Hd → Prop
  | nil : HsOk X [] []
  | cons {x : Str} {c : Value} {nm : Option Str} {i : Option Nat} {ts : Addr → List (Addr × Obj) → TS} {b : Stmt} {bs : List Stmt} {p q : Pos} {hds : List ExceptHandler} {l : List Hd} (hc : Names X x c) (hn : NmOk X nm i) (hsu : ∀ a pn, PSs (X.suite a pn) (b :: bs) (ts a pn)) (r : HsOk X hds l) :
      HsOk X (.ExceptHandler (some (.Name x p)) nm (b :: bs) q :: hds) ((c, i, ts) :: l)
section
variable {X : Cx} {body : List Stmt} {h₀ : ExceptHandler} {hds : List ExceptHandler} {l : List Hd} {pos : Pos} {tb : WX → TS} {Wo : WX}
theorem ps_tryZ (hst : X.stack = X.env :: X.outer) (hf : X.env.frame = some X.env.locals) (hN : X.N.Nodup) (tk : Takes X Wo) (hb : ∀ (W : WX) (pn : List (Addr × Obj)) (xe : Value → Shared → Prop), Takes (X.tr pn xe) W → PassesOwn (model X.prog X.w) X.A X.env xe → PSs (X.tr pn xe) body (tb W))
    (hh : HsOk X (h₀ :: hds) l) : PS X (.Try body (h₀ :: hds) [] [] pos) (fun D σ H => tb (wHd X.K Wo D l) D σ H) := by
  refine ⟨fun pins s σ H D I h => ?_⟩
  have ok := I.ok
  have hfr : X.A.frames = some (X.env :: X.outer) := by rw [ok.frames, hst]
  refine wpAny_Try_except (wpAny_mono ((hb (wHd X.K Wo D l) (X.pn ++ pins) (fun e s₁ => wpAny (model X.prog X.w) X.A (noteFrame e X.env) (fun _ s₂ => wpAny (model X.prog X.w) X.A (setFlight e none) (fun _ s₃ => wpAny (model X.prog X.w) X.A (handleBy e X.env (h₀ :: hds)) (SP X pins D) X.xe s₃) X.xe s₂) X.xe s₁)
    (fun u s' xx => ?_) PassesOwn.looking).run [] s σ H D (I.toTry _) h) (fun f s1 hsp => ?_) fun e s1 he => he)
  · obtain ⟨a, B, sI, pins', σ', H', cls, d, rfl, J', nb, up, sky, na, os, ag, wz⟩ := xx
    have J : Inv X pins σ' H' sI := J'.ofTry ok
    have sky' : Sky B (X.env :: X.outer) a (Zc cls d) X.env.locals s'.heap := by rw [← hst]; exact sky
    show wpAny (model X.prog X.w) X.A (noteFrame (.ref a) X.env) _ _ _
    refine Sky.land Zc.steady hfr hf sky' fun h3 fl3 up3 => ?_
    have J3 : Inv X pins σ' H' { s' with heap := h3 } := J.landed nb fl3.1 (up.trans up3) os ag
    obtain ⟨oe3, vs3, he3, hz3, hd3⟩ := fl3.there
    -- the exception is no frame, no cell, nothing that was there
    have nfr : a ∉ frs (X.env :: X.outer) := fun hm => by
      obtain ⟨_, o', e', hnf⟩ := fl3.2.2.1.mem hm
      rw [he3] at e'; cases e'
      exact hnf _ hd3
    have nfs : a ∉ frs X.stack := by rw [hst]; exact nfr
    have nI : sI.heap.get? a = none := by
      cases e : sI.heap.get? a with
      | none => rfl
      | some u =>
        have z := nb a u e nfs
        rw [fl3.2.1] at z; cases z
    have nL : a ≠ X.env.locals := fun z => nfr (List.mem_filterMap.mpr ⟨X.env, List.mem_cons_self, by rw [hf, z]⟩)
    have n0 : a ∉ X.ex → X.s_0.heap.get? a = none := fun hx => by
      cases e : X.s_0.heap.get? a with
      | none => rfl
      | some u =>
        obtain ⟨u', z⟩ := J.base.there a u e hx
        rw [nI] at z; cases z
    have nc : ∀ x c, X.env.cells.lookup x = some c → c ≠ a := fun x c e z => by
      obtain ⟨v, u, q, _⟩ := J.cell x c e
      rw [z, nI] at q; cases q
    have np : ∀ p ∈ X.pn ++ pins, p.1 ≠ a := fun p hp z => by
      have q := (J.pin p hp).1
      rw [z, nI] at q; cases q
    have S3 : Inv (X.suite a (X.pn ++ pins)) [] σ' H' { s' with heap := h3 } := inv_into J3 a
    have go : ∀ {hds' : List ExceptHandler} {l' : List Hd}, HsOk X hds' l' → wHd X.K Wo D l' cls d σ' H' → wpAny (model X.prog X.w) X.A (handleBy (.ref a) X.env hds') (SP X pins D) X.xe { s' with heap := h3 } := by
      intro hds' l' hk
      induction hk with
      | nil =>
        intro wz
        refine wpAny_handleBy_nil ?_
        obtain ⟨k1, k2, k3, oe, vs, T, oT, ts', he, hz, hd, h1, hr⟩ := id fl3
        unfold PySem.passOn
        refine wpAny_bind (wpAny_field he hd h1 ?_)
        rw [if_neg (show ¬ ((Value.ref T == Value.none) = true) from by simp)]
        have fin : wpAny (model X.prog X.w) X.A (setFlight (.ref a) X.env.frame) (fun _ s4 => wpAny (model X.prog X.w) X.A (throw (.ref a) : Sem Flow) (SP X pins D) X.xe s4) X.xe { s' with heap := h3 } := by
          rw [hf]
          refine HandSPX.setFlight_upZ fl3 fun h4 hh4 up4 => wpAny_throw (tk _ _ ⟨a, B, sI, pins, σ', H', cls, d, rfl, J, nb, (up.trans up3).trans up4, .inr (.inr (by rw [hst]; exact hh4)), na, os, ag, wz⟩)
        first | exact wpAny_bind (wpAny_pure (wpAny_bind fin)) | exact wpAny_bind fin
      | @cons x c nm i ts b0 bs p q hds2 l2 hc hn hsu r ih =>
        rintro ⟨b, hb1, hno, hyes⟩
        refine wpAny_handleBy_cons (codeAny_handlers_test ?_) (by intro q; cases q)
        have LT : PySem.W.Looks (model X.prog X.w) h3 (typeOf (.ref a)) cls := fun A Q E s k q => wpAny_typeOf_ref (k _ _ he3) (by rw [hz3.1]; exact q)
        have LM := PySem.W.exm_one (M := model X.prog X.w) J3.kIn LT hb1
        have test : ∀ {Q : Value → Shared → Prop} {E : Value → Shared → Prop}, Q c { s' with heap := h3 } → wpAny (model X.prog X.w) (X.A.mark (some (.ref a))) (eval (.Name x p) X.env) Q E { s' with heap := h3 } := fun {Q E} q => by
          obtain ⟨hg, hdbg, hm | ⟨hm, hv, hnn⟩⟩ := hc
          · exact ld_glob (X := X.suite a (X.pn ++ pins)) S3 hg hm q hdbg
          · exact ld_blt (X := X.suite a (X.pn ++ pins)) S3 hg hm hv q hnn hdbg
        refine test (LM.here ?_)
        cases b with
        | false =>
          show wpAny _ X.A (handleBy (.ref a) X.env hds2) _ _ _
          exact ih (hno rfl)
        | true =>
          have land : ∀ h4, HandSPX.FlyingZ B (X.env :: X.outer) a (Zc cls d) h4 → Heap.UpToSlots h3 h4 → ∃ oe4 : Obj, (∃ vs, oe4.data = .fields vs) ∧ Zc cls d oe4 ∧ Inv (X.suite a (X.pn ++ pins)) [] σ' (upd H' a (.frz oe4 (.own a))) { s' with heap := h4 } := fun h4 fl4 up4 => by
            obtain ⟨oe4, vs4, he4, hz4, hd4⟩ := fl4.there
            have J4 : Inv X pins σ' H' { s' with heap := h4 } := J.landed nb fl4.1 ((up.trans up3).trans up4) os ag
            exact ⟨oe4, ⟨_, hd4⟩, hz4, inv_into (inv_adopt (o := .frz oe4 (.own a)) J4 na n0 nL nc np ⟨he4, _, he4⟩) a⟩
          cases nm with
          | none =>
            cases i with
            | some k => exact hn.elim
            | none =>
              refine codeAny_handlers_suite (HandSPX.lands_againZ fl3 fun h4 fl4 up4 => ?_)
              obtain ⟨oe4, dd, hz4, S4⟩ := land h4 fl4 up4
              refine wpAny_mono ((hsu a (X.pn ++ pins)).run [] _ _ _ _ S4 (hyes rfl a oe4 (X.pn ++ pins) na hz4 dd)) (fun f s6 hsp => ?_) (fun _ _ z => False.elim z)
              cases f with
              | ret u => obtain ⟨v6, σ6, H6, S6, r6, q6⟩ := hsp; exact ⟨_, _, _, inv_outof S6 ok, r6, q6⟩
              | next => obtain ⟨σ6, H6, S6, q6⟩ := hsp; exact ⟨_, _, inv_outof S6 ok, q6⟩
              | brk => obtain ⟨σ6, H6, S6, q6⟩ := hsp; exact ⟨_, _, inv_outof S6 ok, q6⟩
              | cont => obtain ⟨σ6, H6, S6, q6⟩ := hsp; exact ⟨_, _, inv_outof S6 ok, q6⟩
          | some n =>
            cases i with
            | none => exact hn.elim
            | some k =>
              obtain ⟨hi, hln⟩ := hn
              refine codeAny_handlers_suite_as (HandSPX.lands_againZ fl3 fun h4 fl4 up4 => ?_)
              obtain ⟨oe4, dd, hz4, S4⟩ := land h4 fl4 up4
              refine store_ok (X := X.suite a (X.pn ++ pins)) (v := .ref a) S4 hN hi (.inl hln) rfl (fun s5 S5 => ?_) (.inr hln)
              refine wpAny_mono ((hsu a (X.pn ++ pins)).run [] s5 _ _ _ S5 (hyes rfl a oe4 (X.pn ++ pins) na hz4 dd)) (fun f s6 hsp => ?_) (fun _ _ z => False.elim z)
              have end_ : ∀ {σ6 : L2.St} {H6 : Hp} {Q : Shared → Prop}, Inv (X.suite a (X.pn ++ pins)) [] σ6 H6 s6 → (∀ s7, Inv X pins (σ6.set k none) H6 s7 → Q s7) → wpAny (model X.prog X.w) X.A (do bindName X.env n .none; unbindBehindTheSuite X.env n q) (fun _ s7 => Q s7) X.xe s6 := fun {σ6 H6 Q} S6 hq => gone_ok (inv_outof S6 ok) hN hi hln hq
              cases f with
              | ret u => obtain ⟨v6, σ6, H6, S6, r6, q6⟩ := hsp; exact end_ S6 fun s7 J7 => ⟨_, _, _, J7, r6, q6⟩
              | next => obtain ⟨σ6, H6, S6, q6⟩ := hsp; exact end_ S6 fun s7 J7 => ⟨_, _, J7, q6⟩
              | brk => obtain ⟨σ6, H6, S6, q6⟩ := hsp; exact end_ S6 fun s7 J7 => ⟨_, _, J7, q6⟩
              | cont => obtain ⟨σ6, H6, S6, q6⟩ := hsp; exact end_ S6 fun s7 J7 => ⟨_, _, J7, q6⟩
    exact go hh wz
  · cases f with
    | next => obtain ⟨σ', H', J', q⟩ := hsp; exact wpAny_execs_nil ⟨σ', H', J'.ofTry ok, q⟩
    | brk => obtain ⟨σ', H', J', q⟩ := hsp; exact ⟨σ', H', J'.ofTry ok, q⟩
    | cont => obtain ⟨σ', H', J', q⟩ := hsp; exact ⟨σ', H', J'.ofTry ok, q⟩
    | ret u => obtain ⟨v, σ', H', J', r, q⟩ := hsp; exact ⟨v, σ', H', J'.ofTry ok, r, q⟩
end
end Pz

set_option Elab.async false
set_option linter.all false
set_option maxRecDepth 100000
set_option maxHeartbeats 2000001
namespace Pz
open PySem PySem.Spec L2

theorem RHp.adoptO {Z : Cz} {ρ : Nat → Addr} {h : Hs} {H : Hp} {D : Addr} {o : SO} (R : RHp Z ρ h H) (hne : ∀ i, i < h.length → ρ i ≠ D) (ro : RO Z (putA ρ h.length D) (h.length + 1) H D o) : RHp Z (putA ρ h.length D) (h ++ [o]) H where
  ob := fun i x e => by
    rw [List.length_append]
    by_cases hi : i < h.length
    · rw [List.getElem?_append_left hi] at e
      rw [putA_lt hi]
      exact (R.ob i x e).ext' (fun a o e _ => e) (by simp) (fun j hj => putA_lt hj) rfl
    · obtain rfl : i = h.length := by have := (List.getElem?_eq_some_iff.mp e).1; simp at this; omega
      simp at e; subst e
      rw [putA_same]; exact ro
  inj := fun i j hi hj e => by
    simp at hi hj
    by_cases h1 : i < h.length <;> by_cases h2 : j < h.length
    · rw [putA_lt h1, putA_lt h2] at e; exact R.inj i j h1 h2 e
    · obtain rfl : j = h.length := by omega
      rw [putA_lt h1, putA_same] at e; exact absurd e (hne i h1)
    · obtain rfl : i = h.length := by omega
      rw [putA_lt h2, putA_same] at e; exact absurd e.symm (hne j h2)
    · omega

/-! ### try in the relation -/
def setO (i : Option Nat) (v : SV) (σ : SEnv) : SEnv := match i with
  | none => σ
  | some k => σ.set k (some v)
def cutO (i : Option Nat) (σ : SEnv) : SEnv := match i with
  | none => σ
  | some k => σ.set k none
def endO (i : Option Nat) : OS → OS
  | .nx σ h => .nx (cutO i σ) h
  | .bk σ h => .bk (cutO i σ) h
  | .ct σ h => .ct (cutO i σ) h
  | .rt v h => .rt v h
  | .exc _ _ _ _ => .stuck
  | .stuck => .stuck
abbrev SHd := TyS × Option Nat × SF
def sHd (E : Nat → TyS → Option Bool) : List SHd → Nat → List (Str × SV) → SF
  | [], c, fs => fun σ h => .exc c fs σ h
  | (k, i, r) :: l, c, fs => fun σ h => match E c k with
    | none => .stuck
    | some false => sHd E l c fs σ h
    | some true => endO i (r (setO i (.xn c h.length) σ) (h ++ [.exc c fs]))
def sTry (E : Nat → TyS → Option Bool) (rb : SF) (l : List SHd) : SF := fun σ h => match rb σ h with
  | .exc c fs σ1 h1 => sHd E l c fs σ1 h1
  | o => o
/-- the table of what catches what -/
def ExT (X : Cx) (G : Nat → Addr) (E : Nat → TyS → Option Bool) : Prop := ∀ c k b, E c k = some b → PySem.W.exmOne X.K (.ref (G c)) (k.v G) = some b
inductive SHs (X : Cx) (G : Nat → Addr) : List ExceptHandler → List SHd → Prop
  | nil : SHs X G [] []
  | cons {x : Str} {k : TyS} {nm : Option Str} {i : Option Nat} {r : SF} {b : Stmt} {bs : List Stmt} {p q : Pos} {hds : List ExceptHandler} {l : List SHd} (hc : Names X x (k.v G)) (hn : NmOk X nm i) (hsu : ∀ a pn, XOs (X.suite a pn) W0 → SSs (X.suite a pn) G W0 (b :: bs) r) (t : SHs X G hds l) :
      SHs X G (.ExceptHandler (some (.Name x p)) nm (b :: bs) q :: hds) ((k, i, r) :: l)
section
variable {X : Cx} {G : Nat → Addr} {W : WX} {pos : Pos}
theorem XOs.suite (ok : XOs X W) {a : Addr} {pn : List (Addr × Obj)} : XOs (X.suite a pn) W0 := ⟨ok.nd, takes0, PassesOwn.never, ok.gd, ok.hu⟩
theorem renv_cut {Z : Cz} {ρ : Nat → Addr} {n : Nat} {H : Hp} {σs : SEnv} {σ : L2.St} (hE : REnv Z ρ n H σs σ) (k : Nat) : REnv Z ρ n H (σs.set k none) (σ.set k none) := renv_wipe hE [k]
theorem renv_cutO {Z : Cz} {ρ : Nat → Addr} {n : Nat} {H : Hp} {σs : SEnv} {σ : L2.St} (hE : REnv Z ρ n H σs σ) (i : Option Nat) : REnv Z ρ n H (cutO i σs) (cutI i σ) := by
  cases i with
  | none => exact hE
  | some k => exact renv_cut hE k
theorem renv_setO {Z : Cz} {ρ : Nat → Addr} {n : Nat} {H : Hp} {σs : SEnv} {σ : L2.St} {v : SV} {x : V} (hE : REnv Z ρ n H σs σ) (r : RV Z ρ n H v x) (i : Option Nat) : REnv Z ρ n H (setO i v σs) (setI i x σ) := by
  cases i with
  | none => exact hE
  | some k => exact renv_set hE r k
theorem hs_ok {E : Nat → TyS → Option Bool} (hT : ExT X G E) (ok : XOs X W) : ∀ {hds : List ExceptHandler} {l : List SHd}, SHs X G hds l → ∃ l', HsOk X hds l' ∧ ∀ {ρ0 ρ : Nat → Addr} {h0 h1 : Hs} {H0 H' : Hp} {σs : SEnv} {σ : L2.St} {D : Ends} {c : Nat} {fs : List (Str × SV)} {d : Addr} {xs : List (Str × V)},
    Gro ρ0 h0 H0 ρ h1 H' → RHp (zOf X G) ρ h1 H' → REnv (zOf X G) ρ h1.length H' σs σ → XdA H0 ρ h1 H' d xs → RF (zOf X G) ρ h1.length H' fs xs → PostS (zOf X G) W ρ0 h0 H0 (sHd E l c fs σs h1) D → wHd X.K W D l' (.ref (G c)) (some d) σ H' := by
  intro hds l t
  induction t with
  | nil => exact ⟨[], .nil, fun E0 R hE hx rf hP => hP _ _ _ _ _ E0 R hE hx rf⟩
  | @cons x k nm i r b bs p q hds l hc hn hsu t ih =>
    obtain ⟨l', h1, h2⟩ := ih
    refine ⟨(k.v G, i, fun a pn => tAnySs (X.suite a pn) (b :: bs)) :: l', .cons hc hn (fun a pn => pss_any) h1, ?_⟩
    intro ρ0 ρ h0 h1 H0 H' σs σ D c fs d xs E0 R hE hx rf hP
    unfold sHd at hP
    cases e : E c k with
    | none => rw [e] at hP; exact hP.elim
    | some v =>
      refine ⟨v, hT _ _ _ e, fun ev => ?_, fun ev => ?_⟩
      · subst ev
        rw [e] at hP
        exact h2 E0 R hE hx rf hP
      · subst ev
        rw [e] at hP
        dsimp only at hP
        rintro a oe pn na ⟨hz1, hz2⟩ dd
        have nd : ∀ i, i < h1.length → ρ i ≠ d := hx.off
        have da : d ≠ a := ne_of_none hx.at' na
        have kl := keep_lay (u := .frz oe (.own a)) na
        have R1 : RHp (zOf X G) ρ h1 (upd H' a (.frz oe (.own a))) := R.lay na
        have rf1 : RF (zOf X G) (putA ρ h1.length d) (h1.length + 1) (upd H' a (.frz oe (.own a))) fs xs := rf.ext' kl (Nat.le_succ _) fun j hj => putA_lt hj
        have ad : (upd H' a (.frz oe (.own a))) d = some (.xd xs) := by rw [upd_ne da]; exact hx.at'
        have R2 := R1.adoptO (o := .exc c fs) nd ⟨xs, ad, rf1⟩
        have E2 : Gro ρ0 h0 H0 (putA ρ h1.length d) (h1 ++ [.exc c fs]) (upd H' a (.frz oe (.own a))) := by
          refine ⟨by have := E0.len; simp; omega, fun i hi => ?_, fun b u e hb => ?_, fun j hj1 hj2 => ?_⟩
          · rw [putA_lt (Nat.lt_of_lt_of_le hi E0.len)]; exact E0.agree i hi
          · have z := E0.fr b u e hb
            rw [upd_ne (ne_of_none z na)]; exact z
          · by_cases hj : j < h1.length
            · rw [putA_lt hj]; exact E0.fresh j hj1 hj
            · obtain rfl : j = h1.length := by simp at hj2; omega
              rw [putA_same]; exact hx.new
        have q2 : REnv (zOf X G) (putA ρ h1.length d) (h1 ++ [SO.exc c fs]).length (upd H' a (.frz oe (.own a))) (setO i (.xn c h1.length) σs) (setI i (.ref a) σ) := by
          refine renv_setO ⟨hE.len, fun j y e => ?_⟩ (.xn (u := .own a) (by simp) upd_same hz1 (by rw [putA_same]; exact hz2) dd) i
          obtain ⟨v, e1, r1⟩ := hE.val j y e
          exact ⟨v, e1, r1.ext' kl (by simp) fun j hj => putA_lt hj⟩
        refine hsu a pn ok.suite _ _ _ _ _ _ q2 R2 ?_
        cases er : r (setO i (.xn c h1.length) σs) (h1 ++ [.exc c fs]) with
        | nx σ6 h6 => rw [er] at hP; exact fun ρ3 H3 σ3 E3 R3 q3 => hP ρ3 H3 _ (E2.trans R2 E3) R3 (renv_cutO q3 i)
        | bk σ6 h6 => rw [er] at hP; exact fun ρ3 H3 σ3 E3 R3 q3 => hP ρ3 H3 _ (E2.trans R2 E3) R3 (renv_cutO q3 i)
        | ct σ6 h6 => rw [er] at hP; exact fun ρ3 H3 σ3 E3 R3 q3 => hP ρ3 H3 _ (E2.trans R2 E3) R3 (renv_cutO q3 i)
        | rt v h6 => rw [er] at hP; exact fun ρ3 H3 x3 E3 R3 q3 => hP ρ3 H3 x3 (E2.trans R2 E3) R3 q3
        | exc c' fs' σ6 h6 => rw [er] at hP; exact hP.elim
        | stuck => rw [er] at hP; exact hP.elim
theorem ss_try {E : Nat → TyS → Option Bool} {body : List Stmt} {h₀ : ExceptHandler} {hds : List ExceptHandler} {rb : SF} {l : List SHd} (hT : ExT X G E) (ok : XOk X W) (hb : ∀ (W' : WX) (pn : List (Addr × Obj)) (xe : Value → Shared → Prop), XOk (X.tr pn xe) W' → SSs (X.tr pn xe) G W' body rb) (hh : SHs X G (h₀ :: hds) l)
    (hst : X.stack = X.env :: X.outer := by rfl) (hf : X.env.frame = some X.env.locals := by rfl) : SS X G W (.Try body (h₀ :: hds) [] [] pos) (sTry E rb l) := .of fun ρ σs h σ H D hE hR hP => by
  obtain ⟨l', h1, h2⟩ := hs_ok hT ok.toXOs hh
  refine any_ps (ps_tryZ hst hf ok.nd ok.tk (tb := fun W D σ H => ∀ (pn : List (Addr × Obj)) (xe : Value → Shared → Prop), Takes (X.tr pn xe) W → PassesOwn (model X.prog X.w) X.A X.env xe → tAnySs (X.tr pn xe) body D σ H) (fun W pn xe tk po => ⟨fun pins s σ H D I q => q pn xe tk po pins s I⟩) h1) ?_
  intro pn xe tk po
  refine hb _ pn xe ⟨⟨ok.nd, tk, po, ok.gd, ok.hu⟩, ok.calm⟩ ρ σs h σ H D hE hR ?_
  unfold sTry at hP
  cases er : rb σs h with
  | exc c fs σ1 h1 =>
    rw [er] at hP
    exact fun σ' ρ' H' d xs E1 R1 q1 hx rf => h2 E1 R1 q1 hx rf hP
  | nx σ6 h6 => rw [er] at hP; exact hP
  | bk σ6 h6 => rw [er] at hP; exact hP
  | ct σ6 h6 => rw [er] at hP; exact hP
  | rt v h6 => rw [er] at hP; exact hP
  | stuck => rw [er] at hP; exact hP

/-! ### e.f of a caught exception -/
def rXf (cs : List Nat) (f : Str) (ra : EF) : EF := fun σ h => (ra σ h).bnd fun v h => match v with
  | .xn c j => (match h[j]? with
    | some (.exc c' fs) => if cs.contains c = true then (match fs.lookup f with
      | some u => .ok u h
      | none => .stuck) else .stuck
    | _ => .stuck)
  | _ => .stuck
def XfOk (X : Cx) (G : Nat → Addr) (cs : List Nat) (f : Str) : Prop := ∀ c ∈ cs, XfC X.K (G c) ∧ PySem.W.findIn X.K (.ref (G c)) f = some none
def tXk (K : PySem.W.Frag) (f : Str) (te : TE) : TE := fun σ H Q => te σ H fun x H1 => ∃ (a C d : Addr) (oe : Obj) (u : HO) (fs : List (Str × V)) (v : V), x = .ref a ∧ XfC K C ∧ PySem.W.findIn K (.ref C) f = some none ∧ H1 a = some (.frz oe u) ∧ oe.cls = .ref C ∧ oe.dict = some d ∧ (∃ vs, oe.data = .fields vs) ∧ H1 d = some (.xd fs) ∧ fs.lookup f = some v ∧ Q v H1
theorem pe_xk {e : Expr} {te : TE} {f : Str} (he : PE X e te) (hb : attributeBase e f X.env (eval e X.env) = eval e X.env := by rfl) : PE X (.Attribute e f pos) (tXk X.K f te) := by
  refine ⟨fun pins s σ H Q I h => attr_of hb (thn (he.run pins s σ H _ I h) fun u s1 hh => ?_)⟩
  obtain ⟨x, H1, I1, rx, a, C, d, oe, w, fs, v, ex, T, hno, ea, hc, hd, ⟨vs, hv⟩, ed, l, q⟩ := hh
  subst ex
  obtain rfl : u = Value.ref a := rx
  have ha : s1.heap.get? a = some oe := (show s1.heap.get? a = some oe ∧ _ from I1.hok a _ ea).1
  obtain ⟨mA, hns, hr⟩ := (show ObjOk X.prog X.w H1 s1.heap d (.xd fs) from I1.hok d _ ed)
  obtain ⟨od, ho, hl⟩ := lookIn_ns hns
  obtain ⟨y, hu, ru⟩ := RelO.some_of (v := v) (o := mA f) (by rw [← l]; exact hr f)
  have J : PySem.W.InstAt s1.heap a oe C (some od) := ⟨ha, hc, by unfold PySem.W.notCls; rw [hv] <;> rfl, by rw [hd]; exact ho⟩
  exact HandSPX.exc_get I1.kIn J T.ga T.gg T.exC (PySem.W.findObj_own T.hdC hno rfl (by rw [hl, hu])) (handed_of ru) ⟨v, H1, I1.tok _, ru, q⟩
theorem RHp.exc {Z : Cz} {ρ : Nat → Addr} {h : Hs} {H : Hp} (R : RHp Z ρ h H) {i c : Nat} {fs : List (Str × SV)} (e : h[i]? = some (.exc c fs)) : ∃ vs, H (ρ i) = some (.xd vs) ∧ RF Z ρ h.length H fs vs := R.ob i _ e
theorem se_xf {e : Expr} {ra : EF} {f : Str} {cs : List Nat} (ho : XfOk X G cs f) (sa : SE X G W e ra) (hb : attributeBase e f X.env (eval e X.env) = eval e X.env := by rfl) : SE X G W (.Attribute e f pos) (rXf cs f ra) :=
  se_pe (pe_xk pe_any hb) fun ρ σs h σ H Q hE hR hP => sa ρ σs h σ H _ hE hR (hP.fst fun v h1 ρ1 H1 x _ E1 R1 v1 p1 => by
    split at p1
    · cases v1 with | xn hi ea hc hd hv => ?_
      split at p1
      · rename_i e0
        obtain ⟨vs, f0, t⟩ := R1.exc e0
        split at p1
        · rename_i hcs
          obtain ⟨h1, h2⟩ := ho _ (by simpa using hcs)
          split at p1
          · rename_i e1
            obtain ⟨y, e2, r⟩ := t.lookup.1 _ e1
            exact ⟨_, _, _, _, _, _, _, rfl, h1, h2, ea, hc, hd, hv, f0, e2, PostG.ret R1 r p1⟩
          · exact p1.elim
        · exact p1.elim
      · exact p1.elim
    · exact p1.elim)

/-! ### raise C(e), C an own class over ValueError whose __init__ stores its argument -/
def spInit (K : PySem.W.Frag) (fld : Str) : Sp := fun vs H Q _ => ∃ (a C : Addr) (y : V), vs = [.ref a, y] ∧ OexC K C ∧ PySem.W.findIn K (.ref C) fld = some none ∧ H a = some (exo a C none) ∧ ∀ dx, H dx = none → dx ≠ a → Q .non (upd (upd H dx (exd dx [(fld, y)])) a (exo a C (some dx)))
theorem ok_init {P : Program} {w : World} {K : PySem.W.Frag} {mg : Str → Option Value} {base : Heap} {qual n0 n1 fld : Str} {st : Stmt} {fI : Addr} {fd : FuncData} {p1 p2 p3 p4 : Pos} (F : Fun K "__init__" qual st fI fd) (S : FnScope [n0, n1] [n0, n1] (defScope st)) (bd : defBody st = [.Assign [.Attribute (.Name n0 p1) fld p2] (.Name n1 p3) p4])
    (v0 : Vis (defScope st) n0) (v1 : Vis (defScope st) n1) (d0 : (n0 == ("__debug__" : Str)) = false) (d1 : (n1 == ("__debug__" : Str)) = false) (c0 : (n0 == ("__classdict__" : Str)) = false) (c1 : (n1 == ("__classdict__" : Str)) = false) : FnOk P w K mg base CX0 1 fI fd [n0, n1] (spInit K fld) := by
  refine F.ok S (fun vs H Q E h => ?_) (fun cdv A outer s H vs Q E hr h => ⟨tOst K fld (tVar 0) (tVar 1), ?_, ?_⟩)
  · obtain ⟨a, C, y, rfl, _⟩ := h; rfl
  · rw [bd]
    exact pss_one (ps_ost (pe_var rfl v0 d0 c0) (pe_var rfl v1 d1 c1))
  · obtain ⟨a, C, y, rfl, T, no, ea, q⟩ := h
    exact ⟨_, rfl, _, rfl, a, C, rfl, T, no, .inl ⟨ea, q⟩⟩
def sRaise (c : Nat) (fld : Str) (re : LF) : SF := fun σ h => (re σ h).st σ fun vs h => match vs with
  | [v] => .exc c [(fld, v)] σ h
  | _ => .stuck
theorem ss_raise {k c : Nat} {x n0 n1 fld : Str} {fI : Addr} {fd : FuncData} {e : Expr} {re : LF} {p p2 : Pos} (T : OexC X.K (G c)) (iC : PySem.W.findIn X.K (.ref (G c)) "__init__" = some (some (.ref fI))) (tI : PySem.W.typeIn X.K (.ref fI) = some (.type "function"))
    (F1 : FnOk X.prog X.w X.K X.mg X.base CX0 k fI fd [n0, n1] (spInit X.K fld)) (ok : XOk X W) (hr : Room (k + 1) X.A) (hb : Binds X.K fd [n0, n1] []) (hm : X.mg x = some (.ref (G c))) (noN : PySem.W.findIn X.K (.ref (G c)) fld = some none) (sl : SA X G W [e] re) (hg : Gl X x := by rfl)
    (hdb : (x == ("__debug__" : Str)) = false := by decide) (he : starEach [e] X.env = (false, eval e X.env) :: starEach [] X.env := by rfl) (hpl : (backTo pos (starEach [] X.env)).any (·.1) = false := by rfl) :
    SS X G W (.Raise (some (.Call (.Name x p) [e] [] pos)) none p2) (sRaise c fld re) := .of fun ρ σs h σ H D hE hR hP =>
  any_ps (ps_raise ok.calm ok.tk (pmk_oex T iC tI F1 hr hb .nil L2.pass0 hg hm pa_any hdb he hpl)) (sl ρ σs h σ H _ hE hR (PostS.expr hE hR hP fun vs h1 ρ1 H1 xs _ E1 R1 v1 p1 => by
    split at p1
    · obtain ⟨x, rfl, r⟩ := rvs1 v1
      refine ⟨by simp, fun a na => ⟨a, G c, x, rfl, T, noN, upd_same, fun dx nx ne => ⟨rfl, dx, [(fld, x)], upd_same, ?_, ?_, ?_⟩⟩⟩
      · rw [upd_ne ne, upd_same]
      · rw [upd_ne ne] at nx; exact nx
      · rw [upd_ne ne] at nx
        have eq : upd (del (upd (upd (upd H1 a (exo a (G c) none)) dx (exd dx [(fld, x)])) a (exo a (G c) (some dx))) a) dx (.xd [(fld, x)]) = upd H1 dx (.xd [(fld, x)]) := by
          funext b
          by_cases h1 : b = dx
          · subst h1; rw [upd_same, upd_same]
          · rw [upd_ne h1, upd_ne h1]
            by_cases h2 : b = a
            · subst h2; rw [del_same]; exact na.symm
            · rw [del_ne h2, upd_ne h2, upd_ne h1, upd_ne h2]
        rw [eq]
        exact p1 σ ρ1 _ dx _ (Gro.lay nx) (R1.lay nx) ((hE.ext hR E1).ext R1 (Gro.lay nx)) ⟨upd_same, nx, fun i hi => R1.ne nx hi⟩ (.cons (r.ext' (keep_lay nx) (Nat.le_refl _) fun _ _ => rfl) .nil)
    · exact p1.elim))
end
end Pz

set_option Elab.async false
set_option linter.all false
set_option maxRecDepth 100000
set_option maxHeartbeats 4000001
namespace Pz
open PySem PySem.Spec L2

/-! ### {elt for target in iter if ..}, elt an int or a text -/
section
variable {X : Cx}
def tScK (P : Program) (w : World) (wi : TI) (g : TG) (tt : TT) (te : TE) (vs : List Nat) : TE := fun σ H Q => wi σ H fun J H1 => ∀ D, H1 D = none → ∃ W : Nat → Nat → Hp → Prop, (∃ m, W 0 m (upd H1 D (SetK P w D (fun _ => false) 0))) ∧ ∀ i m H, W i m H →
  (J.stop i H ∧ Q (.ref D) H) ∨ (J.go i H ∧ ∃ Nx : Hp → Prop, (∀ H', Nx H' → ∃ m', m' < m ∧ W (i + 1) m' H') ∧ ∀ x H', J.yld i H x H' → g x (wipe σ vs) H' fun σ2 H2 => wipe σ2 vs = wipe σ vs ∧ tt σ2 H2 fun b H3 =>
    if b = true then te σ2 H3 fun y H4 => ∃ (k : Key) (S : Key → Bool) (n : Nat), y = kV k ∧ H4 D = some (SetK P w D S n) ∧ n + 1 < scanBound ∧ Nx (upd H4 D (SetK P w D (fun j => S j || decide (j = k)) (if S k = true then n else n + 1))) else Nx H3)
theorem newK {P : Program} {w : World} {h : Heap} : (h.push { cls := .type "set", dict := none, data := .set #[] 0 (.fresh 0 0 (!w.params.followText "set-order")) }).SetOf (mixKind P w) h.objs.size (fun _ => false) 0 :=
  ⟨_, #[], 0, _, Heap.get?_push_size _ rfl, ⟨rfl, rfl, rfl⟩, rfl, (fun e he => by simp at he), (fun k => by simp), (by decide), (by rfl), rfl⟩
theorem pe_scK {elt tg iter : Expr} {ifs : List Expr} {scope : Scope} {own : List (Str × Nat)} {pos : Pos} {wi : TI} {g : TG} {tt : TT} {te : TE} (hc : X.calm = true) (hN : X.N.Nodup) (hi : PI X tg iter wi) (ok : BlkOk X.N X.env.scope scope own)
    (hg : ∀ (s : Shared) (H : Hp) (C : Addr) (cl : List (Str × Addr)) (fp : List Addr), PG (X.blk s H scope (compEnvC scope cl C X.env) fp) tg g) (ht : ∀ (s : Shared) (H : Hp) (C : Addr) (cl : List (Str × Addr)) (fp : List Addr), PTs (X.blk s H scope (compEnvC scope cl C X.env) fp) ifs tt)
    (he : ∀ (s : Shared) (H : Hp) (C : Addr) (cl : List (Str × Addr)) (fp : List Addr), PE (X.blk s H scope (compEnvC scope cl C X.env) fp) elt te) (hs : ∀ x, foldedSetIterable iter X.env x = pure x := by intro _; rfl) :
    PE X (.SetComp elt [⟨tg, iter, ifs, 0⟩] scope pos) (tScK X.prog X.w wi g tt te (own.map (·.2))) := by
  refine ⟨fun pins s σ H Q I h => ?_⟩
  rw [PpSet.eval_SetComp]
  have hfree : ∀ y ∈ scope.names, y.2 = .free → ∃ c, X.env.cells.lookup y.1 = some c := fun y hy e => (ok.free y hy e).elim (fun k => I.ok.has _ (.inl k)) fun k => I.ok.has _ (.inr k)
  refine wpAny_comprehension_free (use := none) rfl hs (closure_ok hfree) ok.kind (fun y hy e => by rw [ok.uniq y hy, e]) (thn (hi.run pins s σ H _ I h) fun xv s1 hx => thn hx fun itv s2 h2 => ?_)
  obtain ⟨it, fp, tn, J, H2, e, I2, T, st2, f2, q⟩ := h2
  subst e
  refine PpSet.newSet_ok (newEnv_comp ?_)
  generalize hD : s2.heap.objs.size = D
  have hDn : H2 D = none := I2.hok.fresh (Nat.le_of_eq hD)
  obtain ⟨W, ⟨m0, w0⟩, turn⟩ := q D hDn
  generalize hs3 : ({ s2 with heap := s2.heap.push { cls := .type "set", dict := none, data := .set #[] 0 (.fresh 0 0 (!X.w.params.followText "set-order")) } } : Shared) = s3
  have h3 : s3.heap = s2.heap.push { cls := .type "set", dict := none, data := .set #[] 0 (.fresh 0 0 (!X.w.params.followText "set-order")) } := by rw [← hs3]
  have I3 : Inv X pins σ (upd H2 D (SetK X.prog X.w D (fun _ => false) 0)) s3 := by
    rw [← hs3]
    exact I2.laid (t' := s2.toks) (fun b o e => Heap.get?_push_of_some _ e) (Nat.le_of_eq hD) (by rw [← hD]; exact setK_new newK)
  have f3 : ∀ b ∈ fp, FpOk X pins (upd H2 D (SetK X.prog X.w D (fun _ => false) 0)) b ∧ b < s3.heap.objs.size := fun b hb => by
    obtain ⟨o, e, _⟩ := T.obj _ _ st2 b hb
    have hlt := Heap.lt_size e
    exact ⟨⟨by rw [upd_ne (by rw [← hD]; exact Nat.ne_of_lt hlt)]; exact (f2 b hb).1, (f2 b hb).2⟩, by rw [h3, Heap.size_push]; exact Nat.lt_succ_of_lt hlt⟩
  have st3 : tn 0 s3.heap := T.keep _ _ _ st2 fun b _ o e => by rw [h3]; exact Heap.get?_push_of_some _ e
  have I4 := block_start I3 ok hN f3
  have pg := hg s3 (upd H2 D (SetK X.prog X.w D (fun _ => false) 0)) s3.heap.objs.size (cellsFrom (s3.heap.objs.size + 1) scope.names (cloFrom X.env.cells scope.names [])) fp
  have pt := ht s3 (upd H2 D (SetK X.prog X.w D (fun _ => false) 0)) s3.heap.objs.size (cellsFrom (s3.heap.objs.size + 1) scope.names (cloFrom X.env.cells scope.names [])) fp
  have pe := he s3 (upd H2 D (SetK X.prog X.w D (fun _ => false) 0)) s3.heap.objs.size (cellsFrom (s3.heap.objs.size + 1) scope.names (cloFrom X.env.cells scope.names [])) fp
  show codeAny _ _ (.compStart (.SetComp elt [⟨tg, iter, ifs, 0⟩] scope pos) 0 (.ref it) (.ref D) (compEnvC scope (cellsFrom (s3.heap.objs.size + 1) scope.names (cloFrom X.env.cells scope.names [])) s3.heap.objs.size X.env)) (compPost (model X.prog X.w) X.A X.xe none (EP X pins σ Q) (.ref D) s3.heap.objs.size) { s3 with heap := pushCells (s3.heap.push { cls := .type "dict", data := .dict #[] }) scope.names }
  generalize hce : compEnvC scope (cellsFrom (s3.heap.objs.size + 1) scope.names (cloFrom X.env.cells scope.names [])) s3.heap.objs.size X.env = ce at I4 pg pt pe ⊢
  have cL : ce.locals = s3.heap.objs.size := by subst hce; rfl
  generalize hH3 : upd H2 D (SetK X.prog X.w D (fun _ => false) 0) = H3 at I3 I4 pg pt pe w0 f3
  generalize hs4 : ({ s3 with heap := pushCells (s3.heap.push { cls := .type "dict", data := .dict #[] }) scope.names } : Shared) = s4 at I4 ⊢
  have st4 : tn 0 s4.heap := T.keep _ _ _ st3 fun b _ o e => by rw [← hs4]; exact pushCells_keeps _ _ _ _ (Heap.get?_push_of_some _ e)
  have stat : ∀ {σ' : L2.St} {H' : Hp} {s' : Shared}, Inv (X.blk s3 H3 scope ce fp) [] σ' H' s' → (∀ b ∈ fp, H' b = none) → ∀ b ∈ fp, FpOk (X.blk s3 H3 scope ce fp) [] H' b := fun {σ' H' s'} I' hn b hb =>
    ⟨hn b hb, (I'.ok.exf b hb).1, I'.ok.exfs b hb, .inl hb, fun x c e => (I'.ok.exf b hb).2 x c e, fun p hp => absurd (show p ∈ ([] : List (Addr × Obj)) ++ [] from hp) (by simp)⟩
  have loop : codeAny (model X.prog X.w) X.A (.compLoop (.SetComp elt [⟨tg, iter, ifs, 0⟩] scope pos) 0 (.ref it) (.ref D) ce) (compPost (model X.prog X.w) X.A X.xe none (EP X pins σ Q) (.ref D) s3.heap.objs.size) s4 := by
    refine PpSet.compLoopS_any (fun n s' => ∃ i H', Inv (X.blk s3 H3 scope ce fp) [] (wipe σ (own.map (·.2))) H' s' ∧ tn i s'.heap ∧ (∀ b ∈ fp, H' b = none) ∧ W i n H') ?_ m0 ⟨0, H3, I4, st4, fun b hb => (f3 b hb).1.1, w0⟩
    rintro n s5 ⟨i, H5, I5, st5, n5, w5⟩
    rcases turn i n H5 w5 with ⟨stop, qq⟩ | ⟨go, Nx, hNx, step⟩
    · refine thnF (T.done (X.blk s3 H3 scope ce fp) rfl rfl rfl hc i [] s5 _ H5 (fun _ _ => False) I5 (stat I5 n5) st5 stop) fun r s6 ⟨hr, I6⟩ => ?_
      subst hr
      have I7 : Inv X pins σ H5 s6 := I3.call' (ch := fp) I6.os I6.base I6.hok I6.bare fun b hb => ⟨(f3 b hb).1.2.2.2.1, (f3 b hb).1.2.1, (f3 b hb).1.2.2.2.2.1, (f3 b hb).1.2.2.2.2.2⟩
      have nC : H5 s3.heap.objs.size = none := by have z : H5 ce.locals = none := I6.free; rw [cL] at z; exact z
      obtain ⟨m, hn, _⟩ := I6.loc
      have hn : s6.heap.Ns ce.locals m := hn
      rw [cL] at hn
      obtain ⟨g0, g1, g2, g3, g4, g5⟩ := I3.fpOk (Nat.le_refl _) nC
      exact ⟨m, hn, fun h'' sb => ⟨.ref D, H5, I7.turned (t' := s6.toks) (fun b o hb e => (sb.2 b hb).trans e) g0 g1 g3 g4 g5, rfl, qq⟩⟩
    · refine thnF (T.item (X.blk s3 H3 scope ce fp) rfl rfl rfl hc i [] s5 _ H5 (fun _ _ => False) I5 (stat I5 n5) st5 go) fun r s6 ⟨u, hr, h6⟩ => ?_
      subst hr
      refine thnF h6 fun _ s7 ⟨x, H7, I7, r7, y7, st7, n7⟩ => ?_
      refine thnF (pg.run _ s7 _ H7 x u _ (I7.pinned (stat I7 n7) (T.obj _ _ st7)) r7 (step x H7 y7)) fun _ s8 ⟨σ8, H8, I8, hw8, q8⟩ => ?_
      refine thnF (pt.run _ s8 σ8 H8 _ I8 q8) fun b s9 ⟨H9, I9, q9⟩ => ?_
      have fin : ∀ {s' : Shared} {H' : Hp}, Inv (X.blk s3 H3 scope ce fp) ([] ++ pinsAt fp s7.heap) σ8 H' s' → Nx H' → ∃ m, m < n ∧ ∃ i H', Inv (X.blk s3 H3 scope ce fp) [] (wipe σ (own.map (·.2))) H' s' ∧ tn i s'.heap ∧ (∀ b ∈ fp, H' b = none) ∧ W i m H' := fun {s' H'} I' nx => by
        obtain ⟨m', hm, w'⟩ := hNx H' nx
        have pin' : ∀ b ∈ fp, ∀ o, s7.heap.get? b = some o → s'.heap.get? b = some o ∧ H' b = none := fun b hb o e => let z := I'.pin (b, o) (List.mem_append_right _ (List.mem_append_right _ (mem_pinsAt hb e))); ⟨z.1, z.2.1⟩
        refine ⟨m', hm, i + 1, H', (I'.unpinned (pins := [])).weak (by rw [← hw8, wipe_length]) (fun j v e => by rw [← hw8] at e; exact (wipe_some e).1), T.keep _ _ _ st7 fun b hb o e => (pin' b hb o e).1, fun b hb => ?_, w'⟩
        obtain ⟨o, e, _⟩ := T.obj _ _ st7 b hb
        exact (pin' b hb o e).2
      cases b with
      | false => simp only [Bool.false_eq_true, if_false] at q9 ⊢; exact fin I9 q9
      | true =>
        simp only [if_true] at q9 ⊢
        refine thnF (pe.run _ s9 σ8 H9 _ I9 q9) fun z s10 ⟨yv, H10, I10, r10, k, S0, n0, ey, hD10, hz10, nx⟩ => ?_
        subst ey
        refine thnF (mt_saddK (X := X.blk s3 H3 scope ce fp) _ s10 σ8 H10 (.ref D) [kV k] (.ref D) [z] (fun _ H' => Nx H') I10 rfl (.cons r10 .nil) ⟨D, k, S0, n0, rfl, rfl, hD10, hz10, nx⟩) fun _ s11 ⟨_, H11, I11, _, nx'⟩ => fin I11 nx'
  exact PpSet.codeAny_compStart_set loop (T.self X.A 0 _ _ _ st4 loop)
end

/-! ### .. in the relation -/
def keyS : SV → Option Key
  | .int i => some (.inl i)
  | .str x => some (.inr x)
  | _ => none
def addK (ks : List Key) (k : Key) : List Key := if hasK ks k = true then ks else ks ++ [k]
theorem hasK_iff {ks : List Key} {k : Key} : hasK ks k = true ↔ k ∈ ks := by
  unfold hasK
  rw [List.any_eq_true]
  exact ⟨fun ⟨j, h1, h2⟩ => of_decide_eq_true h2 ▸ h1, fun h => ⟨k, h, decide_eq_true rfl⟩⟩
theorem addK_fun (ks : List Key) (k : Key) : hasK (addK ks k) = fun j => hasK ks j || decide (j = k) := by
  funext j
  rw [Bool.eq_iff_iff]
  simp only [Bool.or_eq_true, decide_eq_true_eq]
  unfold addK
  split
  · rename_i h
    exact ⟨.inl, fun e => e.elim id fun e => by rw [e]; exact h⟩
  · rw [hasK_iff, List.mem_append, List.mem_singleton, hasK_iff]
theorem addK_len (ks : List Key) (k : Key) : (addK ks k).length = if hasK ks k = true then ks.length else ks.length + 1 := by
  unfold addK
  split <;> simp
theorem addK_nd {ks : List Key} (k : Key) (h : ks.Nodup) : (addK ks k).Nodup := by
  unfold addK
  split
  · exact h
  · rename_i z
    rw [List.nodup_append]
    refine ⟨h, by simp, fun a ha b hb e => z ?_⟩
    rw [List.mem_singleton] at hb
    rw [hasK_iff, ← hb, ← e]; exact ha
theorem keyS_rv {Z : Cz} {ρ : Nat → Addr} {n : Nat} {H : Hp} {v : SV} {x : V} {k : Key} (r : RV Z ρ n H v x) (e : keyS v = some k) : x = kV k := by
  unfold keyS at e
  split at e
  · cases e; cases r; rfl
  · cases e; cases r; rfl
  · cases e
def scGo (g : GF) (tt : SEnv → Hs → Out Bool) (te : EF) (chk : Hs → Bool) (σw : SEnv) : List SV → Hs → List Key → Out (List Key)
  | [], h, acc => if chk h = true then .ok acc h else .stuck
  | x :: xs, h, acc => if chk h = true ∧ acc.length < 4000 then (match g x σw with
    | none => .stuck
    | some σ2 => match tt σ2 h with
      | .ok true h2 => (match te σ2 h2 with
        | .ok y h3 => (match keyS y with
          | some k => scGo g tt te chk σw xs (gcV h 0 h3) (addK acc k)
          | none => .stuck)
        | _ => .stuck)
      | .ok false h2 => scGo g tt te chk σw xs (gcV h 0 h2) acc
      | _ => .stuck) else .stuck
def rSc (own : List Nat) (ri : IF) (g : GF) (tt : SEnv → Hs → Out Bool) (te : EF) : EF := fun σ h => (ri σ h).bnd fun p h => match scGo g tt te p.2 (wipeS σ own) p.1 h [] with
  | .ok acc h => .ok (.ref h.length) (h ++ [.set acc])
  | _ => .stuck
section
variable {Z : Cz} {ρ : Nat → Addr} {h : Hs} {H : Hp} {D : Addr} {u u' : HO}
def OffK (o : HO) : Prop := ¬ ((∃ xs, o = .tup xs) ∨ (∃ b u, o = .frz b u) ∨ (∃ y, o = .own y))
theorem keep_offK (hD : H D = some u) (hu : OffK u) : ∀ a o, H a = some o → ((∃ xs, o = .tup xs) ∨ (∃ b u, o = .frz b u) ∨ (∃ y, o = .own y)) → upd H D u' a = some o := fun a o e k => by
  have ne : a ≠ D := fun z => by subst z; rw [hD] at e; cases e; exact hu k
  rw [upd_ne ne]; exact e
theorem RHp.offK (R : RHp Z ρ h H) (hD : H D = some u) (hu : OffK u) (hne : ∀ i, i < h.length → ρ i ≠ D) : RHp Z ρ h (upd H D u') :=
  ⟨fun i o e => (R.ob i o e).ext' (keep_offK hD hu) (Nat.le_refl _) (fun _ _ => rfl) (upd_ne (hne i (List.getElem?_eq_some_iff.mp e).1)), R.inj⟩
theorem offK_set {P : Program} {w : World} {a : Addr} {S : Key → Bool} {n : Nat} : OffK (SetK P w a S n) := by
  rintro (⟨_, k⟩ | ⟨_, _, k⟩ | ⟨_, k⟩) <;> cases k
end
section
variable {X : Cx} {G : Nat → Addr} {W : WX} {pos : Pos} {tg : Expr} {tt : SEnv → Hs → Out Bool}
theorem sc_post {elt iter : Expr} {ifs : List Expr} {scope : Scope} {vs : List Nat} {ri : IF} {g : GF} {te : EF} {is : List Nat} (si : SI X G W tg iter ri) (sg : ∀ (s : Shared) (H : Hp) (C : Addr) (cl : List (Str × Addr)) (fp : List Addr), SG (X.blk s H scope (compEnvC scope cl C X.env) fp) G tg g is) (hown : ∀ i ∈ is, i ∈ vs)
    (st : ∀ (s : Shared) (H : Hp) (C : Addr) (cl : List (Str × Addr)) (fp : List Addr), STs (X.blk s H scope (compEnvC scope cl C X.env) fp) G W0 ifs tt) (se : ∀ (s : Shared) (H : Hp) (C : Addr) (cl : List (Str × Addr)) (fp : List Addr), SE (X.blk s H scope (compEnvC scope cl C X.env) fp) G W0 elt te)
    {ρ : Nat → Addr} {σs : SEnv} {h : Hs} {σ : L2.St} {H : Hp} {Q : VK} (hE : REnv (zOf X G) ρ h.length H σs σ) (hR : RHp (zOf X G) ρ h H) (hP : PostE (zOf X G) W ρ h H σ (rSc vs ri g tt te σs h) Q) : tScK X.prog X.w (tAnyI X tg iter) (gAll X scope tg) (tsAll X scope ifs) (eAll X scope elt) vs σ H Q := by
  refine si ρ σs h σ H _ hE hR (hP.fst fun p h1 ρ1 H1 J _ E1 R1 hJ p1 D hD => ?_)
  have hJ := hJ h1 rfl R1
  have hEw := renv_wipe (hE.ext hR E1) vs
  let Fin : Out (List Key) → Prop := fun r => match r with
    | .ok acc h => PostE (zOf X G) W ρ1 h1 H1 σ (.ok (.ref h.length) (h ++ [.set acc])) Q
    | _ => False
  have p1' : Fin (scGo g tt te p.2 (wipeS σs vs) p.1 h1 []) := by
    cases e : scGo g tt te p.2 (wipeS σs vs) p.1 h1 [] with
    | ok acc h => rw [e] at p1; exact p1
    | exc c fs h => rw [e] at p1; exact p1.elim
    | stuck => rw [e] at p1; exact p1.elim
  let Wd : Nat → Hp → Prop := fun i H' => ∃ ρ2 h2 acc, Gro ρ1 h1 H1 ρ2 h2 H' ∧ RHp (zOf X G) ρ2 h2 H' ∧ H' D = some (SetK X.prog X.w D (hasK acc) acc.length) ∧ (∀ i, i < h2.length → ρ2 i ≠ D) ∧ acc.Nodup ∧ Fin (scGo g tt te p.2 (wipeS σs vs) (p.1.drop i) h2 acc)
  refine ⟨fun i m H' => m = p.1.length - i ∧ i ≤ p.1.length ∧ Wd i H', ⟨p.1.length, by simp, Nat.zero_le _, ρ1, h1, [], Gro.lay hD, R1.lay hD, upd_same, fun i hi => R1.ne hD hi, List.nodup_nil, p1'⟩, ?_⟩
  rintro i m H2 ⟨rfl, hi, ρ2, h2, acc, E2, R2, hD2, ne2, nd2, p2⟩
  by_cases hlt : i < p.1.length
  · right
    rw [List.drop_eq_getElem_cons hlt] at p2
    unfold scGo at p2
    split at p2
    · rename_i hc
      obtain ⟨hgo, hy⟩ := hJ.turn i p.1[i] ρ2 h2 H2 E2 R2 hc.1 (by simp [hlt])
      refine ⟨hgo, Wd (i + 1), fun H' q => ⟨_, by omega, rfl, hlt, q⟩, fun x H3 y => ?_⟩
      obtain ⟨R3, E3, v3⟩ := hy x H3 y
      have hD3 := E3.fr D _ hD2 ne2
      split at p2
      · exact p2.elim
      · rename_i σ2 e1
        intro s0 H0 C0 cl0 fp0
        refine sg s0 H0 C0 cl0 fp0 ρ2 _ _ σ2 _ _ H3 x _ ((hEw.ext R1 E2).ext R2 E3) v3 e1 fun σ3 ws3 q3 => ⟨by rw [ws3 vs hown, wipe_idem], ?_⟩
        intro s1 H1' C1 cl1 fp1
        refine st s1 H1' C1 cl1 fp1 ρ2 σ2 h2 σ3 H3 _ q3 R3 ?_
        cases ht : tt σ2 h2 with
        | exc c fs h => rw [ht] at p2; exact p2.elim
        | stuck => rw [ht] at p2; exact p2.elim
        | ok b h3 =>
          intro ρ3 H4 b' E4 R4 eb
          obtain rfl : b = b' := eb
          have hD4 := E4.fr D _ hD3 ne2
          have ne3 : ∀ i, i < h3.length → ρ3 i ≠ D := fun i hi z => by
            by_cases hl : i < h2.length
            · exact ne2 i hl ((E4.agree i hl).symm.trans z)
            · have w := E4.fresh i (Nat.not_lt.mp hl) hi
              rw [z, hD3] at w; cases w
          cases b with
          | false =>
            rw [ht] at p2
            dsimp only at p2
            rw [if_neg Bool.false_ne_true]
            obtain ⟨a1, a2, a3⟩ := gcV_ok (m := 0) R3 R4 E4
            refine ⟨ρ3, gcV h2 0 h3, acc, (E2.trans R2 E3).trans R3 a2, a1, hD4, fun i hi => ne3 i ?_, nd2, p2⟩
            rcases a3 with e | ⟨e, _⟩
            · rw [← e]; exact hi
            · rw [e] at hi; exact Nat.lt_of_lt_of_le hi E4.len
          | true =>
            rw [ht] at p2
            dsimp only at p2
            rw [if_pos rfl]
            intro s2 H2' C2 cl2 fp2
            refine se s2 H2' C2 cl2 fp2 ρ3 σ2 h3 σ3 H4 _ (q3.ext R3 E4) R4 ?_
            cases hte : te σ2 h3 with
            | exc c fs h => rw [hte] at p2; exact p2.elim
            | stuck => rw [hte] at p2; exact p2.elim
            | ok y h4 =>
              rw [hte] at p2
              dsimp only at p2
              split at p2
              · rename_i k ek
                intro ρ4 H5 yv E5 R5 r5
                have hD5 := E5.fr D _ hD4 ne3
                have E45 := E4.trans R4 E5
                have ne4 : ∀ i, i < h4.length → ρ4 i ≠ D := fun i hi z => by
                  by_cases hl : i < h2.length
                  · exact ne2 i hl ((E45.agree i hl).symm.trans z)
                  · have w := E45.fresh i (Nat.not_lt.mp hl) hi
                    rw [z, hD3] at w; cases w
                obtain ⟨a1, a2, a3⟩ := gcV_ok (m := 0) R3 R5 E45
                have ne5 : ∀ i, i < (gcV h2 0 h4).length → ρ4 i ≠ D := fun i hi => ne4 i (by
                  rcases a3 with e | ⟨e, _⟩
                  · rw [← e]; exact hi
                  · rw [e] at hi; exact Nat.lt_of_lt_of_le hi E45.len)
                refine ⟨k, hasK acc, acc.length, keyS_rv r5 ek, hD5, ?_, ρ4, gcV h2 0 h4, addK acc k, ?_, a1.offK hD5 offK_set ne5, ?_, ne5, addK_nd k nd2, p2⟩
                · have := hc.2; unfold scanBound; omega
                · have G0 := (E2.trans R2 E3).trans R3 a2
                  refine ⟨G0.len, G0.agree, fun a o e hx => ?_, G0.fresh⟩
                  rw [upd_ne (ne_of_none e hD)]
                  exact G0.fr a o e hx
                · rw [upd_same, addK_fun, addK_len]
              · exact p2.elim
    · exact p2.elim
  · left
    obtain rfl : i = p.1.length := by omega
    rw [List.drop_length] at p2
    unfold scGo at p2
    split at p2
    · rename_i hc
      refine ⟨hJ.stop ρ2 h2 H2 E2 R2 hc, ?_⟩
      refine PostG.at (v := SV.ref h2.length) ?_ (R2.adoptO (o := .set acc) ne2 ⟨nd2, hD2⟩) ?_ (show PostE (zOf X G) W ρ1 h1 H1 σ (.ok (.ref h2.length) (h2 ++ [.set acc])) Q from p2)
      · refine ⟨by have := E2.len; simp; omega, fun i hi => ?_, E2.fr, fun j h1' h2' => ?_⟩
        · rw [putA_lt (Nat.lt_of_lt_of_le hi E2.len)]; exact E2.agree i hi
        · by_cases hj : j < h2.length
          · rw [putA_lt hj]; exact E2.fresh j h1' hj
          · obtain rfl : j = h2.length := by simp at h2'; omega
            rw [putA_same]; exact hD
      · have e : RV (zOf X G) (putA ρ2 h2.length D) (h2 ++ [SO.set acc]).length H2 (.ref h2.length) (.ref (putA ρ2 h2.length D h2.length)) := .ref (by simp)
        rw [putA_same] at e; exact e
    · exact p2.elim
theorem se_sc {elt iter : Expr} {ifs : List Expr} {scope : Scope} (own : List (Str × Nat)) {ri : IF} {g : GF} {te : EF} {is : List Nat} (ok : XOk X W) (si : SI X G W tg iter ri) (bo : blkC X.N X.env.scope scope own = true)
    (sg : ∀ (s : Shared) (H : Hp) (C : Addr) (cl : List (Str × Addr)) (fp : List Addr), XOk (X.blk s H scope (compEnvC scope cl C X.env) fp) W0 → SG (X.blk s H scope (compEnvC scope cl C X.env) fp) G tg g is) (hown : is.all (fun i => (own.map (·.2)).contains i) = true)
    (st : ∀ (s : Shared) (H : Hp) (C : Addr) (cl : List (Str × Addr)) (fp : List Addr), XOk (X.blk s H scope (compEnvC scope cl C X.env) fp) W0 → STs (X.blk s H scope (compEnvC scope cl C X.env) fp) G W0 ifs tt)
    (se : ∀ (s : Shared) (H : Hp) (C : Addr) (cl : List (Str × Addr)) (fp : List Addr), XOk (X.blk s H scope (compEnvC scope cl C X.env) fp) W0 → SE (X.blk s H scope (compEnvC scope cl C X.env) fp) G W0 elt te)
    (hs : ∀ x, foldedSetIterable iter X.env x = pure x := by intro _; rfl) : SE X G W (.SetComp elt [⟨tg, iter, ifs, 0⟩] scope pos) (rSc (own.map (·.2)) ri g tt te) :=
  se_pe (pe_scK (own := own) (g := gAll X scope tg) (tt := tsAll X scope ifs) (te := eAll X scope elt) ok.calm ok.nd pi_any (blkOk_by bo) (fun s H C cl fp => ⟨fun pins s' σ H v u Q I r q => q s _ C cl fp pins s' u I r⟩) (fun s H C cl fp => ⟨fun pins s' σ H Q I q => q s _ C cl fp pins s' I⟩) (fun s H C cl fp => ⟨fun pins s' σ H Q I q => q s _ C cl fp pins s' I⟩) hs)
    fun ρ σs h σ H Q hE hR hP => sc_post si (fun s H C cl fp => sg s H C cl fp ok.blk) (fun i hi => by have := List.all_eq_true.mp hown i hi; simpa using this) (fun s H C cl fp => st s H C cl fp ok.blk) (fun s H C cl fp => se s H C cl fp ok.blk) hE hR hP
end

/-! ### len of a set, i in range(a, b) -/
section
variable {X : Cx} {G : Nat → Addr} {W : WX} {pos : Pos}
theorem call_lenK : CallR X (.builtin "len") (fun xs H Q => ∃ (a : Addr) (S : Key → Bool) (n : Nat), xs = [.ref a] ∧ H a = some (SetK X.prog X.w a S n) ∧ n < 1000000 ∧ Q (.int n) H) := by
  intro pins s σ H xs us Q I r h
  obtain ⟨a, S, n, rfl, ha, hn, q⟩ := h
  obtain ⟨u, rfl, ru⟩ := vals1 r
  obtain rfl : u = Value.ref a := ru
  obtain ⟨o, es, ep, t, ho, hex, hd, _, _, _, hf, hsz⟩ := setK_get I ha
  exact call_len_set ho hex hd hf (by omega) ⟨.int n, H, I.tok _, ⟨_, by rw [hsz]⟩, q⟩
theorem RHp.set {Z : Cz} {ρ : Nat → Addr} {h : Hs} {H : Hp} (R : RHp Z ρ h H) {i : Nat} {ks : List Key} (e : h[i]? = some (.set ks)) : ks.Nodup ∧ H (ρ i) = some (SetK Z.P Z.w (ρ i) (hasK ks) ks.length) := R.ob i _ e
def bLen2 (us : List SV) (h : Hs) : Out SV := match us with
  | [.ref a] => (match h[a]? with
    | some (.set ks) => if ks.length < 1000000 then .ok (.int ks.length) h else .stuck
    | _ => bLen us h)
  | _ => bLen us h
theorem fn_len2 : FnS X G (.builtin "len") bLen2 := .of fun W ρ h H σ us xs Q hR t hP => by
  unfold bLen2 at hP
  split at hP
  · split at hP
    · rename_i e0
      obtain ⟨x, rfl, r⟩ := rvs1 t
      cases r with | ref hi => ?_
      split at hP
      · rename_i hz
        exact fun pins s σ' ws I rw => call_lenK pins s σ' H _ ws Q I rw ⟨_, _, _, rfl, (hR.set e0).2, hz, PostG.ret hR (.int _) hP⟩
      · exact hP.elim
    · exact fn_len W ρ h H σ _ xs Q hR t hP
  · exact fn_len W ρ h H σ us xs Q hR t hP
/-- range(a, b) as a value -/
def bRng : List SV → Hs → Out SV
  | [.int i, .int j], h => .ok (.rng i j) h
  | _, _ => .stuck
theorem call_rng : CallR X (.type "range") (fun vs H Q => ∃ i j, vs = [V.int i, V.int j] ∧ ∀ (p : Addr) (o : Obj), H p = none → Q (.ref p) (upd H p (.frz o (.rng i j)))) := by
  intro pins s σ H vs us Q I r h
  obtain ⟨i, j, rfl, q⟩ := h
  obtain ⟨u1, u2, rfl, ⟨t, rfl⟩, ⟨u, rfl⟩⟩ := vals2 r
  refine call_range_2 ⟨.ref s.heap.objs.size, _, I.laid (t' := s.toks + 1) (o := .frz _ (.rng i j)) (fun b o e => Heap.get?_push_of_some _ e) (Nat.le_refl _) ⟨Heap.get?_push_size _ rfl, t, u, s.toks, Heap.get?_push_size _ rfl⟩, rfl, q _ _ (I.hok.fresh (Nat.le_refl _))⟩
theorem fn_rng : FnS X G (.type "range") bRng := fns_of call_rng fun W ρ h H σ us xs Q hR t hP => by
  unfold bRng at hP
  split at hP
  · obtain ⟨x, y, rfl, r1, r2⟩ := rvs2 t
    cases r1; cases r2
    exact ⟨_, _, rfl, fun p o hp => PostG.at (Gro.lay hp) (hR.lay hp) (.rng upd_same) hP⟩
  · exact hP.elim
theorem rng_has {pins : List (Addr × Obj)} {σ : L2.St} {H : Hp} {s : Shared} {a : Addr} {o : Obj} {lo hi i : Int} {k : Tok} {Q : Bool → Shared → Prop} (I : Inv X pins σ H s) (ha : H a = some (.frz o (.rng lo hi))) (h : ∀ t, Q (decide (lo ≤ i ∧ i < hi)) { s with toks := t }) : wpAny (model X.prog X.w) X.A (contains (.ref a) (.int i k)) Q X.xe s := by
  obtain ⟨_, t1, t2, t3, ho⟩ := (show s.heap.get? a = some o ∧ ObjOk X.prog X.w H s.heap a (.rng lo hi) from I.hok a _ ha)
  refine wpAny_contains_slot (T := "range") ⟨_, ho, rfl⟩ F.slot_range_contains (call_meets F.slot_range_contains ⟨_, ho, rfl⟩ F.entry_range_contains (F.args_range_contains_2 _ _) (q_contains a lo hi i t1 t2 t3 k) ⟨ho, wpAny_truthy_bool ?_⟩)
  rw [place1]
  exact h _
def oIn2 : SV → SV → Hs → Out SV := fun u v h => match v with
  | .rng lo hi => (match u with
    | .int i => .ok (.bl (decide (lo ≤ i ∧ i < hi))) h
    | _ => .stuck)
  | _ => oIn u v h
def oNotIn2 : SV → SV → Hs → Out SV := fun u v h => match v with
  | .rng lo hi => (match u with
    | .int i => .ok (.bl (!decide (lo ≤ i ∧ i < hi))) h
    | _ => .stuck)
  | _ => oNotIn u v h
theorem os_in2 (ok : XOs X W) : OpS X G W (compareOp .In) oIn2 := .of fun ρ h H σ u v x y Q hR r1 r2 hP pins s σ' a b I ra rb => by
  unfold oIn2 at hP
  split at hP
  · split at hP
    · cases r1; cases r2 with | rng q => ?_
      obtain ⟨k, rfl⟩ := ra
      obtain rfl : b = Value.ref _ := rb
      exact wpAny_bind (rng_has I q fun t => wpAny_pure ⟨.bl _, H, I.tok _, rfl, PostG.ret hR (.bl _) hP⟩)
    · exact hP.elim
  · exact os_in ok ρ h H σ u v x y Q hR r1 r2 hP pins s σ' a b I ra rb
theorem os_notin2 (ok : XOs X W) : OpS X G W (compareOp .NotIn) oNotIn2 := .of fun ρ h H σ u v x y Q hR r1 r2 hP pins s σ' a b I ra rb => by
  unfold oNotIn2 at hP
  split at hP
  · split at hP
    · cases r1; cases r2 with | rng q => ?_
      obtain ⟨k, rfl⟩ := ra
      obtain rfl : b = Value.ref _ := rb
      exact wpAny_bind (rng_has I q fun t => wpAny_pure ⟨.bl _, H, I.tok _, rfl, PostG.ret hR (.bl _) hP⟩)
    · exact hP.elim
  · exact os_notin ok ρ h H σ u v x y Q hR r1 r2 hP pins s σ' a b I ra rb
end
end Pz

set_option Elab.async false
set_option linter.all false
set_option maxRecDepth 100000
set_option maxHeartbeats 2000001
namespace Pz
open PySem PySem.Spec L2
open PyProof.Rows (IntsAre AllBare)

/-! ### what a row's text brings -/
def GvK (K : PySem.W.Frag) (mg : Str → Option Value) (G : Nat → Addr) (x : Str) (v : SV) : Prop := ∃ u y, mg x = some u ∧ RelV y u ∧ ∀ (P : Program) (w : World) (ρ : Nat → Addr) (n : Nat) (H : Hp), RV ⟨P, w, K, G⟩ ρ n H v y
theorem gv_of {X : Cx} {G : Nat → Addr} {x : Str} {v : SV} (h : GvK X.K X.mg G x v) : GV X G x v := by
  obtain ⟨u, y, a, b, c⟩ := h
  exact ⟨u, y, a, b, fun ρ n H => c _ _ ρ n H⟩
structure DefA (K : PySem.W.Frag) (mg : Str → Option Value) (x : Str) (f : Addr) (fd : FuncData) (ps : List Str) : Prop where
  mg : mg x = some (.ref f)
  kp : PySem.W.keepIn K (.ref f) = true
  bi : Binds K fd ps []
structure ExD (P : Program) (w : World) (K : PySem.W.Frag) (mg : Str → Option Value) (base : Heap) (G : Nat → Addr) (c : Nat) (x n0 n1 : Str) (fI : Addr) (fd : FuncData) : Prop where
  T : OexC K (G c)
  iC : PySem.W.findIn K (.ref (G c)) "__init__" = some (some (.ref fI))
  tI : PySem.W.typeIn K (.ref fI) = some (.type "function")
  F1 : FnOk P w K mg base CX0 1 fI fd [n0, n1] (spInit K n1)
  bi : Binds K fd [n0, n1] []
  mg : mg x = some (.ref (G c))
  no : PySem.W.findIn K (.ref (G c)) n1 = some none

theorem blkW {N : List Str} {sc scope : Scope} {own : List (Str × Nat)} (h : blkC N sc scope own = true) : blkC N sc scope own = true := h

/-- no star -/
def plainE : Expr → Bool
  | .Starred .. => false
  | _ => true
theorem star_plain {e : Expr} {es : List Expr} {env : PySem.Env} (h : plainE e = true) : starEach (e :: es) env = (false, eval e env) :: starEach es env := by
  cases e <;> first | rfl | exact Bool.noConfusion h
theorem sa_consP {X : Cx} {G : Nat → Addr} {W : WX} {a : Expr} {es : List Expr} {ra : EF} {re : LF} (s : SE X G W a ra) (sl : SA X G W es re) (hp : plainE a = true := by rfl) : SA X G W (a :: es) (lCons ra re) := sa_cons s sl (star_plain hp)
/-- a statement's blocks -/
def subA : Stmt → List Stmt
  | .If _ a _ _ => a
  | .For _ _ a _ _ => a
  | .While _ a _ _ => a
  | _ => []
def subB : Stmt → List Stmt
  | .If _ _ b _ => b
  | _ => []

theorem exm_mk {K : PySem.W.Frag} {c k : Addr} {b : Bool} (h1 : PySem.W.subIn K (.ref k) (.type "BaseException") = some true) (h2 : PySem.W.isClsIn K k = true) (h3 : PySem.W.typeIn K (.ref k) = some (.type "type")) (h4 : PySem.W.subIn K (.ref c) (.ref k) = some b) : PySem.W.exmOne K (.ref c) (.ref k) = some b := by
  have e1 : (PySem.W.subIn K (.ref k) (.type "BaseException") == some true) = true := by rw [h1] <;> rfl
  have e2 : ((PySem.W.clsIn K k).isSome && PySem.W.typeIn K (.ref k) == some (.type "type")) = true := by
    have q : (PySem.W.clsIn K k).isSome = true := h2
    rw [q, h3] <;> rfl
  unfold PySem.W.exmOne
  rw [if_pos e1]
  exact (if_pos e2).trans h4

/-! ### the law's own call -/
theorem scr_rv {Z : Cz} {ρ : Nat → Addr} {n : Nat} {H : Hp} {a : Addr} {ns : List Int} (h : (∃ o, H a = some (.frz o (.lst (ns.map V.int)))) ∨ (∀ H', SqL Z.K H' a (ns.map V.int))) : RV Z ρ n H (.scr ns) (.ref a) := .scr h
theorem call_G {P : Program} {w : World} {K : PySem.W.Frag} {mg mb : Str → Option Value} {G : Nat → Addr} {k : Nat} {fa a : Addr} {fd : FuncData} {x : Str} {F : FF} {s₁ : Shared} {vs : List Value} {ns : List Int} {hz : Hs}
    (KX : K.In s₁.heap) (hns : s₁.heap.Ns mainGlobals mg) (hb : s₁.heap.Ns builtinsNs mb) (hbb : ∀ x : Str, x ≠ "__name__" → mb x = bootBuiltins x) (hlim : s₁.heap.NoLimit) (hg : s₁.gens = #[]) (ha : s₁.heap.get? a = some { cls := .type "list", data := .seq vs.toArray }) (hi : IntsAre vs ns) (hl : ns.length ≤ sizeLine) (hr : Room k callerA)
    (hF : ∀ base : Heap, K.In base → base.Ns mainGlobals mg → FnG P w K mg base G k fa fd [x] F) (hbind : ∀ (s : Shared) (u : Value), BindsTo s fd ⟨[u], []⟩ [(x, u)]) (hz : F [.scr ns] [] = .ok (.bl true) hz) :
    codeAny (model P w) callerA (.call (.ref fa) ⟨[.ref a], []⟩) (fun r s' => r = .ok (.ret (.bool true)) ∧ OldK s₁.heap s'.heap ∧ s'.os = s₁.os ∧ AllBare s'.gens) s₁ := by
  have rv := vals_ints hi
  have lenV := hi.length
  have core : ∀ H : Hp, Only H → ((∃ o, H a = some (.frz o (.lst (ns.map V.int)))) ∨ (∀ H', SqL K H' a (ns.map V.int))) → HOk P w H s₁.heap → (∀ b, H b ≠ none → b = a) → (H a ≠ none → K.lookup a = none) →
      codeAny (model P w) callerA (.call (.ref fa) ⟨[.ref a], []⟩) (fun r s' => r = .ok (.ret (.bool true)) ∧ OldK s₁.heap s'.heap ∧ s'.os = s₁.os ∧ AllBare s'.gens) s₁ := fun H hO hS hok hA hK => by
    have baseOf : ∀ {b : Addr} {o : Obj}, s₁.heap.get? b = some o → H b = none → (hidT s₁.heap H).get? b = some o := fun e n => hidT_get e n
    have isA : ∀ {b : Addr} {u : HO}, H b = some u → b = a := fun {b u} q => hA b (by rw [q]; simp)
    have noA : ∀ {b : Addr} {o : Obj} {es : Array DictEntry} {ep : Nat}, s₁.heap.get? b = some o → o.data = .dict es ep → H b = none := fun {b o es ep} e d => by
      cases q : H b with
      | none => rfl
      | some u =>
        rw [isA q, ha] at e; cases e
        exact Data.noConfusion (show Data.seq vs.toArray _ = Data.dict es ep from d)
    have nsK : ∀ {b : Addr} {m : Str → Option Value}, s₁.heap.Ns b m → (hidT s₁.heap H).Ns b m := fun {b m} ⟨o, es, ep, e, d, r⟩ => ⟨o, es, ep, baseOf e (noA e d), d, r⟩
    have hKb : K.In (hidT s₁.heap H) := fun b o e => baseOf (KX b o e) (by
      cases q : H b with
      | none => rfl
      | some u => obtain rfl := isA q; rw [hK (by rw [q]; simp)] at e; cases e)
    have hM : Mod K mg (hidT s₁.heap H) := ⟨hKb, nsK hns, ⟨mb, nsK hb, hbb⟩, let ⟨mc, h1, h2⟩ := hlim; ⟨mc, nsK h1, h2⟩⟩
    have e0 : Env0 P w K mg (hidT s₁.heap H) callerA [] s₁ H := ⟨rfl, hM, fun b o e => of_hidT e, Nat.le_of_eq (hidT_size _ _), trivial, fun b hb => absurd (show b ∈ ([] : List Addr) from hb) (by simp), hok, .of_eq hg⟩
    refine codeAny_mono ((hF _ hKb (nsK hns)).run callerA [] s₁ H ⟨[.ref a], []⟩ [.ref a] [.ref a] (fun _ => 0) [] [.scr ns] (fun v _ => v = .bl true) (fun _ _ _ => False) hr rfl e0 (hbind s₁ (.ref a)) (.cons rfl .nil) RHp.nil (.cons (scr_rv hS) .nil) rfl ?_) fun r s' h => ?_
    · rw [hz]
      exact fun ρ' H' x E R r => by cases r; rfl
    · cases r with
      | error e => obtain ⟨_, _, _, _, _, _, _, _, _, _, _, _, q⟩ := h; exact q.elim
      | ok fl =>
        cases fl with
        | next => exact False.elim h
        | brk => exact False.elim h
        | cont => exact False.elim h
        | ret u =>
          obtain ⟨v, H', os, bare, un, hok', r', q⟩ := h
          obtain rfl : v = .bl true := q
          obtain rfl : u = Value.bool true := r'
          refine ⟨rfl, OldK.of_keep fun b o e => ?_, os, bare⟩
          cases q : H b with
          | none => exact un.keep b o e q (by intro z; exact absurd (show b ∈ ([] : List Addr) from z) (by simp)) (by simp)
          | some u =>
            rcases hO b with z | ⟨ob, xs, z⟩
            · rw [q] at z; cases z
            · obtain ⟨e1, _⟩ := hok b _ z
              obtain ⟨e2, _⟩ := hok' b _ (un.frzs b ob _ z)
              rw [e] at e1; cases e1
              exact e2
  cases hk : K.lookup a with
  | some o =>
    have e := KX a o hk
    rw [ha] at e
    cases e
    exact core (fun _ => none) (fun _ => .inl rfl) (.inr fun H' => .inr ⟨_, vs.toArray, _, hk, rfl, rfl, rfl, by rw [List.size_toArray, lenV]; exact hl, by simpa using rv⟩) (fun b u z => by have z' : (none : Option HO) = some u := z; cases z') (fun b z => absurd rfl z) fun z => absurd rfl z
  | none =>
    refine core (upd (fun _ => none) a (.frz { cls := .type "list", data := .seq vs.toArray } (.lst (ns.map V.int)))) (fun b => ?_) (.inl ⟨{ cls := .type "list", data := .seq vs.toArray }, upd_same⟩) (fun b u z => ?_) (fun b z => ?_) fun _ => hk
    · by_cases hb : b = a
      · subst hb; exact .inr ⟨_, _, upd_same⟩
      · exact .inl (upd_ne hb)
    · by_cases hb : b = a
      · subst hb
        rw [upd_same] at z; cases z
        exact ⟨ha, by rw [List.length_map]; exact hl, vs, _, rv, ha⟩
      · rw [upd_ne hb] at z; cases z
    · by_cases hb : b = a
      · exact hb
      · exact absurd (upd_ne hb) z
theorem walk_G {l : PySem.W.OpenLaw} {n k : Nat} {q : Program} {loose : List Str} {XP : (Str → Option Value) → Heap → Prop} {YP : World → Heap → Prop} {d : DefRec} {K : Params → PySem.W.Frag} {x : Str} {F : FF}
    (hn : l.most = some n) (hn2 : n ≤ sizeLine) (hdf : d.params.defaults = []) (hr : Room k callerA) (hY : ∀ (w : World) (h : Heap), YP w h → (K w.params).In h)
    (hF : ∀ (w : World) (mg : Str → Option Value) (fa : Addr) (h : Heap), (K w.params).In h → h.Ns mainGlobals mg → mg d.name = some (.ref fa) → ∃ (fd : FuncData) (G : Nat → Addr), (∀ (s : Shared) (u : Value), BindsTo s fd ⟨[u], []⟩ [(x, u)]) ∧ ∀ base : Heap, (K w.params).In base → base.Ns mainGlobals mg → FnG l.prog w (K w.params) mg base G k fa fd [x] F)
    (hz : ∀ ns : List Int, ns.length ≤ n → (∀ z ∈ ns, Builtin.Int.intBits z ≤ 1048576) → ∃ h, F [.scr ns] [] = .ok (.bl true) h) : PySem.W.WalkO q loose XP YP l.row.toRowW d [] (fun f vs => PySem.call f vs) := by
  refine Att.attach_callB hn hdf fun w s₀ s₁ mg mb fa o pm cd doc a vs ns G Y ho hd hcd hmg hobj hints hlen hbits hg => ?_
  have KX := hY w _ Y
  obtain ⟨fd, Gc, hb, h⟩ := hF w mg fa _ KX G.T.g hmg
  obtain ⟨hh, e⟩ := hz ns hlen hbits
  exact call_G KX G.T.g G.T.b G.T.builtins G.T.nolimit hg hobj hints (Nat.le_trans hlen hn2) hr h hb e
end Pz

set_option Elab.async false
set_option linter.all false
set_option maxRecDepth 100000
set_option maxHeartbeats 2000001
namespace Pz
open PySem PySem.Spec L2
open AutoSeq1 (wpAny_loadPart')

/-! ### enumerate(tuple) -/
theorem meets_enum_tup (l : Addr) (items : Array Value) (n : Nat) (dct : Option Addr) (sl : Array (Option Value)) : Meets (Builtin.«enumerate.__new__» ⟨[.type "enumerate", .ref l], []⟩) (fun _ R s => s.heap.get? l = some { cls := .type "tuple", dict := dct, data := .seq items n, slots := sl } ∧ R (.ok (.ret (.ref (s.heap.push { cls := .type "tuple_iterator", data := .fields #[.ref l, .int 0 0] }).objs.size))) { s with heap := (s.heap.push { cls := .type "tuple_iterator", data := .fields #[.ref l, .int 0 0] }).push { cls := .type "enumerate", data := .fields #[.none, .bool false, .ref s.heap.objs.size, rawInt 0, .none, .none] } }) :=
  .of_wp fun prog w A R s h => by
    obtain ⟨hp, g, d, tk, os⟩ := s
    obtain ⟨hl, h⟩ := h
    have hsub := sub_enumerate
    have hT : Heap.IsTuple (Shared.heap ⟨hp, g, d, tk, os⟩) l items := ⟨_, hl, rfl, n, rfl⟩
    wp_walk using wpAny_loadPart' hl
    refine wpAny_stack_any fun st => wpAny_pure ?_
    split
    · rename_i c _ _ _ _ _
      cases (c == Value.type "enumerate") <;> (wp_walk using wpAny_loadPart' hl, wpAny_pyIter_tuple hT; exact ⟨_, rfl, h⟩)
    · wp_walk using wpAny_loadPart' hl, wpAny_pyIter_tuple hT
      exact ⟨_, rfl, h⟩
theorem call_enum_tup {prog : Program} {w : World} {A : Around} {E : Value → Shared → Prop} {s : Shared} {l : Addr} {items : Array Value} {Q : Value → Shared → Prop} (hL : s.heap.IsTuple l items)
    (h : ∀ h', IsEnum h' (s.heap.objs.size + 1) s.heap.objs.size 0 .none → h'.IsTupleIter s.heap.objs.size l 0 → h'.objs.size = s.heap.objs.size + 2 → (∀ b o, s.heap.get? b = some o → h'.get? b = some o) → Q (.ref (s.heap.objs.size + 1)) { s with heap := h' }) : wpAny (model prog w) A (call (.type "enumerate") [.ref l]) Q E s := by
  obtain ⟨⟨c, dct, dt, sl⟩, hl, hc, n, hd⟩ := hL
  obtain rfl : c = .type "tuple" := hc
  obtain rfl : dt = .seq items n := hd
  refine callType_new F.called_enumerate (by decide) (F.typeCall_enumerate_1 _) (F.newCall_enumerate_1 _) (fun obj => F.args_object_init_2 obj _) F.entry_enumerate_new (meets_enum_tup l items n dct sl) ⟨hl, ?_⟩
  have hz : (s.heap.push { cls := .type "tuple_iterator", data := .fields #[.ref l, .int 0 0] }).objs.size = s.heap.objs.size + 1 := Heap.size_push ..
  show _ ∧ _
  rw [hz]
  have he : IsEnum ((s.heap.push { cls := .type "tuple_iterator", data := .fields #[.ref l, .int 0 0] }).push { cls := .type "enumerate", data := .fields #[.none, .bool false, .ref s.heap.objs.size, rawInt 0, .none, .none] }) (s.heap.objs.size + 1) s.heap.objs.size 0 .none := by
    have q := Heap.get?_push_size (s.heap.push { cls := .type "tuple_iterator", data := .fields #[.ref l, .int 0 0] }) (o := { cls := .type "enumerate", data := .fields #[.none, .bool false, .ref s.heap.objs.size, rawInt 0, .none, .none] }) rfl
    rw [hz] at q; exact q
  exact ⟨⟨_, he, rfl⟩, h _ he ⟨_, Heap.get?_push_of_some _ (Heap.get?_push_size _ rfl), rfl, rfl⟩ (by rw [Heap.size_push, hz]) fun b o x => Heap.get?_push_of_some _ (Heap.get?_push_of_some _ x)⟩
def IteT (K : PySem.W.Frag) (a : Addr) : It :=
  ⟨fun i H => ∃ (xs : List V) (x : V), SqT K H a xs ∧ xs[i]? = some x, fun i H v H' => ∃ T x, v = .ref T ∧ H T = none ∧ H' = upd H T (.tup [.int (i : Nat), x]) ∧ ∀ xs, SqT K H a xs → xs[i]? = some x, fun i H => ∃ xs : List V, SqT K H a xs ∧ xs.length ≤ i⟩
theorem turn_enumT {P : Program} {w : World} {K : PySem.W.Frag} {elts : List Expr} {kk : Nat} {tpos : Pos} (a e it : Addr) :
    Turn P w K (.Tuple elts kk tpos) (IteT K a) [e, it] e (fun i h => (∃ old, IsEnum h e it ((i : Nat) : Int) old) ∧ h.IsTupleIter it a i ∧ e ≠ it ∧ e ≠ a ∧ a ≠ it) where
  mem := by simp
  obj := fun i h st b hb => by
    obtain ⟨⟨old, he⟩, ⟨o, ho, hc, hd⟩, _⟩ := st
    rcases (show b = e ∨ b = it by simpa using hb) with z | z
    · rw [z]; exact ⟨_, he, fun v q => nomatch q⟩
    · rw [z]; exact ⟨o, ho, fun v q => by rw [hd] at q; cases q⟩
  keep := fun i h h' st k => let ⟨⟨old, he⟩, hi, hne⟩ := st; ⟨⟨old, k e (by simp) _ he⟩, hi.at fun o q => k it (by simp) o q, hne⟩
  item := by
    intro X hP hw hK hc i pins s σ H E I hf st hg
    subst hP hw hK
    obtain ⟨⟨old, he⟩, hit, hne, nea, nai⟩ := st
    obtain ⟨xs, x, hq, hx⟩ := hg
    obtain ⟨its, rv, p, hz⟩ := I.tuple hq
    obtain ⟨u, hu, ru⟩ := rv.get hx
    have hel : e < s.heap.objs.size := Heap.lt_size he
    have hil : it < s.heap.objs.size := by obtain ⟨_, q, _⟩ := hit; exact Heap.lt_size q
    have hlt : i < its.toArray.size := by rw [List.size_toArray]; exact (List.getElem?_eq_some_iff.mp hu).1
    refine wpAny_pyNext_enum_itemD (Draws.tuple (prog := X.prog) (w := X.w) (A := X.A.in1) (show X.A.in1.handled = none from I.ok.hd hc) it a nai its.toArray) he ⟨hit, p⟩ hlt hne (by simp [hne, nea]) fun y h' tk hy ho hit' hT hsz hk => ?_
    obtain rfl : y = u := by
      have q : its.toArray[i]? = some y := hy
      rw [List.getElem?_toArray, hu] at q; exact (Option.some.inj q).symm
    refine ⟨_, rfl, wpAny_letOwnedTupleGo_enum (s := { s with heap := h', toks := tk + 1 }) ho fun h'' he' sb => ?_⟩
    have hT2 : h''.get? s.heap.objs.size = some { cls := .type "tuple", data := .seq #[.int i tk, y] } := (sb.2 _ (Nat.ne_of_gt hel)).trans hT
    have new : ObjOk X.prog X.w (upd H s.heap.objs.size (.tup [.int (i : Nat), x])) h'' s.heap.objs.size (.tup [.int (i : Nat), x]) := ⟨by show 2 ≤ sizeLine; decide, [.int i tk, y], .cons ⟨_, rfl⟩ (.cons ru .nil), ⟨_, hT2, rfl, _, rfl⟩⟩
    have I1 : Inv X pins σ (upd H s.heap.objs.size (.tup [.int (i : Nat), x])) { s with heap := h'', toks := tk + 1 } :=
      I.turnedNew (ch := [e, it]) (fun b ob hb q => (sb.2 b (fun z => hb (by simp [z]))).trans (hk b ob (fun z => hb (by simp [z])) (fun z => hb (by simp [z])) q)) hf (Nat.le_refl _) new
    refine ⟨.ref s.heap.objs.size, _, I1, rfl, ⟨_, x, rfl, I.hok.fresh (Nat.le_refl _), rfl, fun ys hy => by rw [I.tuple_inj hy hq]; exact hx⟩, ⟨⟨y, ?_⟩, hit'.1.at fun o q => (sb.2 it (Ne.symm hne)).trans q, hne, nea, nai⟩, fun b hb => ?_⟩
    · have e1 : ((i + 1 : Nat) : Int) = (i : Int) + 1 := by omega
      rw [e1]; exact he'
    · have hb' : b < s.heap.objs.size := by rcases (show b = e ∨ b = it by simpa using hb) with z | z <;> (rw [z]; assumption)
      rw [upd_ne (Nat.ne_of_lt hb')]
      exact (hf b hb).1
  done := by
    intro X hP hw hK hc i pins s σ H E I hf st hg
    subst hP hw hK
    obtain ⟨⟨old, he⟩, hit, hne, nea, nai⟩ := st
    obtain ⟨xs, hq, hx⟩ := hg
    obtain ⟨its, rv, p, hz⟩ := I.tuple hq
    obtain ⟨f0, f1, f2, f3, f4, f5⟩ := hf it (by simp)
    have hl := rv.length
    have hx2 : its.toArray[i]? = none := by rw [List.getElem?_toArray]; exact List.getElem?_eq_none (by omega)
    have D : Draws X.prog X.w X.A.in1 it [it, a] i (fun _ _ => False) (fun j h => j = i ∧ h.IsTupleIter it a i ∧ h.IsTuple a its.toArray) :=
      { live := fun _ _ st => let ⟨o, ho, _⟩ := st.2.1; ⟨o, ho⟩, frame := fun _ _ _ st hk => ⟨st.1, st.2.1.at fun o e => hk it (by simp) o e, st.2.2.at fun o e => hk a (by simp) o e⟩,
        item := fun j s Q E hj st hQ => absurd st.1 (Nat.ne_of_lt hj), done := fun s Q E st hE => wpAny_nextOf_tuple_end (show X.A.in1.handled = none from I.ok.hd hc) st.2.1 st.2.2 hx2 hE }
    exact wpAny_pyNext_enum_endD D he ⟨rfl, hit, p⟩ fun h' eb => ⟨rfl, I.turned (t' := s.toks) (fun b o hb q => eb b o hb q) f0 f1 f3 f4 f5⟩
  self := fun A i s Q E st h => let ⟨⟨_, he⟩, _⟩ := st; wpAny_pyIter_enum he h
theorem it_enumT {Z : Cz} {ρ : Nat → Addr} {h : Hs} {H : Hp} {p : Addr} {xs : List SV} {vs : List V} (q : SqT Z.K H p vs) (t : RVs Z ρ h.length H xs vs) (R0 : RHp Z ρ h H) : ItOk Z (IteT Z.K p) (xs.mapIdx fun i x => SV.tup [.int (i : Nat), x]) (fun _ => true) ρ h H where
  turn := fun i x ρ2 h2 H2 E R _ hx => by
    rw [List.getElem?_mapIdx, Option.map_eq_some_iff] at hx
    obtain ⟨y, ey, rfl⟩ := hx
    obtain ⟨v, e1, r⟩ := t.get ey
    have q2 : SqT Z.K H2 p vs := SqT.ext (fun a o e k => E.kept R0 e k) q
    refine ⟨⟨vs, v, q2, e1⟩, fun u H' ⟨T, y', e2, hT, e3, hy⟩ => ?_⟩
    subst e2 e3
    have z := hy vs q2
    rw [e1] at z; cases z
    exact ⟨R.lay hT, Gro.lay hT, .tup (SqT.of upd_same) (.cons (.int _) (.cons ((r.ext R0 E).ext' (keep_lay hT) (Nat.le_refl _) fun _ _ => rfl) .nil))⟩
  stop := fun ρ2 h2 H2 E R _ => ⟨vs, SqT.ext (fun a o e k => E.kept R0 e k) q, by rw [List.length_mapIdx]; exact Nat.le_of_eq t.length.symm⟩
def iEnum2 (re : LF) : IF := fun σ h => (re σ h).bnd fun vs h => match vs with
  | [.ref a] => (match h[a]? with
    | some (.lst xs) => .ok (xs.mapIdx fun i x => SV.tup [.int (i : Nat), x], chkL a xs) h
    | _ => .stuck)
  | [.tup xs] => .ok (xs.mapIdx fun i x => SV.tup [.int (i : Nat), x], fun _ => true) h
  | _ => .stuck
theorem pi_enumT {X : Cx} {e : Expr} {ta : TA} {p pos tpos : Pos} {elts : List Expr} {kk : Nat} (hg : Gl X "enumerate") (hm : X.mg "enumerate" = none) (ha : PA X [e] ta) (hs : starEach [e] X.env = [(false, eval e X.env)] := by rfl) :
    PI X (.Tuple elts kk tpos) (.Call (.Name "enumerate" p) [e] [] pos) (fun σ H R => ta σ H fun vs H1 => (∃ a xs, vs = [.ref a] ∧ SqL X.K H1 a xs ∧ R (Ite X.K a) H1) ∨ ∃ a xs, vs = [.ref a] ∧ SqT X.K H1 a xs ∧ R (IteT X.K a) H1) := by
  refine ⟨fun pins s σ H R I h => PyProof.Rows.Call_ (ld_blt I hg hm PyProof.Rows.boot_enumerate (PyProof.Rows.callWith_type1 (thn (ha.run pos pins s σ H _ I h) fun us s1 ⟨vs, H1, I1, r1, q1⟩ => ?_) hs rfl))⟩
  have fr : ∀ b, b = s1.heap.objs.size + 1 ∨ b = s1.heap.objs.size → FpOk X pins H1 b := fun b hb => by
    have hle : s1.heap.objs.size ≤ b := by omega
    exact I1.fpOk hle (I1.hok.fresh hle)
  rcases q1 with ⟨a, xs, rfl, hq, q⟩ | ⟨a, xs, rfl, hq, q⟩
  · cases r1 with | cons r rr => ?_
    cases rr; cases r
    obtain ⟨its, rv, p', hz⟩ := I1.list hq
    refine call_enumerate_list p'.isList fun h' he hit hsz hk => wpAny_pyIter_enum he ⟨s1.heap.objs.size + 1, [s1.heap.objs.size + 1, s1.heap.objs.size], _, _, H1, rfl, I1.kept (t' := s1.toks) hk, turn_enum a (s1.heap.objs.size + 1) s1.heap.objs.size, ⟨⟨.none, he⟩, hit, Nat.succ_ne_self _⟩, fun b hb => fr b (by simpa using hb), q⟩
  · cases r1 with | cons r rr => ?_
    cases rr; cases r
    obtain ⟨its, rv, p', hz⟩ := I1.tuple hq
    have la : a < s1.heap.objs.size := by obtain ⟨_, e, _⟩ := id p'; exact Heap.lt_size e
    refine call_enum_tup p' fun h' he hit hsz hk => wpAny_pyIter_enum he ⟨s1.heap.objs.size + 1, [s1.heap.objs.size + 1, s1.heap.objs.size], _, _, H1, rfl, I1.kept (t' := s1.toks) hk, turn_enumT a (s1.heap.objs.size + 1) s1.heap.objs.size, ⟨⟨.none, he⟩, hit, Nat.succ_ne_self _, Ne.symm (Nat.ne_of_lt (Nat.lt_succ_of_lt la)), Nat.ne_of_lt la⟩, fun b hb => fr b (by simpa using hb), q⟩
section
variable {X : Cx} {G : Nat → Addr} {W : WX} {a : Expr} {re : LF} {pos : Pos}
theorem si_enum2 {p tpos : Pos} {elts : List Expr} {kk : Nat} (hm : X.mg "enumerate" = none) (sl : SA X G W [a] re) (hg : Gl X "enumerate" := by rfl) (hs : starEach [a] X.env = [(false, eval a X.env)] := by rfl) : SI X G W (.Tuple elts kk tpos) (.Call (.Name "enumerate" p) [a] [] pos) (iEnum2 re) :=
  si_pi (pi_enumT hg hm pa_any hs) fun ρ σs h σ H R hE hR hP => sl ρ σs h σ H _ hE hR (hP.fst fun vs h1 ρ1 H1 xs _ E1 R1 v1 p1 => by
    split at p1
    · obtain ⟨x, rfl, r⟩ := rvs1 v1
      cases r with | ref hi => ?_
      split at p1
      · rename_i e0
        obtain ⟨_, vs, f, t⟩ := R1.lst e0
        exact .inl ⟨_, _, rfl, SqL.of f, PostG.ret R1 (fun h0 e1 _ => it_enum (by rw [e1]; exact hi)) p1⟩
      · exact p1.elim
    · obtain ⟨x, rfl, r⟩ := rvs1 v1
      cases r with | tup q t => ?_
      exact .inr ⟨_, _, rfl, q, PostG.ret R1 (fun h0 e0 R0 => it_enumT q (by rw [e0]; exact t) R0) p1⟩
    · exact p1.elim)
end
end Pz

namespace Pz
open PySem PySem.Spec L2

/-! ### repr, also of an empty dict -/
theorem call_repr_d0 {X : Cx} (hu : X.A.units + 200 < cLine) (hg : X.A.guards = some []) : CallR X (.builtin "repr") (fun xs H Q => ∃ a, xs = [.ref a] ∧ H a = some (.dK []) ∧ Q (.str "{}") H) := by
  intro pins s σ H xs us Q I r q
  obtain ⟨a, rfl, ha, q⟩ := q
  obtain ⟨u, rfl, ru⟩ := vals1 r
  obtain rfl : u = Value.ref a := ru
  obtain ⟨_, hs, vs, kv, o, es, ep, ho, hex, hd, hr⟩ := (show ObjOk X.prog X.w H s.heap a (.dK []) from I.hok a _ ha)
  cases kv
  have hes : es.toList = [] := by
    have hp := hr.2.1
    generalize es.toList = l at hp
    cases hp
    rfl
  have rd : Reads s.heap (.ref a) (.dict []) [a] := by
    have q : Reads s.heap (.ref a) (.dict []) (a :: [] ++ []) := .dict ho hex.1 hd (by rw [hes]; exact .nil) (by rw [hes]; exact .nil)
    exact q
  exact repr_of_reads' rd rfl (fun _ hm => by rw [List.mem_singleton] at hm; rw [hm] at hs; simp at hs) hg (by have z : (PyData.dict []).depth ≤ 64 := (by decide); omega) (fun _ _ e => e) (fun h' u tk hk => ⟨.str _, H, I.kept hk, ⟨_, rfl⟩, q⟩) (by show (2 : Nat) ≤ sizeLine; rw [sizeLine_eq]; decide)
def bRepr2 (us : List SV) (h : Hs) : Out SV := match us with
  | [.ref a] => (match h[a]? with
    | some (.dct []) => .ok (.str "{}") h
    | _ => bRepr us h)
  | _ => bRepr us h
theorem fn_repr2 {X : Cx} {G : Nat → Addr} {W : WX} (ok : XOs X W) : FnS X G (.builtin "repr") bRepr2 := .of fun W ρ h H σ us xs Q hR t hP => by
  unfold bRepr2 at hP
  split at hP
  · split at hP
    · rename_i e0
      obtain ⟨x, rfl, r⟩ := rvs1 t
      cases r with | ref hi => ?_
      obtain ⟨_, vs, f, t2⟩ := hR.dct e0
      cases t2
      exact fun pins s σ' ws I rw => call_repr_d0 ok.hu ok.gd pins s σ' H _ ws Q I rw ⟨_, rfl, f, PostG.ret hR (.str _) hP⟩
    · exact fn_repr ok W ρ h H σ _ xs Q hR t hP
  · exact fn_repr ok W ρ h H σ us xs Q hR t hP
end Pz

set_option Elab.async false
set_option linter.all false
set_option maxRecDepth 100000
namespace Pz
open PySem PySem.Spec L2

/-! ### how combinators run: one row a step -/
section
variable {σ σ1 σ2 σ' : SEnv} {h h1 h2 h3 h' : Hs} {ra rb rc : EF} {re rl : LF} {u v w : SV} {vs us : List SV} {b : Bool} {ta tb : SEnv → Hs → Out Bool} {r1 r2 : SF} {g : GF} {i n : Nat} {F : FF}
theorem e_var (e : σ[i]? = some (some v)) : rVar i σ h = .ok v h := by unfold rVar; rw [e]
theorem e_B {f : SV → SV → Hs → Out SV} (ea : ra σ h = .ok u h1) (eb : rb σ h1 = .ok v h2) : rB f ra rb σ h = f u v h2 := by unfold rB; rw [ea, Out.bnd_ok, eb, Out.bnd_ok]
theorem e_nil : lNil σ h = .ok [] h := rfl
theorem e_cons (ea : ra σ h = .ok v h1) (el : rl σ h1 = .ok vs h2) : lCons ra rl σ h = .ok (v :: vs) h2 := by unfold lCons; rw [ea, Out.bnd_ok, el, Out.bnd_ok]
theorem e_F {f : List SV → Hs → Out SV} (ea : re σ h = .ok us h1) : rF f re σ h = f us h1 := by unfold rF; rw [ea, Out.bnd_ok]
theorem e_call {dv : List SV} (ea : re σ h = .ok us h1) (hl : us.length + dv.length = n) : rCall F n dv re σ h = F (us ++ dv) h1 := by unfold rCall; rw [ea, Out.bnd_ok, if_pos hl]
theorem e_call1 (ea : ra σ h = .ok v h1) : rCall F 1 [] (lCons ra lNil) σ h = F [v] h1 := e_call (e_cons ea e_nil) rfl
theorem e_call2 (ea : ra σ h = .ok u h1) (eb : rb σ h1 = .ok v h2) : rCall F 2 [] (lCons ra (lCons rb lNil)) σ h = F [u, v] h2 := e_call (e_cons ea (e_cons eb e_nil)) rfl
theorem e_tup (ea : re σ h = .ok us h1) (hl : us.length ≤ 1000000) : rTup re σ h = .ok (.tup us) h1 := by unfold rTup; rw [ea, Out.bnd_ok, if_pos hl]
theorem e_lst (ea : re σ h = .ok us h1) (hl : us.length ≤ 1000000) : rLst re σ h = .ok (.ref h1.length) (h1 ++ [.lst us]) := by unfold rLst; rw [ea, Out.bnd_ok, if_pos hl]
theorem e_T (ea : ra σ h = .ok v h1) (ht : truS v h1 = some b) : rT ra σ h = .ok b h1 := by unfold rT; rw [ea, Out.bnd_ok, ht]
theorem e_TB (ea : ra σ h = .ok (.bl b) h1) : rTB ra σ h = .ok b h1 := by unfold rTB; rw [ea, Out.bnd_ok]
theorem e_andT1 (ea : ta σ h = .ok true h1) : rAndT ta tb σ h = tb σ h1 := by unfold rAndT; rw [ea, Out.bnd_ok, if_pos rfl]
theorem e_andT0 (ea : ta σ h = .ok false h1) : rAndT ta tb σ h = .ok false h1 := by unfold rAndT; rw [ea, Out.bnd_ok, if_neg Bool.false_ne_true]
theorem e_orT1 (ea : ta σ h = .ok true h1) : rOrT ta tb σ h = .ok true h1 := by unfold rOrT; rw [ea, Out.bnd_ok, if_pos rfl]
theorem e_orT0 (ea : ta σ h = .ok false h1) : rOrT ta tb σ h = tb σ h1 := by unfold rOrT; rw [ea, Out.bnd_ok, if_neg Bool.false_ne_true]
theorem e_notT (ea : ta σ h = .ok b h1) : rNotT ta σ h = .ok (!b) h1 := by unfold rNotT; rw [ea, Out.bnd_ok]
theorem e_and1 (ea : ra σ h = .ok (.bl true) h1) : rAnd ra rb σ h = rb σ h1 := by unfold rAnd rBl; rw [ea, Out.bnd_ok]; rfl
theorem e_and0 (ea : ra σ h = .ok (.bl false) h1) : rAnd ra rb σ h = .ok (.bl false) h1 := by unfold rAnd rBl; rw [ea, Out.bnd_ok]; rfl
theorem e_not (ea : ra σ h = .ok (.bl b) h1) : rNot ra σ h = .ok (.bl (!b)) h1 := by unfold rNot rBl; rw [ea, Out.bnd_ok]
theorem e_if1 (ea : ta σ h = .ok true h1) : rIfE ta ra rb σ h = ra σ h1 := by unfold rIfE; rw [ea, Out.bnd_ok, if_pos rfl]
theorem e_if0 (ea : ta σ h = .ok false h1) : rIfE ta ra rb σ h = rb σ h1 := by unfold rIfE; rw [ea, Out.bnd_ok, if_neg Bool.false_ne_true]
theorem e_BM {T : String} {f : SV → List SV → Hs → Out SV} (ea : ra σ h = .ok u h1) (ht : isTy T u h1 = true) (el : re σ h1 = .ok us h2) : rBM T f ra re σ h = f u us h2 := by unfold rBM; rw [ea, Out.bnd_ok, if_pos ht, el, Out.bnd_ok]
theorem e_BM0 {T : String} {f : SV → List SV → Hs → Out SV} (ea : ra σ h = .ok u h1) (ht : isTy T u h1 = true) : rBM0 T f ra σ h = f u [] h1 := by unfold rBM0; rw [ea, Out.bnd_ok, if_pos ht]
theorem e_sl {pl ph : PF} {lo hi : Option Int} (ea : ra σ h = .ok u h1) (el : pl σ h1 = .ok lo h2) (eh : ph σ h2 = .ok hi h3) : rSl ra pl ph σ h = oSl u lo hi h3 := by unfold rSl; rw [ea, Out.bnd_ok, el, Out.bnd_ok, eh, Out.bnd_ok]
theorem e_pN : pNone σ h = .ok none h := rfl
theorem e_pS {k : Int} (ea : ra σ h = .ok (.int k) h1) : pSome ra σ h = .ok (some k) h1 := by unfold pSome; rw [ea, Out.bnd_ok]
/-! statements -/
theorem e_seq (e1 : r1 σ h = .nx σ1 h1) : sSeq r1 r2 σ h = r2 σ1 h1 := by unfold sSeq; rw [e1]; rfl
theorem e_seqR (e1 : r1 σ h = .rt v h1) : sSeq r1 r2 σ h = .rt v h1 := by unfold sSeq; rw [e1]; rfl
theorem e_asg (ea : ra σ h = .ok v h1) (eg : g v σ = some σ') : sAsg ra g σ h = .nx σ' h1 := by unfold sAsg; rw [ea, Out.st_ok, eg]
theorem e_asgN (ea : ra σ h = .ok v h1) : sAsg ra (gNm i) σ h = .nx (σ.set i (some v)) h1 := e_asg ea rfl
theorem e_sif1 (ea : ta σ h = .ok true h1) : sIf ta r1 r2 σ h = r1 σ h1 := by unfold sIf; rw [ea, Out.st_ok, if_pos rfl]
theorem e_sif0 (ea : ta σ h = .ok false h1) : sIf ta r1 r2 σ h = r2 σ h1 := by unfold sIf; rw [ea, Out.st_ok, if_neg Bool.false_ne_true]
theorem e_ret (ea : ra σ h = .ok v h1) : sRet ra σ h = .rt v h1 := by unfold sRet; rw [ea, Out.st_ok]
theorem e_expr (ea : ra σ h = .ok v h1) : sExpr ra σ h = .nx σ h1 := by unfold sExpr; rw [ea, Out.st_ok]
theorem e_setIx {ro ri rv : EF} (ev : rv σ h = .ok v h1) (eo : ro σ h1 = .ok u h2) (ei : ri σ h2 = .ok w h3) (e : oSetIx u w v h3 = some h') : sSetIx ro ri rv σ h = .nx σ h' := by unfold sSetIx; rw [ev, Out.st_ok, eo, Out.st_ok, ei, Out.st_ok, e]
theorem e_for {ri : IF} {xs : List SV} {chk : Hs → Bool} (ei : ri σ h = .ok (xs, chk) h1) : sFor ri g r1 σ h = forGo σ h1 g r1 chk xs σ h1 := by unfold sFor; rw [ei, Out.st_ok]
/-! defs -/
theorem gcV_same {m : Nat} (e : h'.length = h.length) : gcV h m h' = h' := by
  unfold gcV
  split
  · rw [← e, List.take_length]
  · rfl
theorem gcV_up {m : Nat} (e : h.length < m) : gcV h m h' = h' := by
  unfold gcV
  rw [if_neg fun z => absurd z.1 (by omega)]
theorem gcV_back {m : Nat} (e : h'.take h.length = h) (hm : m ≤ h.length) : gcV h m h' = h := by
  unfold gcV
  rw [if_pos ⟨hm, .inr e⟩, e]
theorem f_rt {body : SF} (h0 : SV.mxs vs ≠ 0) (e : body (startS n vs) h = .rt v h') : mkF n body vs h = .ok v (gcV h v.mx h') := by
  unfold mkF
  rw [if_neg h0, e]; rfl
/-- arguments and answer without objects: the heap stays -/
theorem f_pure {body : SF} (h0 : SV.mxs vs = 0) (hv : v.mx = 0) (e : body (startS n vs) [] = .rt v h') : mkF n body vs h = .ok v h := by
  unfold mkF
  rw [if_pos h0, e]
  have q : finF [] (.rt v h') = .ok v [] := by
    show Out.ok v (gcV [] v.mx h') = _
    rw [gcV_back (by simp) (by simp [hv])]
  rw [q]
/-- the heap's first objects stay: they are what is left behind the call -/
theorem f_back {body : SF} (e : body (startS n vs) h = .rt v h') (e0 : SV.mxs vs = 0 → body (startS n vs) [] = .rt v h2) (hm : v.mx = 0) (ht : h'.take h.length = h) : mkF n body vs h = .ok v h := by
  by_cases h0 : SV.mxs vs = 0
  · exact f_pure h0 hm (e0 h0)
  · rw [f_rt h0 e, gcV_back ht (by omega)]
/-- what one run of a pure call tells of all heaps -/
theorem f_any {body : SF} (h0 : SV.mxs vs = 0) (e : mkF n body vs [] = .ok v []) : mkF n body vs h = .ok v h := by
  unfold mkF at e ⊢
  rw [if_pos h0] at e ⊢
  cases hf : finF [] (body (startS n vs) []) with
  | ok u k =>
    rw [hf] at e
    cases k with
    | nil => cases e; rfl
    | cons o k => dsimp only at e; cases e
  | exc c fs k =>
    rw [hf] at e
    cases k with
    | nil => cases e
    | cons o k => dsimp only at e; cases e
  | stuck => rw [hf] at e; dsimp only at e; cases e
/-! loops -/
theorem for_ind {σ0 : SEnv} {h0 : Hs} {chk : Hs → Bool} (P : List SV → SEnv → Hs → Prop) (N : SEnv → Hs → Prop) (R : SV → Hs → Prop)
    (step : ∀ x xs σ h, P (x :: xs) σ h → chk h = true ∧ ∃ σ1, g x σ = some σ1 ∧ ((∃ σ2 h2, (r1 σ1 h = .nx σ2 h2 ∨ r1 σ1 h = .ct σ2 h2) ∧ P xs (gcS σ0 h0 σ2 h2).1 (gcS σ0 h0 σ2 h2).2) ∨ (∃ σ2 h2, r1 σ1 h = .bk σ2 h2 ∧ N σ2 h2) ∨ ∃ v h2, r1 σ1 h = .rt v h2 ∧ R v h2))
    (stop : ∀ σ h, P [] σ h → chk h = true ∧ N σ h) : ∀ (xs : List SV) (σ : SEnv) (h : Hs), P xs σ h → (∃ σ' h', forGo σ0 h0 g r1 chk xs σ h = .nx σ' h' ∧ N σ' h') ∨ ∃ v h', forGo σ0 h0 g r1 chk xs σ h = .rt v h' ∧ R v h'
  | [], σ, h, p => by
    obtain ⟨c, q⟩ := stop σ h p
    exact .inl ⟨σ, h, by unfold forGo; rw [if_pos c], q⟩
  | x :: xs, σ, h, p => by
    obtain ⟨c, σ1, e1, k⟩ := step x xs σ h p
    unfold forGo
    rw [if_pos c, e1]
    rcases k with ⟨σ2, h2, e | e, p2⟩ | ⟨σ2, h2, e, q⟩ | ⟨v, h2, e, q⟩
    · simp only [e]; exact for_ind P N R step stop xs _ _ p2
    · simp only [e]; exact for_ind P N R step stop xs _ _ p2
    · simp only [e]; exact .inl ⟨_, _, rfl, q⟩
    · simp only [e]; exact .inr ⟨_, _, rfl, q⟩
theorem lc_map {tt : SEnv → Hs → Out Bool} {te : EF} {chk : Hs → Bool} {σw : SEnv} {f : SV → SV} : ∀ (xs : List SV) (acc : List SV), (chk h = true) → (acc.length + xs.length < 1000000) → (∀ x ∈ xs, ∃ σ2 h3, g x σw = some σ2 ∧ tt σ2 h = .ok true h ∧ te σ2 h = .ok (f x) h3 ∧ gcV h (f x).mx h3 = h) → lcGo g tt te chk σw xs h acc = .ok (acc ++ xs.map f) h
  | [], acc, c, _, _ => by unfold lcGo; rw [if_pos c]; simp
  | x :: xs, acc, c, hl, k => by
    obtain ⟨σ2, h3, e1, e2, e3, e4⟩ := k x (by simp)
    unfold lcGo
    simp only [List.length_cons] at hl
    rw [if_pos ⟨c, by omega⟩, e1]
    simp only [e2, e3]
    rw [e4, lc_map xs (acc ++ [f x]) c (by simp; omega) fun y hy => k y (by simp [hy])]
    simp
theorem gcS_back {σ0 : SEnv} {h0 : Hs} (e : h.take h0.length = h0) : gcS σ0 h0 σ h = (cutE h0.length σ0 σ, h0) := by
  unfold gcS
  rw [if_pos (.inr e), e]
end
end Pz

set_option Elab.async false
set_option linter.all false
set_option maxRecDepth 100000
set_option maxHeartbeats 4000000
/-! own exception classes over any built-in one -/
namespace PzR
open PySem PySem.W PySem.Calls PySem.HandSPX

/-- what stands behind an own class in its order -/
structure Tail (bm : List Value) (newId : String) : Prop where
  fx : ∃ B initId bmB, ExcBaseFacts B newId initId bmB ∧ bm.contains (.type B) = true
  noA : bm.contains (.type "AttributeError") = false
  noN : bm.contains (.type "NameError") = false
  ob : bm.contains (.type "object") = true
  pass : ∀ self, refuseLoop self "__setattr__" bm = pure ()
theorem Tail.cons {bm : List Value} {newId : String} {c : Addr} (T : Tail bm newId) : Tail (.ref c :: bm) newId where
  fx := by
    obtain ⟨B, i, b, F, h⟩ := T.fx
    exact ⟨B, i, b, F, by rw [List.contains_cons, h, Bool.or_true]⟩
  noA := by rw [List.contains_cons, T.noA]; rfl
  noN := by rw [List.contains_cons, T.noN]; rfl
  ob := by rw [List.contains_cons, T.ob, Bool.or_true]
  pass := fun self => by rw [refuseLoop_ref]; exact T.pass self
theorem tail_VE : Tail [.type "ValueError", .type "Exception", .type "BaseException", .type "object"] "ValueError.__new__" where
  fx := ⟨_, _, _, F.excBase_ValueError, by decide +kernel⟩
  noA := by decide +kernel
  noN := by decide +kernel
  ob := by decide +kernel
  pass := fun self => by kernel_rfl
theorem tail_RE : Tail [.type "RuntimeError", .type "Exception", .type "BaseException", .type "object"] "RuntimeError.__new__" where
  fx := ⟨_, _, _, F.excBase_RuntimeError, by decide +kernel⟩
  noA := by decide +kernel
  noN := by decide +kernel
  ob := by decide +kernel
  pass := fun self => by kernel_rfl
theorem tail_KE : Tail [.type "KeyError", .type "LookupError", .type "Exception", .type "BaseException", .type "object"] "LookupError.__new__" where
  fx := ⟨_, _, _, F.excBase_LookupError, by decide +kernel⟩
  noA := by decide +kernel
  noN := by decide +kernel
  ob := by decide +kernel
  pass := fun self => by kernel_rfl

section
variable {M : Model} {A : Around} {E : Value → Shared → Prop} {hp : Heap} {gs : Array GenState} {dr : Drawn} {tk : Nat} {os : OsState}
variable {nm q : Str} {C N : Addr} {bs bm bmB : List Value} {hdct : Bool} {sn : List Str} {sub : List Value} {ab : Bool} {col : Option Bool} {dd : Option Addr} {k0 k1 k2 k3 k5 : Option Value} {B newId initId : String}
theorem chk_new (FB : ExcBaseFacts B newId initId bmB) (hb : bm.contains (.type B) = true) {as : List Value} {kw : List (Str × Value)} {Q : Unit → Shared → Prop}
    (hC : hp.get? C = some (excClassObj nm q C N bs bm hdct sn sub ab col dd k0 k1 k2 k3 k5 newId)) (hq : Q () ⟨hp, gs, dr, tk, os⟩) :
    wpAny M A (checkBuiltinCall newId ⟨.ref C :: as, kw⟩) Q E ⟨hp, gs, dr, tk, os⟩ := by
  have inB : (Value.ref C :: bm).contains (.type B) = true := by rw [List.contains_cons, hb, Bool.or_true]
  have nostar := FB.noStar
  simp only [checkBuiltinCall, FB.newKind, FB.newSplit, FB.newRow]
  repeat (first
    | refine wpAny_loadPart_at hC ?_
    | (refine wpAny_isSubtype_exc hC ?_; rw [inB])
    | refine wpAny_staticBase_exc hC ?_
    | refine wpAny_madeBy_exc hC ?_
    | simp only [bne_self_eq_false, Bool.false_eq_true, if_false]
    | wp_step)
  exact hq
end
section
variable {prog : Program} {w : World} {A : Around} {E : Value → Shared → Prop} {R : Result → Shared → Prop} {hp : Heap} {gs : Array GenState} {dr : Drawn} {tk : Nat} {os : OsState}
variable {nm q : Str} {C N : Addr} {bs bm : List Value} {hdct : Bool} {sn : List Str} {sub : List Value} {ab : Bool} {col : Option Bool} {dd : Option Addr} {k0 k1 k2 k3 k5 : Option Value} {newId : String}
theorem run_new (T : Tail bm newId) {as : List Value} {kw : List (Str × Value)} (hC : hp.get? C = some (excClassObj nm q C N bs bm hdct sn sub ab col dd k0 k1 k2 k3 k5 newId)) (hz : as.length ≤ sizeLine)
    (hq : R (.ok (.ret (.ref (hp.objs.size + 1)))) ⟨(hp.push (kdv_tup as)).push (excO C hp.objs.size), gs, dr, tk, os⟩) :
    codeAny (model prog w) A (.builtin newId ⟨.ref C :: as, kw⟩) R ⟨hp, gs, dr, tk, os⟩ := by
  obtain ⟨B, initId, bmB, FB, hb⟩ := T.fx
  have ends := FB.ends
  have inB : (Value.ref C :: bm).contains (.type B) = true := by rw [List.contains_cons, hb, Bool.or_true]
  have inA : (Value.ref C :: bm).contains (.type "AttributeError") = false := by rw [List.contains_cons, T.noA]; rfl
  have inN : (Value.ref C :: bm).contains (.type "NameError") = false := by rw [List.contains_cons, T.noN]; rfl
  refine codeAny_builtinAt FB.entry ?_
  unfold Builtin.«BaseException.__new__»
  refine wpAt_bind ?_
  show wpAt _ _ _ (stack >>= _) _ _ _
  refine wpAt_bind (wpAt_stack fun p below => wpAt_of_wpAny ?_)
  wp_walk
  refine wpAt_of_wpAny ?_
  rw [FB.owner]
  repeat (first
    | with_reducible refine wpAny_madeHere_exc FB.canon hC ?_
    | with_reducible refine wpAny_loadPart_at hC ?_
    | (with_reducible refine wpAny_isSubtype_exc hC ?_; first | rw [inB] | rw [inA] | rw [inN])
    | wp_step)
  show R _ _
  rw [Heap.size_push]
  exact hq
theorem run_type (T : Tail bm newId) {as : List Value} {kw : List (Str × Value)} {fI : Addr} {Q : Fin → Shared → Prop} (hC : hp.get? C = some (excClassObj nm q C N bs bm hdct sn sub ab col dd k0 k1 k2 k3 k5 newId)) (hz : as.length ≤ sizeLine)
    (hi : Looks (model prog w) hp (typeLookup (.ref C) "__init__") (some (.ref fI))) (hb : ∀ self, Looks (model prog w) hp (bindSpecial (.ref fI) self) (.ref fI, [self]))
    (hq : codeAny (model prog w) A (.call (.ref fI) ⟨.ref (hp.objs.size + 1) :: as, kw⟩)
      (fun r s' => match r with | .ok (.ret v) => v = .none ∧ Q (.done (.ret (.ref (hp.objs.size + 1)))) s' | .ok _ => False | .error e => E e s')
      ⟨(hp.push (kdv_tup as)).push (excO C hp.objs.size), gs, dr, tk, os⟩) :
    wpAny (model prog w) A (Builtin.«type.__call__» ⟨.ref C :: as, kw⟩) Q E ⟨hp, gs, dr, tk, os⟩ := by
  obtain ⟨B, initId, bmB, FB, hbm⟩ := T.fx
  repeat (first
    | with_reducible refine wpAny_loadPart_at hC ?_
    | with_reducible refine wpAny_madeBy_exc hC ?_
    | wp_step)
  refine codeAny_call_builtin_code (Code.quiet_builtin _ FB.quiet) (chk_new FB hbm hC ?_)
  refine run_new T hC hz ?_
  show wpAny _ _ _ _ _ _
  have kp : ∀ b o, hp.get? b = some o → ((hp.push (kdv_tup as)).push (excO C hp.objs.size)).get? b = some o := fun b o e =>
    Heap.get?_push_of_some _ (Heap.get?_push_of_some _ e)
  have hC2 := kp _ _ hC
  have hE : ((hp.push (kdv_tup as)).push (excO C hp.objs.size)).get? (hp.objs.size + 1) = some (excO C hp.objs.size) := by heap_get
  have inC : (Value.ref C :: bm).contains (.ref C) = true := by simp
  have i2 := hi.keeps kp
  have b2 := (hb (.ref (hp.objs.size + 1))).keeps kp
  unfold isInstance
  repeat (first
    | with_reducible refine wpAny_loadPart_at hE ?_
    | (with_reducible refine wpAny_isSubtype_exc hC2 ?_; rw [inC])
    | wp_step)
  show wpAny _ _ (typeLookup (.ref C) _) _ _ _
  refine i2.at ?_
  refine wpAny_holding (wpAny_bind (b2.at ?_))
  refine wpAny_bind (wpAny_call (codeAny_mono hq fun r s' z => ?_))
  rcases r with e | (v | _ | _ | _) <;> first | exact z | exact z.elim | skip
  obtain ⟨rfl, z⟩ := z
  first | exact wpAny_pure (wpAny_pure z) | (wp_walk; exact z)
theorem run_own (T : Tail bm newId) {as : List Value} {kw : List (Str × Value)} {fI : Addr} (hC : hp.get? C = some (excClassObj nm q C N bs bm hdct sn sub ab col dd k0 k1 k2 k3 k5 newId)) (hz : as.length ≤ sizeLine)
    (hi : Looks (model prog w) hp (typeLookup (.ref C) "__init__") (some (.ref fI))) (hb : ∀ self, Looks (model prog w) hp (bindSpecial (.ref fI) self) (.ref fI, [self]))
    (hq : codeAny (model prog w) (A.under (.builtin "type.__call__" ⟨.ref C :: as, kw⟩)) (.call (.ref fI) ⟨.ref (hp.objs.size + 1) :: as, kw⟩) (InitBack (hp.objs.size + 1) R)
      ⟨(hp.push (kdv_tup as)).push (excO C hp.objs.size), gs, dr, tk, os⟩) :
    codeAny (model prog w) A (.call (.ref C) ⟨as, kw⟩) R ⟨hp, gs, dr, tk, os⟩ := by
  have g1 := tc_lookup
  have g2 := tc_bind (.ref C)
  have hT : (⟨hp, gs, dr, tk, os⟩ : Shared).TypeIs (.ref C) "type" := ⟨_, hC, rfl⟩
  refine codeAny_of_tree ?_
  show wpAny _ _ (callAny (.ref C) _) _ _ _
  repeat (any_goals (first
    | assumption
    | with_reducible refine wpAny_loadPart_at hC ?_
    | wp_step))
  refine ⟨rfl, ?_⟩
  refine codeAny_call_builtin_at (Code.quiet_builtin _ (by decide +kernel)) entry_typeCall (wpAny_check_type_call_sub hC (run_type T hC hz hi hb ?_))
  refine codeAny_mono hq fun r s' z => ?_
  rcases r with e | (v | _ | _ | _) <;> exact z
end
section
open Builtin Builtin.ObjectAttr
variable {prog : Program} {w : World} {A : Around} {E : Value → Shared → Prop} {R : Result → Shared → Prop} {hp : Heap} {gs : Array GenState} {dr : Drawn} {tk : Nat} {os : OsState}
theorem Tail.ne {bm : List Value} {newId : String} (T : Tail bm newId) : bm.isEmpty = false := by
  cases bm with
  | nil => exact absurd T.ob (by decide)
  | cons _ _ => rfl
/-- self.name = v, the first one -/
theorem osa_new {K : Frag} {newId : String} {name : Str} {tn : Tok} {v : Value} {x C : Addr} {fv : Array Value} {cd : ClassData} (T : Tail cd.mro newId) (X : K.In hp) (hcd : clsIn K C = some cd)
    (hx : hp.get? x = some { cls := .ref C, data := .fields fv }) (hh : cd.hasDict = true) (ha : findIn K (.ref C) name = some none)
    (hq : ∀ h2 t2 dx, hp.objs.size ≤ dx → dx ≠ x → (∀ b o, b ≠ x → hp.get? b = some o → h2.get? b = some o) → h2.get? x = some { cls := .ref C, dict := some dx, data := .fields fv } →
      h2.Ns1 dx (fun y => if y = name then some v else none) → R (.ok (.ret .none)) ⟨h2, gs, dr, t2, os⟩) :
    codeAny (model prog w) A (.call (.builtin "object.__setattr__") ⟨[.ref x, .str name tn, v], []⟩) R ⟨hp, gs, dr, tk, os⟩ := by
  have I : InstAt hp x { cls := .ref C, data := .fields fv } C none := ⟨hx, rfl, rfl, trivial⟩
  have SO := F.store_object
  have nx : x ≠ hp.objs.size := Nat.ne_of_lt (Heap.lt_size hx)
  have inO : Looks (model prog w) hp (isInstance (.ref x) (.type "object")) true :=
    I.type.andThen (looks_mroIn X (by unfold mroIn; rw [hcd, Option.bind_some, if_neg (by rw [T.ne]; decide), T.ob]))
  have chk := SO.args (.ref x) (.str name tn) v
  refine codeAny_call_builtin SO.slot.plain SO.entry ?_
  refine @check_slot (model prog w) _ _ ⟨hp, gs, dr, tk, os⟩ "object.__setattr__" "object" "__setattr__" (.ref x) [.str name tn, v] [] _ SO.kind SO.split inO chk ?_
  have L1 : Looks (model prog w) hp (mroOf (.ref C)) cd.mro := (looks_clsIn X hcd).andThen .now
  have L2 : Looks (model prog w) hp (classData C) cd := looks_clsIn X hcd
  have L3 : Looks (model prog w) hp (storeTaker? none) none := .now
  rw [osa_eq, refuse_eq]
  refine wpAny_bind (wpAny_bind (I.type.at (wpAny_bind (L1.at ?_))))
  rw [T.pass]
  refine wpAny_pure (wpAny_bind (I.type.at (wpAny_bind ((looks_findIn X ha).at (wpAny_bind (L3.at ?_))))))
  show wpAny _ _ (storeInOwnDict (.ref x) (.ref C) (.str name tn) name v false) _ _ _
  obtain ⟨n1, bs, mro, ns, qn, hd, sn, sb, ab, co, dl⟩ := cd
  dsimp only at hh
  subst hh
  unfold storeInOwnDict ownDictForStores
  repeat (first
    | with_reducible refine store_in_new ?_ ?_
    | with_reducible refine wpAny_loadPart_at hx ?_
    | with_reducible refine L2.at ?_
    | wp_step)
  · refine ⟨_, #[], _, (Heap.get?_update_ne _ _ _ _ nx.symm).trans (Heap.get?_push_at rfl rfl), rfl, fun e he => ?_, fun _ => rfl⟩
    exact absurd he (by simp)
  · intro h2 t2 hn2 same
    have hx2 : (hp.push { cls := .type "dict", data := .dict #[] }).get? x = some { cls := .ref C, data := .fields fv } := Heap.get?_push_of_some _ hx
    refine hq h2 t2 hp.objs.size (Nat.le_refl _) nx.symm (fun b o hb ho => ?_) ?_ hn2
    · have nb := Nat.ne_of_lt (Heap.lt_size ho)
      exact (same.2 b nb).trans ((Heap.get?_update_ne _ _ _ _ hb).trans (Heap.get?_push_of_some _ ho))
    · exact (same.2 x nx).trans (Heap.get?_update_self _ hx2 rfl)
end
end PzR

/-! ### over the layer: C(e) where C's __init__ stores its argument -/
namespace PzR
open PySem PySem.Spec PyProof.Rows L2
structure OexG (K : PySem.W.Frag) (C : Addr) : Prop where
  cls : ∃ nm q N bs bm sn sub ab col dd k0 k1 k2 k3 k5 newId, K.lookup C = some (excClassObj nm q C N bs bm true sn sub ab col dd k0 k1 k2 k3 k5 newId) ∧ Tail bm newId
  sa : PySem.W.findIn K (.ref C) "__setattr__" = some (some (.builtin "object.__setattr__"))
  tyC : PySem.W.typeIn K (.ref C) = some (.type "type")
  kC : PySem.W.keepIn K (.ref C) = true
section
variable {X : Cx} {pins : List (Addr × Obj)} {σ : L2.St} {H : Hp} {s : Shared} {a C dx : Addr} {f : Str} {y : V} {u : Value} {Q : Unit → Shared → Prop} {E : Value → Shared → Prop} {A : Around}
theorem osg_new (T : OexG X.K C) (I : Inv X pins σ H s) (e : H a = some (exo a C none)) (hno : PySem.W.findIn X.K (.ref C) f = some none) (ry : RelV y u)
    (h : ∀ dx s', H dx = none → dx ≠ a → Inv X pins σ (upd (upd H dx (exd dx [(f, y)])) a (exo a C (some dx))) s' → Q () s') : wpAny (model X.prog X.w) A (setAttr (.ref a) f u) Q E s := by
  obtain ⟨nm, q, N, bs, bm, sn, sub, ab, col, dd, k0, k1, k2, k3, k5, newId, hC, hT⟩ := T.cls
  have hcl : PySem.W.clsIn X.K C = some { name := nm, bases := bs, mro := .ref C :: bm, ns := N, qualname := q, hasDict := true, slotNames := sn, subclasses := sub, abstract := ab, collection := col, hasDel := false } := by
    unfold PySem.W.clsIn
    rw [hC] <;> rfl
  obtain ⟨t1, ho⟩ := exo_at I.hok e
  obtain ⟨hp, g, d, t, os⟩ := s
  refine PySem.W.set_plain I.kIn (ox := { cls := .ref C, dict := none, data := .fields #[.ref t1, .none, .none, .none, .bool false, .none] }) (od := none) ⟨ho, rfl, rfl, trivial⟩ T.sa ?_
  refine osa_new (newId := newId) (show Tail (.ref C :: bm) newId from hT.cons) I.kIn hcl ho rfl hno fun h2 t2 dx dn dne k hx hn => ?_
  have n1 : H dx = none := I.hok.fresh dn
  have n2 : ∀ {b : Addr} {o : Obj}, hp.get? b = some o → b ≠ dx := fun {b o} z => Nat.ne_of_lt (Nat.lt_of_lt_of_le (Heap.lt_size z) dn)
  have n3 : ∀ {b : Addr}, H b = none → b ≠ a := fun {b} n z => by subst z; rw [n] at e; cases e
  have un : Un X.fs [] H (upd (upd H dx (exd dx [(f, y)])) a (exo a C (some dx))) hp h2 := by
    refine ⟨fun b o z n _ _ => k b o (n3 n) z, fun b o z n _ _ => ⟨o.slots, k b o (n3 n) z⟩, fun b o z n _ => ?_, fun b o z _ => ?_, fun b xs z => ?_, fun b o v z => ?_, fun b ps z => ⟨#[], ?_⟩⟩
    · rw [upd_ne (n3 n), upd_ne (n2 z)]; exact n
    · by_cases hb : b = a
      · subst hb; exact ⟨_, hx⟩
      · exact ⟨o, k b o hb z⟩
    · rw [upd_ne (at_ne e z exo_tup), upd_ne (ne_of_none z n1)]; exact z
    · rw [upd_ne (at_ne e z exo_frz), upd_ne (ne_of_none z n1)]; exact z
    · rw [upd_ne (at_ne e z exo_tbl), upd_ne (ne_of_none z n1), z]; simp
  refine h dx _ n1 dne (I.un (t' := t2) un fun b o z => ?_)
  by_cases hb : b = a
  · subst hb
    rw [upd_same] at z; cases z
    exact exo_ok hx
  · rw [upd_ne hb] at z
    by_cases hd : b = dx
    · subst hd
      rw [upd_same] at z; cases z
      exact exd_ok hn (relO_put (fs := []) ry fun g => True.intro)
    · rw [upd_ne hd] at z
      refine (I.hok b o z).stay (fun c v hc r => k c v ?_ r) (fun c hc => ?_) fun c xs hc => ?_
      · rcases hc with hc | hc
        · rw [hc]; exact hb
        · exact at_ne e hc exo_own
      · rw [upd_ne (at_ne e hc exo_own), upd_ne (ne_of_none hc n1)]; exact hc
      · rw [upd_ne (at_ne e hc exo_tup), upd_ne (ne_of_none hc n1)]; exact hc
end
def tOsg (K : PySem.W.Frag) (f : Str) (to te : TE) : TS := fun D σ H => te σ H fun y H1 => to σ H1 fun x H2 => ∃ a C : Addr, x = .ref a ∧ OexG K C ∧ PySem.W.findIn K (.ref C) f = some none ∧
  H2 a = some (exo a C none) ∧ ∀ dx, H2 dx = none → dx ≠ a → D.nx σ (upd (upd H2 dx (exd dx [(f, y)])) a (exo a C (some dx)))
theorem ps_osg {X : Cx} {o e : Expr} {to te : TE} {f : Str} {p' pos : Pos} (ho : PE X o to) (he : PE X e te) (hs : swapsWith e (some (.Attribute o f p')) pos.line X.env = pure false := by rfl) :
    PS X (.Assign [.Attribute o f p'] e pos) (tOsg X.K f to te) := by
  refine ⟨fun pins s σ H D I h => plainObj_wpAny_Assign_Attribute (thn (he.run pins s σ H _ I h) fun v s1 ⟨y, H1, I1, r1, q1⟩ => thn (ho.run pins s1 σ H1 _ I1 q1) fun u s2 hh => ?_) hs⟩
  obtain ⟨x, H2, I2, r2, a, C, ex, T, hno, ea, q⟩ := hh
  subst ex
  obtain rfl : u = Value.ref a := r2
  exact osg_new T I2 ea hno r1 fun dx s' n ne J => ⟨σ, _, J, q dx n ne⟩
def spInitG (K : PySem.W.Frag) (fld : Str) : Sp := fun vs H Q _ => ∃ (a C : Addr) (y : V), vs = [.ref a, y] ∧ OexG K C ∧ PySem.W.findIn K (.ref C) fld = some none ∧ H a = some (exo a C none) ∧ ∀ dx, H dx = none → dx ≠ a → Q .non (upd (upd H dx (exd dx [(fld, y)])) a (exo a C (some dx)))
theorem ok_initG {P : Program} {w : World} {K : PySem.W.Frag} {mg : Str → Option Value} {base : Heap} {qual n0 n1 fld : Str} {st : Stmt} {fI : Addr} {fd : FuncData} {p1 p2 p3 p4 : Pos} (F : Fun K "__init__" qual st fI fd) (S : FnScope [n0, n1] [n0, n1] (defScope st)) (bd : defBody st = [.Assign [.Attribute (.Name n0 p1) fld p2] (.Name n1 p3) p4])
    (v0 : Vis (defScope st) n0) (v1 : Vis (defScope st) n1) (d0 : (n0 == ("__debug__" : Str)) = false) (d1 : (n1 == ("__debug__" : Str)) = false) (c0 : (n0 == ("__classdict__" : Str)) = false) (c1 : (n1 == ("__classdict__" : Str)) = false) : FnOk P w K mg base L2.CX0 1 fI fd [n0, n1] (spInitG K fld) := by
  refine F.ok S (fun vs H Q E h => ?_) (fun cdv A outer s H vs Q E hr h => ⟨tOsg K fld (tVar 0) (tVar 1), ?_, ?_⟩)
  · obtain ⟨a, C, y, rfl, _⟩ := h; rfl
  · rw [bd]
    exact pss_one (ps_osg (pe_var rfl v0 d0 c0) (pe_var rfl v1 d1 c1))
  · obtain ⟨a, C, y, rfl, T, no, ea, q⟩ := h
    exact ⟨_, rfl, _, rfl, a, C, rfl, T, no, ea, q⟩
/-- what is made: the exception at a, known as oe from now on, its dict at d -/
structure MadeX (C : Addr) (fld : Str) (y : V) (H : Hp) (a d : Addr) (oe : Obj) : Prop where
  na : H a = none
  nd : H d = none
  ne : a ≠ d
  cls : oe.cls = .ref C
  dict : oe.dict = some d
  data : ∃ vs, oe.data = .fields vs
abbrev withX (fld : Str) (y : V) (H : Hp) (a d : Addr) (oe : Obj) : Hp := upd (upd H a (.frz oe (.own a))) d (.xd [(fld, y)])
section
variable {fld : Str} {y : V} {H : Hp} {a d : Addr} {oe : Obj}
theorem withX_ne {b : Addr} (h1 : b ≠ d) (h2 : b ≠ a) : withX fld y H a d oe b = H b := by rw [withX, upd_ne h1, upd_ne h2]
theorem withX_d : withX fld y H a d oe d = some (.xd [(fld, y)]) := upd_same
theorem withX_a (h : a ≠ d) : withX fld y H a d oe a = some (.frz oe (.own a)) := by rw [withX, upd_ne h, upd_same]
end
section
variable {X : Cx} {pins : List (Addr × Obj)} {σ : L2.St} {H H2 : Hp} {s s' : Shared} {a C d : Addr} {fld : Str} {y : V}
theorem made_end {hp2 : Heap} (I : Inv X pins σ H s) (ha : s.heap.objs.size ≤ a) (k : ∀ b o, s.heap.get? b = some o → hp2.get? b = some o) (un : Un (frs X.stack) [] (upd H a (exo a C none)) H2 hp2 s'.heap) (hok : HOk X.prog X.w H2 s'.heap)
    (ho : s'.os = s.os) (hb : AllBare s'.gens) (hd0 : (upd H a (exo a C none)) d = none) (hne : d ≠ a) (e2 : H2 = upd (upd (upd H a (exo a C none)) d (exd d [(fld, y)])) a (exo a C (some d))) :
    ∃ oe, MadeX C fld y H a d oe ∧ Inv X pins σ (withX fld y H a d oe) s' := by
  have na : H a = none := I.hok.fresh ha
  have nd : H d = none := by rw [upd_ne hne] at hd0; exact hd0
  have ea : H2 a = some (exo a C (some d)) := by rw [e2, upd_same]
  have ed : H2 d = some (exd d [(fld, y)]) := by rw [e2, upd_ne hne, upd_same]
  have eo : ∀ {b : Addr}, b ≠ a → b ≠ d → H2 b = H b := fun {b} h1 h2 => by rw [e2, upd_ne h1, upd_ne h2, upd_ne h1]
  obtain ⟨t0, hoe⟩ := exo_at hok ea
  obtain ⟨mA, hns, rel⟩ := exd_at hok ed
  refine ⟨{ cls := .ref C, dict := some d, data := .fields #[.ref t0, .none, .none, .none, .bool false, .none] }, ⟨na, nd, hne.symm, rfl, rfl, ⟨_, rfl⟩⟩, ?_⟩
  have nha : ∀ {b : Addr} {o : Obj}, s.heap.get? b = some o → b ≠ a := fun {b o} z => Nat.ne_of_lt (Nat.lt_of_lt_of_le (Heap.lt_size z) ha)
  have up : ∀ {b : Addr}, b ≠ a → H b = none → upd H a (exo a C none) b = none := fun {b} h n => by rw [upd_ne h]; exact n
  have nhd : ∀ {b : Addr} {o : Obj}, s.heap.get? b = some o → H b = none → b ≠ d := fun {b o} z n e => by
    have q := un.free b o (k b o z) (up (nha z) n) (by simp)
    rw [e, ed] at q; cases q
  refine I.call' (ch := []) ho ⟨fun b o z n hf hx => un.keep b o (k b o z) (up (nha z) n) hf hx, fun b o z n hf hx => un.slot b o (k b o z) (up (nha z) n) hf hx, fun b o z n hx => ?_, fun b o z hx => un.there b o (k b o z) hx, fun b xs z => ?_, fun b o v z => ?_, fun b ps z => ⟨#[], ?_⟩⟩ (fun b o z => ?_) hb (fun b z => absurd z (by simp))
  · rw [withX_ne (nhd z n) (nha z)]; exact n
  · rw [withX_ne (ne_of_none z nd) (ne_of_none z na)]; exact z
  · rw [withX_ne (ne_of_none z nd) (ne_of_none z na)]; exact z
  · rw [withX_ne (ne_of_none z nd) (ne_of_none z na), z]; simp
  · by_cases hbd : b = d
    · subst hbd
      rw [withX_d] at z; cases z
      exact ⟨mA, hns, rel⟩
    · by_cases hba : b = a
      · subst hba
        rw [withX_a hne.symm] at z; cases z
        exact ⟨hoe, _, hoe⟩
      · rw [withX_ne hbd hba] at z
        refine (hok b o ((eo hba hbd).trans z)).stay (fun _ _ _ r => r) (fun c hc => ?_) fun c xs hc => ?_
        · have h1 : c ≠ a := at_ne ea hc exo_own
          have h2 : c ≠ d := at_ne ed hc exd_own
          rw [withX_ne h2 h1, ← eo h1 h2]; exact hc
        · have h1 : c ≠ a := at_ne ea hc exo_tup
          have h2 : c ≠ d := at_ne ed hc exd_tup
          rw [withX_ne h2 h1, ← eo h1 h2]; exact hc
theorem run_mkvA {k : Nat} {fI : Addr} {fd : FuncData} {n0 n1 : Str} {u : Value} {as : List Value} {kw : List (Str × Value)} {Q : VK} (T : OexG X.K C) (iC : PySem.W.findIn X.K (.ref C) "__init__" = some (some (.ref fI))) (tI : PySem.W.typeIn X.K (.ref fI) = some (.type "function"))
    (F1 : FnOk X.prog X.w X.K X.mg X.base L2.CX0 k fI fd [n0, n1] (spInitG X.K fld)) (hr : Room (k + 1) X.A) (hz : as.length ≤ 1000) (hb : ∀ (s : Shared) (a : Addr), X.K.In s.heap → BindsTo s fd ⟨.ref a :: as, kw⟩ [(n0, .ref a), (n1, u)]) (no : PySem.W.findIn X.K (.ref C) fld = some none) (I : Inv X pins σ H s) (r : RelV y u)
    (h : ∀ a d oe, MadeX C fld y H a d oe → Q (.ref a) (withX fld y H a d oe)) : wpAny (model X.prog X.w) X.A (call (.ref C) as kw) (EP X pins σ Q) X.xe s := by
  obtain ⟨nm, q, N, bs, bm, sn, sub, ab, col, dd, k0, k1, k2, k3, k5, newId, hC, hT⟩ := T.cls
  obtain ⟨hp, g, dr, tk, os⟩ := s
  have sz : hp.objs.size ≤ hp.objs.size + 1 := Nat.le_succ _
  have hn : H (hp.objs.size + 1) = none := I.hok.fresh sz
  have kk : ∀ b o, hp.get? b = some o → ((hp.push (PySem.W.kdv_tup as)).push (PySem.HandSPX.excO C hp.objs.size)).get? b = some o := fun b o e =>
    Heap.get?_push_of_some _ (Heap.get?_push_of_some _ e)
  have hE : ((hp.push (PySem.W.kdv_tup as)).push (PySem.HandSPX.excO C hp.objs.size)).get? (hp.objs.size + 1) = some (PySem.HandSPX.excO C hp.objs.size) := by heap_get
  have I2 : Inv X pins σ (upd H (hp.objs.size + 1) (exo (hp.objs.size + 1) C none)) ⟨(hp.push (PySem.W.kdv_tup as)).push (PySem.HandSPX.excO C hp.objs.size), g, dr, tk, os⟩ :=
    Inv.laid I (t' := tk) (a := hp.objs.size + 1) (o := exo (hp.objs.size + 1) C none) kk sz (exo_ok hE)
  have r2 : Vals [V.ref (hp.objs.size + 1), y] [Value.ref (hp.objs.size + 1), u] := .cons rfl (.cons r .nil)
  refine wpAny_call (run_own hT (I.kIn _ _ hC) (Nat.le_trans hz (by rw [sizeLine_eq]; decide)) (PySem.W.looks_findIn I.kIn iC) (fun self => PySem.W.bind_fn I.kIn self tI)
    (codeAny_mono (F1.run _ X.stack _ _ ⟨Value.ref (hp.objs.size + 1) :: as, kw⟩ [Value.ref (hp.objs.size + 1), u] _ (fun v H2 => v = .non ∧ ∃ d, (upd H (hp.objs.size + 1) (exo (hp.objs.size + 1) C none)) d = none ∧ d ≠ hp.objs.size + 1 ∧
      H2 = upd (upd (upd H (hp.objs.size + 1) (exo (hp.objs.size + 1) C none)) d (exd d [(fld, y)])) (hp.objs.size + 1) (exo (hp.objs.size + 1) C (some d))) (fun _ _ _ => False) (hr.make C as kw) (I2.env0.make C as kw)
      (hb _ _ I2.kIn) r2 ⟨_, C, y, rfl, T, no, upd_same, fun dx n ne => ⟨rfl, dx, n, ne, rfl⟩⟩) fun r s' hq => ?_))
  cases r with
  | error er => exact L2.pass0 pins σ _ _ er s' I2 hq
  | ok fl =>
    cases fl with
    | ret v =>
      obtain ⟨v', H2, os2, bare, un, hok, rv, ev, d, hd0, hne, e2⟩ := hq
      subst ev
      obtain ⟨oe, M, J⟩ := made_end (s' := s') I sz kk un hok os2 bare hd0 hne e2
      exact ⟨rv, V.ref (hp.objs.size + 1), _, J, rfl, h _ d oe M⟩
    | next => exact False.elim hq
    | brk => exact False.elim hq
    | cont => exact False.elim hq
theorem run_mkv {k : Nat} {fI : Addr} {fd : FuncData} {n0 n1 : Str} {u : Value} {Q : VK} (T : OexG X.K C) (iC : PySem.W.findIn X.K (.ref C) "__init__" = some (some (.ref fI))) (tI : PySem.W.typeIn X.K (.ref fI) = some (.type "function"))
    (F1 : FnOk X.prog X.w X.K X.mg X.base L2.CX0 k fI fd [n0, n1] (spInitG X.K fld)) (hr : Room (k + 1) X.A) (hb : Binds X.K fd [n0, n1] []) (no : PySem.W.findIn X.K (.ref C) fld = some none) (I : Inv X pins σ H s) (r : RelV y u)
    (h : ∀ a d oe, MadeX C fld y H a d oe → Q (.ref a) (withX fld y H a d oe)) : wpAny (model X.prog X.w) X.A (call (.ref C) [u]) (EP X pins σ Q) X.xe s :=
  run_mkvA T iC tI F1 hr (by simp) (fun s a X => hb s [.ref a, u] X rfl) no I r h
end
end PzR

set_option Elab.async false
set_option linter.all false
set_option maxRecDepth 100000
set_option maxHeartbeats 2000000
namespace Pz
open PySem PySem.Spec L2 PzR

/-! ### an exception made as a value -/
def rMkX (c : Nat) (fld : Str) (re : LF) : EF := fun σ h => (re σ h).bnd fun vs h => match vs with
  | [v] => .ok (.xn c h.length) (h ++ [.exc c [(fld, v)]])
  | _ => .stuck
/-- an own exception class whose __init__ stores its argument -/
structure XcD (P : Program) (w : World) (K : PySem.W.Frag) (mg : Str → Option Value) (base : Heap) (G : Nat → Addr) (c : Nat) (x n0 n1 : Str) (fI : Addr) (fd : FuncData) : Prop where
  T : OexG K (G c)
  iC : PySem.W.findIn K (.ref (G c)) "__init__" = some (some (.ref fI))
  tI : PySem.W.typeIn K (.ref fI) = some (.type "function")
  F1 : FnOk P w K mg base L2.CX0 1 fI fd [n0, n1] (spInitG K n1)
  bi : Binds K fd [n0, n1] []
  bk : KBn K fd [n0, n1] 1 [n1] (fun us ws => us ++ ws) (fun vs zs => vs ++ zs)
  mg : mg x = some (.ref (G c))
  no : PySem.W.findIn K (.ref (G c)) n1 = some none
section
variable {X : Cx} {G : Nat → Addr} {W : WX} {pos p : Pos} {e : Expr} {re : LF} {c : Nat} {x n0 n1 : Str} {fI : Addr} {fd : FuncData}
theorem mkx_post {Z : Cz} {ρ : Nat → Addr} {h : Hs} {H : Hp} {σ : L2.St} {Q : VK} {v : SV} {y : V} {a d : Addr} {oe : Obj} (R : RHp Z ρ h H) (r : RV Z ρ h.length H v y) (M : MadeX (Z.G c) n1 y H a d oe) (hP : PostE Z W ρ h H σ (.ok (.xn c h.length) (h ++ [.exc c [(n1, v)]])) Q) :
    Q (.ref a) (withX n1 y H a d oe) := by
  have nd : (upd H a (.frz oe (.own a))) d = none := by rw [upd_ne M.ne.symm]; exact M.nd
  have R1 := R.lay (u := .frz oe (.own a)) M.na
  have E1 : Gro ρ h H ρ h (upd H a (.frz oe (.own a))) := Gro.lay M.na
  have k1 := keep_lay (u := .frz oe (.own a)) M.na
  have k2 := keep_lay (u := .xd [(n1, y)]) nd
  have r2 : RV Z (putA ρ h.length d) (h.length + 1) (withX n1 y H a d oe) v y := (r.ext' k1 (Nat.le_refl _) fun _ _ => rfl).ext' k2 (Nat.le_succ _) fun j hj => putA_lt hj
  have R2 := R1.push (o := .exc c [(n1, v)]) (u := .xd [(n1, y)]) nd ⟨_, upd_same, .cons r2 .nil⟩
  refine hP _ _ _ (E1.trans R1 (Gro.push nd)) R2 ?_
  exact .xn (by simp) (withX_a M.ne) M.cls (by rw [putA_same]; exact M.dict) M.data
theorem se_mkx {k : Nat} (D : XcD X.prog X.w X.K X.mg X.base G c x n0 n1 fI fd) (hr : Room 2 X.A) (sl : SA X G W [e] re) (hg : Gl X x := by rfl) (hdb : (x == ("__debug__" : Str)) = false := by decide)
    (he : starEach [e] X.env = (false, eval e X.env) :: starEach [] X.env := by rfl) (hpl : (backTo pos (starEach [] X.env)).any (·.1) = false := by rfl) :
    SE X G W (.Call (.Name x p) [e] [] pos) (rMkX c n1 re) := .of fun ρ σs h σ H Q hE hR hP pins s I => by
  refine wpAny_Call_Name_kw (ld_glob I hg D.mg ?_ hdb)
  refine PySem.W.callWith_K (h₀ := X.base) I.ok.mod.kin D.T.kC (thn (sl ρ σs h σ H (fun vs H1 => ∀ (pins : List (Addr × Obj)) (s : Shared) (us : List Value), Inv X pins σ H1 s → Vals vs us → wpAny (model X.prog X.w) X.A (call (.ref (G c)) us) (EP X pins σ Q) X.xe s) hE hR (hP.fst fun vs h1 ρ1 H1 xs _ E1 R1 v1 p1 pins s us I r => ?_) pos pins s I) fun us s1 ⟨vs, H1, I1, r, q⟩ => ⟨I1.kIn, q pins s1 us I1 r⟩) he hpl
  split at p1
  · cases v1 with | cons rv t => ?_
    cases t
    cases r with | cons ry t => ?_
    cases t
    exact run_mkv D.T D.iC D.tI D.F1 hr D.bi D.no I ry fun a d oe M => mkx_post R1 rv M p1
  · exact p1.elim
/-! keywords -/
def tAnyK (X : Cx) (kws : List Keyword) : TA := fun σ H Q => ∀ (pos : Pos) (pins : List (Addr × Obj)) (s : Shared), Inv X pins σ H s → wpAny (model X.prog X.w) X.A (evalAll ((backToKw pos (keywordEach kws X.env)).map (·.2))) (AP X pins σ Q) X.xe s
structure SK (X : Cx) (G : Nat → Addr) (W : WX) (kws : List Keyword) (r : LF) : Prop where of ::
  run : ∀ ρ σs h σ H Q, REnv (zOf X G) ρ h.length H σs σ → RHp (zOf X G) ρ h H → PostL (zOf X G) W ρ h H σ (r σs h) Q → tAnyK X kws σ H Q
theorem pk_any {kws : List Keyword} : PK X kws (tAnyK X kws) := ⟨fun pos pins s σ H Q I h => h pos pins s I⟩
theorem any_pk {kws : List Keyword} {t : TA} (h : PK X kws t) {σ : L2.St} {H : Hp} {Q : List V → Hp → Prop} (q : t σ H Q) : tAnyK X kws σ H Q := fun pos pins s I => h.run pos pins s σ H Q I q
theorem sk_nil : SK X G W [] lNil := .of fun ρ σs h σ H Q hE hR hP => any_pk pk_nil (PostG.ret hR .nil hP)
theorem sk_cons {kws : List Keyword} {nm : Option Str} {kp : Pos} {ra : EF} (s : SE X G W e ra) (sl : SK X G W kws re) : SK X G W (⟨nm, e, kp⟩ :: kws) (lCons ra re) :=
  .of fun ρ σs h σ H Q hE hR hP => any_pk (pk_cons pe_any pk_any) (s.run ρ σs h σ H _ hE hR (hP.fst fun v h1 ρ1 H1 x _ E1 R1 v1 p1 =>
    sl.run ρ1 σs h1 σ H1 _ (hE.ext hR E1) R1 (p1.fst fun vs h2 ρ2 H2 xs _ E2 R2 v2 p2 => PostG.ret R2 (.cons (v1.ext R1 E2) v2) p2)))
theorem se_mkxk {k : Nat} {kws : List Keyword} (D : XcD X.prog X.w X.K X.mg X.base G c x n0 n1 fI fd) (hr : Room 2 X.A) (sl : SK X G W kws re) (hks : (backToKw pos (keywordEach kws X.env)).filterMap (·.1) = [n1]) (hg : Gl X x := by rfl) (hdb : (x == ("__debug__" : Str)) = false := by decide)
    (hall : (backToKw pos (keywordEach kws X.env)).all (·.1.isSome) = true := by rfl) (hpl : ((backTo pos (starEach [] X.env)).any (·.1) || (backToKw pos (keywordEach kws X.env)).any (·.1.isNone)) = false := by rfl) :
    SE X G W (.Call (.Name x p) [] kws pos) (rMkX c n1 re) := .of fun ρ σs h σ H Q hE hR hP pins s I => by
  refine wpAny_Call_Name_kw (ld_glob I hg D.mg ?_ hdb)
  refine PySem.W.callWith_KW0 (h₀ := X.base) I.ok.mod.kin D.T.kC hall (thn (sl.run ρ σs h σ H (fun vs H1 => ∀ (pins : List (Addr × Obj)) (s : Shared) (us : List Value), Inv X pins σ H1 s → Vals vs us → wpAny (model X.prog X.w) X.A (call (.ref (G c)) [] ([n1].zip us)) (EP X pins σ Q) X.xe s) hE hR (hP.fst fun vs h1 ρ1 H1 xs _ E1 R1 v1 p1 pins s us I r => ?_) pos pins s I) fun us s1 ⟨vs, H1, I1, r, q⟩ => ⟨I1.kIn, ?_⟩) hpl
  · split at p1
    · cases v1 with | cons rv t => ?_
      cases t
      cases r with | cons ry t => ?_
      cases t
      exact run_mkvA D.T D.iC D.tI D.F1 hr (by simp) (fun s a X => D.bk.to s [.ref a] [_] X rfl rfl) D.no I ry fun a d oe M => mkx_post R1 rv M p1
    · exact p1.elim
  · rw [hks]; exact q pins s1 us I1 r
end
end Pz

set_option Elab.async false
set_option linter.all false
set_option maxRecDepth 100000
set_option maxHeartbeats 2000000
namespace Pz
open PySem PySem.Spec L2 PzR

/-! ### isinstance, exceptions too -/
structure IsE (K : PySem.W.Frag) (C : Addr) : Prop where
  cl : (PySem.W.clsIn K C).isSome = true
  ga : PySem.W.findIn K (.ref C) "__getattribute__" = some (some (.builtin "BaseException.__getattribute__"))
  gg : PySem.W.findIn K (.ref C) "__getattr__" = some none
  eb : PySem.W.subIn K (.ref C) (.type "BaseException") = some true
  ha : PySem.W.findIn K (.ref C) "__class__" = some (some (.builtin "object.__class__"))
  hn : PySem.W.specialIn K (.builtin "object.__class__") "__get__" = some (some (.builtin "getset_descriptor.__get__"))
  hk : PySem.W.takesIn K (.builtin "object.__class__") = some true
  hm : PySem.W.mroIn K C (.type "object") = some true
/-- the table of answers: exceptions' classes stand on the left as .c -/
structure IsX (X : Cx) (G : Nat → Addr) (T : Nat → TyS → Option Bool) : Prop where
  one : ∀ a b r, T a b = some r → PySem.W.kitOne X.K (.ref (G a)) (b.v G) = some r
  own : ∀ a b r, T a b = some r → IsE X.K (G a)
def bIsX (T : TyS → TyS → Option Bool) (U : Nat → TyS → Option Bool) : List SV → Hs → Out SV
  | [.xn c j, k], h => match h[j]?, clS k with
    | some (.exc _ _), some k => (match U c k with
      | some r => .ok (.bl r) h
      | none => .stuck)
    | _, _ => .stuck
  | l, h => bIsi T l h
section
variable {X : Cx} {G : Nat → Addr}
theorem fn_isx {T : TyS → TyS → Option Bool} {U : Nat → TyS → Option Bool} (hT : IsT X G T) (hU : IsX X G U) : FnS X G (.builtin "isinstance") (bIsX T U) := .of fun W ρ h H σ us xs Q hR t hP pins s σ' ws I rw => by
  unfold bIsX at hP
  split at hP
  · obtain ⟨x, y, rfl, r1, r2⟩ := rvs2 t
    obtain ⟨w1, w2, rfl, z1, z2⟩ := vals2 rw
    rename_i h9 c0 j0 k0
    split at hP
    · rename_i c1 fs k e0 e1
      split at hP
      · rename_i r e2
        have D := hU.own _ _ _ e2
        have e3 := hU.one _ _ _ e2
        cases r1 with | @xn _ _ a oe u hj ea hc hd hv => ?_
        obtain ⟨vs, hv⟩ := hv
        obtain rfl : w1 = Value.ref a := z1
        have ha : s.heap.get? a = some oe := (show s.heap.get? a = some oe ∧ _ from I.hok a _ ea).1
        obtain ⟨ws, ed, t3⟩ := hR.exc e0
        obtain ⟨mA, hns, hr⟩ := (show ObjOk X.prog X.w H s.heap (ρ j0) (.xd ws) from I.hok _ _ ed)
        obtain ⟨od, ho, hl⟩ := lookIn_ns hns
        have J : PySem.W.InstAt s.heap a oe (G c0) (some od) := ⟨ha, hc, by unfold PySem.W.notCls; rw [hv] <;> rfl, by rw [hd]; exact ho⟩
        have ek : w2 = k.v G := by
          unfold clS at e1
          split at e1
          · cases e1; cases r2; exact z2
          · cases e1; cases r2; exact z2
          · cases e1
        subst ek
        exact PySem.W.kia_one (PySem.W.kitx_exc D.cl D.ga D.gg D.eb D.ha D.hn D.hk D.hm) I.kIn J e3 (fun z => nomatch z) fun tk => ⟨.bl r, H, I.tok tk, rfl, PostG.ret hR (.bl _) hP⟩
      · exact hP.elim
    · exact hP.elim
  · exact (fn_isi hT) W ρ h H σ us xs Q hR t hP pins s σ' ws I rw
theorem gv_cls {x : Str} {c : Nat} (h : X.mg x = some (.ref (G c))) : GV X G x (.obj c) := ⟨_, .ref (G c), h, rfl, fun _ _ _ => .obj c⟩
end

/-! ### what is looked at in one step of the kernel -/
/-- answers, a row for each class: those about own classes by their places, those about built-in ones by their names -/
abbrev XRow := List Bool × List (String × Bool)
def tX (tab : List XRow) (a : Nat) (b : TyS) : Option Bool := match tab[a]? with
  | some p => (match b with
    | .c j => p.1[j]?
    | .b n => p.2.lookup n)
  | none => none
def rowOk (K : PySem.W.Frag) (G : Nat → Addr) (a : Nat) (p : XRow) : Bool :=
  ((List.range p.1.length).all fun j => PySem.W.kitOne K (.ref (G a)) (.ref (G j)) == p.1[j]?) && p.2.all fun q => PySem.W.kitOne K (.ref (G a)) (.type q.1) == some q.2
def supsOk (K : PySem.W.Frag) (G : Nat → Addr) (tab : List XRow) : Bool := (List.range tab.length).all fun a => rowOk K G a (tab.getD a ([], []))
theorem lookup_mem {n : String} {r : Bool} : ∀ {l : List (String × Bool)}, l.lookup n = some r → (n, r) ∈ l
  | [], e => by simp at e
  | (m, s) :: l, e => by
    rw [List.lookup_cons] at e
    split at e
    · rename_i h
      have := beq_iff_eq.mp h
      cases e; subst this; simp
    · exact List.mem_cons_of_mem _ (lookup_mem e)
theorem supsOk_one {K : PySem.W.Frag} {G : Nat → Addr} {tab : List XRow} (h : supsOk K G tab = true) (a : Nat) (b : TyS) (r : Bool) (e : tX tab a b = some r) : PySem.W.kitOne K (.ref (G a)) (b.v G) = some r := by
  unfold tX at e
  split at e
  · rename_i p ep
    have ha := (List.getElem?_eq_some_iff.mp ep).1
    have h1 := List.all_eq_true.mp h a (List.mem_range.mpr ha)
    rw [List.getD_eq_getElem?_getD, ep] at h1
    unfold rowOk at h1
    rw [Bool.and_eq_true] at h1
    split at e
    · rename_i j
      have hj := (List.getElem?_eq_some_iff.mp e).1
      have h2 := beq_iff_eq.mp (List.all_eq_true.mp h1.1 j (List.mem_range.mpr hj))
      exact h2.trans e
    · rename_i n
      exact beq_iff_eq.mp (List.all_eq_true.mp h1.2 _ (lookup_mem e))
  · cases e
def exOk (K : PySem.W.Frag) (C : Addr) : Bool :=
  (PySem.W.clsIn K C).isSome && PySem.W.findIn K (.ref C) "__getattribute__" == some (some (.builtin "BaseException.__getattribute__")) && PySem.W.findIn K (.ref C) "__getattr__" == some none
    && PySem.W.subIn K (.ref C) (.type "BaseException") == some true && PySem.W.findIn K (.ref C) "__class__" == some (some (.builtin "object.__class__"))
    && PySem.W.specialIn K (.builtin "object.__class__") "__get__" == some (some (.builtin "getset_descriptor.__get__")) && PySem.W.takesIn K (.builtin "object.__class__") == some true && PySem.W.mroIn K C (.type "object") == some true
    && PySem.W.hasDictIn K C && PySem.W.findIn K (.ref C) "__setattr__" == some (some (.builtin "object.__setattr__")) && PySem.W.typeIn K (.ref C) == some (.type "type") && PySem.W.keepIn K (.ref C)
structure ExF (K : PySem.W.Frag) (C : Addr) : Prop where
  is : IsE K C
  hd : PySem.W.hasDictIn K C = true
  sa : PySem.W.findIn K (.ref C) "__setattr__" = some (some (.builtin "object.__setattr__"))
  ty : PySem.W.typeIn K (.ref C) = some (.type "type")
  kp : PySem.W.keepIn K (.ref C) = true
theorem exOk_f {K : PySem.W.Frag} {C : Addr} (h : exOk K C = true) : ExF K C := by
  unfold exOk at h
  simp only [Bool.and_eq_true, beq_iff_eq] at h
  obtain ⟨⟨⟨⟨⟨⟨⟨⟨⟨⟨⟨h1, h2⟩, h3⟩, h4⟩, h5⟩, h6⟩, h7⟩, h8⟩, h9⟩, h10⟩, h11⟩, h12⟩ := h
  exact ⟨⟨h1, h2, h3, h4, h5, h6, h7, h8⟩, h9, h10, h11, h12⟩
def allOk (K : PySem.W.Frag) (G : Nat → Addr) (n : Nat) : Bool := (List.range n).all fun a => exOk K (G a)
theorem allOk_f {K : PySem.W.Frag} {G : Nat → Addr} {n : Nat} (h : allOk K G n = true) {a : Nat} (ha : a < n) : ExF K (G a) := exOk_f (List.all_eq_true.mp h a (List.mem_range.mpr ha))
theorem isx_own {K : PySem.W.Frag} {G : Nat → Addr} {tab : List XRow} (h : allOk K G tab.length = true) (a : Nat) (b : TyS) (r : Bool) (e : tX tab a b = some r) : IsE K (G a) := by
  unfold tX at e
  split at e
  · rename_i l el
    exact (allOk_f h (List.getElem?_eq_some_iff.mp el).1).is
  · cases e
end Pz

set_option Elab.async false
set_option linter.all false
set_option maxRecDepth 100000
set_option maxHeartbeats 4000000
namespace Kx
open PySem PySem.Spec L2 Pz PzR

def top (i : Nat) : Stmt := PySem.Challenge.pw_surestreams_k22_error_classes.main.body.getD i (.Pass ⟨0, 0, 0, 0⟩)
def xf_index : List Nat := [12]
def xf_line : List Nat := [16]
def xf_position : List Nat := [8]
def xf_stream : List Nat := [11, 13]
def xf_value : List Nat := [1, 2, 3, 4, 5, 6, 9, 10]
def xf_word : List Nat := [7, 14, 15]
def supT : List XRow := [([true, false, false, false, false, false, false, false, false, false, false, false, false, false, false, false, false], [("ValueError", true), ("RuntimeError", false), ("KeyError", false), ("LookupError", false), ("OverflowError", false)]), ([true, true, false, false, false, false, false, false, false, false, false, false, false, false, false, false, false], [("ValueError", true), ("RuntimeError", false), ("KeyError", false), ("LookupError", false), ("OverflowError", false)]), ([true, false, true, false, false, false, false, false, false, false, false, false, false, false, false, false, false], [("ValueError", true), ("RuntimeError", false), ("KeyError", false), ("LookupError", false), ("OverflowError", false)]), ([true, false, false, true, false, false, false, false, false, false, false, false, false, false, false, false, false], [("ValueError", true), ("RuntimeError", false), ("KeyError", false), ("LookupError", false), ("OverflowError", false)]), ([true, false, false, false, true, false, false, false, false, false, false, false, false, false, false, false, false], [("ValueError", true), ("RuntimeError", false), ("KeyError", false), ("LookupError", false), ("OverflowError", false)]), ([true, false, false, false, false, true, false, false, false, false, false, false, false, false, false, false, false], [("ValueError", true), ("RuntimeError", false), ("KeyError", false), ("LookupError", false), ("OverflowError", false)]), ([true, false, false, false, false, false, true, false, false, false, false, false, false, false, false, false, false], [("ValueError", true), ("RuntimeError", false), ("KeyError", false), ("LookupError", false), ("OverflowError", false)]), ([true, false, false, false, false, false, false, true, false, false, false, false, false, false, false, false, false], [("ValueError", true), ("RuntimeError", false), ("KeyError", false), ("LookupError", false), ("OverflowError", false)]), ([true, false, false, false, false, false, false, false, true, false, false, false, false, false, false, false, false], [("ValueError", true), ("RuntimeError", false), ("KeyError", false), ("LookupError", false), ("OverflowError", false)]), ([true, false, false, false, false, false, false, false, false, true, false, false, false, false, false, false, false], [("ValueError", true), ("RuntimeError", false), ("KeyError", false), ("LookupError", false), ("OverflowError", false)]), ([true, false, false, false, false, false, false, false, false, false, true, false, false, false, false, false, false], [("ValueError", true), ("RuntimeError", false), ("KeyError", false), ("LookupError", false), ("OverflowError", false)]), ([false, false, false, false, false, false, false, false, false, false, false, true, false, false, false, false, false], [("ValueError", false), ("RuntimeError", false), ("KeyError", true), ("LookupError", true), ("OverflowError", false)]), ([false, false, false, false, false, false, false, false, false, false, false, false, true, false, false, false, false], [("ValueError", false), ("RuntimeError", true), ("KeyError", false), ("LookupError", false), ("OverflowError", false)]), ([false, false, false, false, false, false, false, false, false, false, false, false, false, true, false, false, false], [("ValueError", false), ("RuntimeError", true), ("KeyError", false), ("LookupError", false), ("OverflowError", false)]), ([false, false, false, false, false, false, false, false, false, false, false, false, false, false, true, false, false], [("ValueError", false), ("RuntimeError", false), ("KeyError", true), ("LookupError", true), ("OverflowError", false)]), ([false, false, false, false, false, false, false, false, false, false, false, false, false, false, false, true, false], [("ValueError", false), ("RuntimeError", true), ("KeyError", false), ("LookupError", false), ("OverflowError", false)]), ([false, false, false, false, false, false, false, false, false, false, false, false, false, false, false, false, true], [("ValueError", false), ("RuntimeError", true), ("KeyError", false), ("LookupError", false), ("OverflowError", false)])]
def exmT : Nat → TyS → Option Bool
  | _, _ => none
abbrev s__law_pool : Stmt := top 19
abbrev N__law_pool : List Str := ["_law_script", "_law_k", "_law_cell", "_law_heavy", "_law_blend", "_law_seed"]
def r__law_pool_0 : SF := (sAsg (rC (.int 0)) (gNm 2))
def r__law_pool_1_a_0 : SF := (sAsg (rB oIx (rVar 0) (rVar 1)) (gNm 2))
def r__law_pool_1 : SF := (sIf (rTB (rB oLt (rVar 1) (rF bLen2 (lCons (rVar 0) lNil)))) r__law_pool_1_a_0 sNil)
def r__law_pool_2 : SF := (sAsg (rF bAbs (lCons (rVar 2) lNil)) (gNm 3))
def r__law_pool_3 : SF := (sAsg (rB oMod (rB oMul (rB oAdd (rB oMod (rVar 2) (rC (.int 2147483629))) (rB oMul (rC (.int 104729)) (rB oAdd (rVar 1) (rC (.int 1))))) (rB oAdd (rVar 1) (rC (.int 7)))) (rC (.int 2147483629))) (gNm 4))
def r__law_pool_4 : SF := (sAsg (rB oMod (rB oMul (rB oMod (rB oMul (rVar 4) (rVar 4)) (rC (.int 2147483629))) (rC (.int 48271))) (rC (.int 2147483647))) (gNm 5))
def r__law_pool_5 : SF := (sRet (rLst (lCons (rB oMul (rVar 3) (rF bInt (lCons (rB oGe (rVar 3) (rB oPow (rC (.int 10)) (rC (.int 18)))) lNil))) (lCons (rVar 5) lNil))))
def b__law_pool : SF := (sSeq r__law_pool_0 (sSeq r__law_pool_1 (sSeq r__law_pool_2 (sSeq r__law_pool_3 (sSeq r__law_pool_4 r__law_pool_5)))))
def F__law_pool : FF := mkF 6 b__law_pool
abbrev s__law_take : Stmt := top 20
abbrev N__law_take : List Str := ["_law_pool_here", "_law_wide", "_law_result"]
def r__law_take_0_a_0 : SF := (sAsg (rB oMod (rB oIx (rVar 0) (rC (.int 0))) (rVar 1)) (gNm 2))
def r__law_take_0_a_1 : SF := (sSetIx (rVar 0) (rC (.int 0)) (rB oDiv (rB oIx (rVar 0) (rC (.int 0))) (rVar 1)))
def r__law_take_0_a_2 : SF := (sRet (rVar 2))
def r__law_take_0 : SF := (sIf (rTB (rB oGt (rB oIx (rVar 0) (rC (.int 0))) (rC (.int 0)))) (sSeq r__law_take_0_a_0 (sSeq r__law_take_0_a_1 r__law_take_0_a_2)) sNil)
def r__law_take_1 : SF := (sSetIx (rVar 0) (rC (.int 1)) (rB oMod (rB oAdd (rB oMul (rB oIx (rVar 0) (rC (.int 1))) (rC (.int 48271))) (rC (.int 12345))) (rC (.int 2147483647))))
def r__law_take_2 : SF := (sRet (rB oMod (rB oDiv (rB oMod (rB oMul (rB oIx (rVar 0) (rC (.int 1))) (rB oIx (rVar 0) (rC (.int 1)))) (rC (.int 2147483629))) (rC (.int 64))) (rVar 1)))
def b__law_take : SF := (sSeq r__law_take_0 (sSeq r__law_take_1 r__law_take_2))
def F__law_take : FF := mkF 3 b__law_take
abbrev s__law_kinds : Stmt := top 21
abbrev N__law_kinds : List Str := ["_law_e", "_law_result"]
def r__law_kinds_0 : SF := (sAsg (rLst (lCons (rF (bIsX tB (tX supT)) (lCons (rVar 0) (lCons (rC (.obj 1)) lNil))) (lCons (rF (bIsX tB (tX supT)) (lCons (rVar 0) (lCons (rC (.obj 2)) lNil))) (lCons (rF (bIsX tB (tX supT)) (lCons (rVar 0) (lCons (rC (.obj 3)) lNil))) lNil)))) (gNm 1))
def r__law_kinds_1 : SF := (sAsg (rB oAdd (rVar 1) (rLst (lCons (rF (bIsX tB (tX supT)) (lCons (rVar 0) (lCons (rC (.obj 4)) lNil))) (lCons (rF (bIsX tB (tX supT)) (lCons (rVar 0) (lCons (rC (.obj 5)) lNil))) (lCons (rF (bIsX tB (tX supT)) (lCons (rVar 0) (lCons (rC (.obj 6)) lNil))) lNil))))) (gNm 1))
def r__law_kinds_2 : SF := (sAsg (rB oAdd (rVar 1) (rLst (lCons (rF (bIsX tB (tX supT)) (lCons (rVar 0) (lCons (rC (.obj 7)) lNil))) (lCons (rF (bIsX tB (tX supT)) (lCons (rVar 0) (lCons (rC (.obj 8)) lNil))) (lCons (rF (bIsX tB (tX supT)) (lCons (rVar 0) (lCons (rC (.obj 9)) lNil))) lNil))))) (gNm 1))
def r__law_kinds_3 : SF := (sAsg (rB oAdd (rVar 1) (rLst (lCons (rF (bIsX tB (tX supT)) (lCons (rVar 0) (lCons (rC (.obj 10)) lNil))) (lCons (rF (bIsX tB (tX supT)) (lCons (rVar 0) (lCons (rC (.obj 11)) lNil))) (lCons (rF (bIsX tB (tX supT)) (lCons (rVar 0) (lCons (rC (.obj 14)) lNil))) lNil))))) (gNm 1))
def r__law_kinds_4 : SF := (sAsg (rB oAdd (rVar 1) (rLst (lCons (rF (bIsX tB (tX supT)) (lCons (rVar 0) (lCons (rC (.obj 12)) lNil))) (lCons (rF (bIsX tB (tX supT)) (lCons (rVar 0) (lCons (rC (.obj 13)) lNil))) (lCons (rF (bIsX tB (tX supT)) (lCons (rVar 0) (lCons (rC (.obj 15)) lNil))) lNil))))) (gNm 1))
def r__law_kinds_5 : SF := (sRet (rB oAdd (rVar 1) (rLst (lCons (rF (bIsX tB (tX supT)) (lCons (rVar 0) (lCons (rC (.obj 16)) lNil))) lNil))))
def b__law_kinds : SF := (sSeq r__law_kinds_0 (sSeq r__law_kinds_1 (sSeq r__law_kinds_2 (sSeq r__law_kinds_3 (sSeq r__law_kinds_4 r__law_kinds_5)))))
def F__law_kinds : FF := mkF 2 b__law_kinds
abbrev s__law_bases : Stmt := top 22
abbrev N__law_bases : List Str := ["_law_e", "_law_result"]
def r__law_bases_0 : SF := (sAsg (rLst (lCons (rF (bIsX tB (tX supT)) (lCons (rVar 0) (lCons (rC (.obj 0)) lNil))) (lCons (rF (bIsX tB (tX supT)) (lCons (rVar 0) (lCons (rC (.ty "ValueError")) lNil))) (lCons (rF (bIsX tB (tX supT)) (lCons (rVar 0) (lCons (rC (.ty "RuntimeError")) lNil))) lNil)))) (gNm 1))
def r__law_bases_1 : SF := (sRet (rB oAdd (rVar 1) (rLst (lCons (rF (bIsX tB (tX supT)) (lCons (rVar 0) (lCons (rC (.ty "KeyError")) lNil))) (lCons (rF (bIsX tB (tX supT)) (lCons (rVar 0) (lCons (rC (.ty "LookupError")) lNil))) (lCons (rF (bIsX tB (tX supT)) (lCons (rVar 0) (lCons (rC (.ty "OverflowError")) lNil))) lNil))))))
def b__law_bases : SF := (sSeq r__law_bases_0 r__law_bases_1)
def F__law_bases : FF := mkF 2 b__law_bases
abbrev s__law_made : Stmt := top 23
abbrev N__law_made : List Str := ["_law_thing", "_law_some"]
def r__law_made_0 : SF := (sAsg (rLst (lCons (rMkX 1 "value" (lCons (rVar 0) lNil)) (lCons (rMkX 2 "value" (lCons (rVar 0) lNil)) (lCons (rMkX 3 "value" (lCons (rVar 0) lNil)) (lCons (rMkX 4 "value" (lCons (rVar 0) lNil)) lNil))))) (gNm 1))
def r__law_made_1 : SF := (sAsg (rB oAdd (rVar 1) (rLst (lCons (rMkX 5 "value" (lCons (rVar 0) lNil)) (lCons (rMkX 6 "value" (lCons (rVar 0) lNil)) (lCons (rMkX 7 "word" (lCons (rVar 0) lNil)) (lCons (rMkX 8 "position" (lCons (rVar 0) lNil)) lNil)))))) (gNm 1))
def r__law_made_2 : SF := (sAsg (rB oAdd (rVar 1) (rLst (lCons (rMkX 9 "value" (lCons (rVar 0) lNil)) (lCons (rMkX 10 "value" (lCons (rVar 0) lNil)) (lCons (rMkX 11 "stream" (lCons (rVar 0) lNil)) (lCons (rMkX 14 "word" (lCons (rVar 0) lNil)) lNil)))))) (gNm 1))
def r__law_made_3 : SF := (sRet (rB oAdd (rVar 1) (rLst (lCons (rMkX 12 "index" (lCons (rVar 0) lNil)) (lCons (rMkX 13 "stream" (lCons (rVar 0) lNil)) (lCons (rMkX 15 "word" (lCons (rVar 0) lNil)) (lCons (rMkX 16 "line" (lCons (rVar 0) lNil)) lNil)))))))
def b__law_made : SF := (sSeq r__law_made_0 (sSeq r__law_made_1 (sSeq r__law_made_2 r__law_made_3)))
def F__law_made : FF := mkF 2 b__law_made
abbrev s__law_fields : Stmt := top 24
abbrev N__law_fields : List Str := ["_law_thing", "_law_some", "_law_told"]
def r__law_fields_0 : SF := (sAsg (rLst (lCons (rXf xf_value "value" (rB oIx (rVar 1) (rC (.int 0)))) (lCons (rXf xf_value "value" (rB oIx (rVar 1) (rC (.int 1)))) (lCons (rXf xf_value "value" (rB oIx (rVar 1) (rC (.int 2)))) (lCons (rXf xf_value "value" (rB oIx (rVar 1) (rC (.int 3)))) (lCons (rXf xf_value "value" (rB oIx (rVar 1) (rC (.int 4)))) (lCons (rXf xf_value "value" (rB oIx (rVar 1) (rC (.int 5)))) lNil))))))) (gNm 2))
def r__law_fields_1 : SF := (sAsg (rB oAdd (rVar 2) (rLst (lCons (rXf xf_word "word" (rB oIx (rVar 1) (rC (.int 6)))) (lCons (rXf xf_position "position" (rB oIx (rVar 1) (rC (.int 7)))) (lCons (rXf xf_value "value" (rB oIx (rVar 1) (rC (.int 8)))) (lCons (rXf xf_value "value" (rB oIx (rVar 1) (rC (.int 9)))) (lCons (rXf xf_stream "stream" (rB oIx (rVar 1) (rC (.int 10)))) lNil))))))) (gNm 2))
def r__law_fields_2 : SF := (sAsg (rB oAdd (rVar 2) (rLst (lCons (rXf xf_word "word" (rB oIx (rVar 1) (rC (.int 11)))) (lCons (rXf xf_index "index" (rB oIx (rVar 1) (rC (.int 12)))) (lCons (rXf xf_stream "stream" (rB oIx (rVar 1) (rC (.int 13)))) (lCons (rXf xf_word "word" (rB oIx (rVar 1) (rC (.int 14)))) (lCons (rXf xf_line "line" (rB oIx (rVar 1) (rC (.int 15)))) lNil))))))) (gNm 2))
def r__law_fields_3 : SF := (sAsg (rB oAdd (rVar 2) (rLst (lCons (rXf xf_value "value" (rMkX 1 "value" (lCons (rVar 0) lNil))) (lCons (rXf xf_value "value" (rMkX 2 "value" (lCons (rVar 0) lNil))) lNil)))) (gNm 2))
def r__law_fields_4 : SF := (sAsg (rB oAdd (rVar 2) (rLst (lCons (rXf xf_value "value" (rMkX 3 "value" (lCons (rVar 0) lNil))) (lCons (rXf xf_value "value" (rMkX 4 "value" (lCons (rVar 0) lNil))) lNil)))) (gNm 2))
def r__law_fields_5 : SF := (sAsg (rB oAdd (rVar 2) (rLst (lCons (rXf xf_value "value" (rMkX 5 "value" (lCons (rVar 0) lNil))) (lCons (rXf xf_value "value" (rMkX 6 "value" (lCons (rVar 0) lNil))) lNil)))) (gNm 2))
def r__law_fields_6 : SF := (sAsg (rB oAdd (rVar 2) (rLst (lCons (rXf xf_word "word" (rMkX 7 "word" (lCons (rVar 0) lNil))) (lCons (rXf xf_position "position" (rMkX 8 "position" (lCons (rVar 0) lNil))) lNil)))) (gNm 2))
def r__law_fields_7 : SF := (sAsg (rB oAdd (rVar 2) (rLst (lCons (rXf xf_value "value" (rMkX 9 "value" (lCons (rVar 0) lNil))) (lCons (rXf xf_value "value" (rMkX 10 "value" (lCons (rVar 0) lNil))) lNil)))) (gNm 2))
def r__law_fields_8 : SF := (sAsg (rB oAdd (rVar 2) (rLst (lCons (rXf xf_stream "stream" (rMkX 11 "stream" (lCons (rVar 0) lNil))) (lCons (rXf xf_word "word" (rMkX 14 "word" (lCons (rVar 0) lNil))) lNil)))) (gNm 2))
def r__law_fields_9 : SF := (sAsg (rB oAdd (rVar 2) (rLst (lCons (rXf xf_index "index" (rMkX 12 "index" (lCons (rVar 0) lNil))) (lCons (rXf xf_stream "stream" (rMkX 13 "stream" (lCons (rVar 0) lNil))) lNil)))) (gNm 2))
def r__law_fields_10 : SF := (sRet (rB oAdd (rVar 2) (rLst (lCons (rXf xf_word "word" (rMkX 15 "word" (lCons (rVar 0) lNil))) (lCons (rXf xf_line "line" (rMkX 16 "line" (lCons (rVar 0) lNil))) lNil)))))
def b__law_fields : SF := (sSeq r__law_fields_0 (sSeq r__law_fields_1 (sSeq r__law_fields_2 (sSeq r__law_fields_3 (sSeq r__law_fields_4 (sSeq r__law_fields_5 (sSeq r__law_fields_6 (sSeq r__law_fields_7 (sSeq r__law_fields_8 (sSeq r__law_fields_9 r__law_fields_10))))))))))
def F__law_fields : FF := mkF 3 b__law_fields
abbrev s_law : Stmt := top 25
abbrev N_law : List Str := ["_law_script", "_law_k", "_law_pool_here", "_law_thing", "_law_some", "_law_number", "_law_one", "_law_due", "_law_at", "_law_own"]
def r_law_0_a_0 : SF := (sAsg (rCall F__law_pool 2 [] (lCons (rVar 0) (lCons (rVar 1) lNil))) (gNm 2))
def r_law_0_a_1 : SF := (sAsg (rB oIx (rLst (lCons (rC .non) (lCons (rC (.int 5)) (lCons (rU oNeg (rC (.int 1))) (lCons (rC (.str "a")) (lCons (rTup lNil) (lCons (rTup (lCons (rC (.str "a")) (lCons (rC (.int 1)) lNil))) (lCons (rC (.bl true)) (lCons (rC (.str "")) (lCons (rB oPow (rC (.int 10)) (rC (.int 30))) (lCons (rLst (lCons (rC (.str "a")) lNil)) lNil))))))))))) (rCall F__law_take 2 [] (lCons (rVar 2) (lCons (rC (.int 10)) lNil)))) (gNm 3))
def r_law_0_a_2 : SF := (sAsg (rCall F__law_made 1 [] (lCons (rVar 3) lNil)) (gNm 4))
def r_law_0_a_3_a_0_a_0 : SF := (sRet (rC (.bl false)))
def r_law_0_a_3_a_0 : SF := (sIf (rTB (rB oNe (rLc [8, 9] (iEnum2 (lCons (rCall F__law_kinds 1 [] (lCons (rVar 6) lNil)) lNil)) (gTp 2 (gsC (gNm 8) (gsC (gNm 9) gsN))) (rT (rVar 9)) (rVar 8)) (rLst (lCons (rVar 5) lNil)))) r_law_0_a_3_a_0_a_0 sNil)
def r_law_0_a_3_a_1 : SF := (sAsg (rLst (lCons (rB oLt (rVar 5) (rC (.int 10))) (lCons (rB oLt (rVar 5) (rC (.int 10))) (lCons (rB oIn2 (rVar 5) (rLst (lCons (rC (.int 12)) (lCons (rC (.int 13)) (lCons (rC (.int 14)) (lCons (rC (.int 15)) lNil)))))) (lCons (rB oIn2 (rVar 5) (rLst (lCons (rC (.int 10)) (lCons (rC (.int 11)) lNil)))) (lCons (rB oIn2 (rVar 5) (rLst (lCons (rC (.int 10)) (lCons (rC (.int 11)) lNil)))) (lCons (rC (.bl false)) lNil))))))) (gNm 7))
def r_law_0_a_3_a_2_a_0 : SF := (sRet (rC (.bl false)))
def r_law_0_a_3_a_2 : SF := (sIf (rTB (rB oNe (rCall F__law_bases 1 [] (lCons (rVar 6) lNil)) (rVar 7))) r_law_0_a_3_a_2_a_0 sNil)
def r_law_0_a_3 : SF := (sFor (iEnum2 (lCons (rVar 4) lNil)) (gTp 2 (gsC (gNm 5) (gsC (gNm 6) gsN))) (sSeq r_law_0_a_3_a_0 (sSeq r_law_0_a_3_a_1 r_law_0_a_3_a_2)))
def r_law_0_a_4_a_0 : SF := (sRet (rC (.bl false)))
def r_law_0_a_4 : SF := (sIf (rTB (rB oNe (rF bRepr2 (lCons (rCall F__law_fields 2 [] (lCons (rVar 3) (lCons (rVar 4) lNil))) lNil)) (rF bRepr2 (lCons (rB oMul (rLst (lCons (rVar 3) lNil)) (rC (.int 32))) lNil)))) r_law_0_a_4_a_0 sNil)
def r_law_0 : SF := (sFor (iRng1 (lCons (rF bMax2 (lCons (rC (.int 1)) (lCons (rF bMin2 (lCons (rF bLen2 (lCons (rVar 0) lNil)) (lCons (rC (.int 10)) lNil))) lNil))) lNil)) (gNm 1) (sSeq r_law_0_a_0 (sSeq r_law_0_a_1 (sSeq r_law_0_a_2 (sSeq r_law_0_a_3 r_law_0_a_4)))))
def r_law_1 : SF := (sRet (rC (.bl true)))
def b_law : SF := (sSeq r_law_0 r_law_1)
def F_law : FF := mkF 10 b_law

/-- what the top has written -/
structure Txt (K : PySem.W.Frag) (mg : Str → Option Value) (G : Nat → Addr) : Prop where
  z_KeyError : mg "KeyError" = none
  z_LookupError : mg "LookupError" = none
  z_OverflowError : mg "OverflowError" = none
  z_RuntimeError : mg "RuntimeError" = none
  z_ValueError : mg "ValueError" = none
  z_abs : mg "abs" = none
  z_enumerate : mg "enumerate" = none
  z_int : mg "int" = none
  z_isinstance : mg "isinstance" = none
  z_len : mg "len" = none
  z_max : mg "max" = none
  z_min : mg "min" = none
  z_range : mg "range" = none
  z_repr : mg "repr" = none
  xf_index : ∀ c ∈ xf_index, XfC K (G c) ∧ PySem.W.findIn K (.ref (G c)) "index" = some none
  xf_line : ∀ c ∈ xf_line, XfC K (G c) ∧ PySem.W.findIn K (.ref (G c)) "line" = some none
  mg_BrokenPromise : mg "BrokenPromise" = some (.ref (G 12))
  mg_DamagedJournal : mg "DamagedJournal" = some (.ref (G 16))
  mg_InvalidBox : mg "InvalidBox" = some (.ref (G 3))
  mg_InvalidColumns : mg "InvalidColumns" = some (.ref (G 1))
  mg_InvalidCommand : mg "InvalidCommand" = some (.ref (G 7))
  mg_InvalidEvent : mg "InvalidEvent" = some (.ref (G 5))
  mg_InvalidName : mg "InvalidName" = some (.ref (G 9))
  mg_InvalidNumber : mg "InvalidNumber" = some (.ref (G 10))
  mg_InvalidQuery : mg "InvalidQuery" = some (.ref (G 4))
  mg_InvalidRow : mg "InvalidRow" = some (.ref (G 2))
  mg_InvalidSyntax : mg "InvalidSyntax" = some (.ref (G 8))
  mg_InvalidText : mg "InvalidText" = some (.ref (G 6))
  mg_MixedUse : mg "MixedUse" = some (.ref (G 13))
  mg_NameTaken : mg "NameTaken" = some (.ref (G 15))
  mg_StreamError : mg "StreamError" = some (.ref (G 0))
  mg_UnknownName : mg "UnknownName" = some (.ref (G 14))
  mg_UnknownStream : mg "UnknownStream" = some (.ref (G 11))
  xf_position : ∀ c ∈ xf_position, XfC K (G c) ∧ PySem.W.findIn K (.ref (G c)) "position" = some none
  xf_stream : ∀ c ∈ xf_stream, XfC K (G c) ∧ PySem.W.findIn K (.ref (G c)) "stream" = some none
  xf_value : ∀ c ∈ xf_value, XfC K (G c) ∧ PySem.W.findIn K (.ref (G c)) "value" = some none
  xf_word : ∀ c ∈ xf_word, XfC K (G c) ∧ PySem.W.findIn K (.ref (G c)) "word" = some none
  isx1 : ∀ a b r, tX supT a b = some r → PySem.W.kitOne K (.ref (G a)) (b.v G) = some r
  isx2 : ∀ a b r, tX supT a b = some r → IsE K (G a)
theorem db_BrokenPromise : (("BrokenPromise" : Str) == ("__debug__" : Str)) = false := by decide +kernel
theorem cd_BrokenPromise : (("BrokenPromise" : Str) == ("__classdict__" : Str)) = false := by decide +kernel
theorem db_DamagedJournal : (("DamagedJournal" : Str) == ("__debug__" : Str)) = false := by decide +kernel
theorem cd_DamagedJournal : (("DamagedJournal" : Str) == ("__classdict__" : Str)) = false := by decide +kernel
theorem db_InvalidBox : (("InvalidBox" : Str) == ("__debug__" : Str)) = false := by decide +kernel
theorem cd_InvalidBox : (("InvalidBox" : Str) == ("__classdict__" : Str)) = false := by decide +kernel
theorem db_InvalidColumns : (("InvalidColumns" : Str) == ("__debug__" : Str)) = false := by decide +kernel
theorem cd_InvalidColumns : (("InvalidColumns" : Str) == ("__classdict__" : Str)) = false := by decide +kernel
theorem db_InvalidCommand : (("InvalidCommand" : Str) == ("__debug__" : Str)) = false := by decide +kernel
theorem cd_InvalidCommand : (("InvalidCommand" : Str) == ("__classdict__" : Str)) = false := by decide +kernel
theorem db_InvalidEvent : (("InvalidEvent" : Str) == ("__debug__" : Str)) = false := by decide +kernel
theorem cd_InvalidEvent : (("InvalidEvent" : Str) == ("__classdict__" : Str)) = false := by decide +kernel
theorem db_InvalidName : (("InvalidName" : Str) == ("__debug__" : Str)) = false := by decide +kernel
theorem cd_InvalidName : (("InvalidName" : Str) == ("__classdict__" : Str)) = false := by decide +kernel
theorem db_InvalidNumber : (("InvalidNumber" : Str) == ("__debug__" : Str)) = false := by decide +kernel
theorem cd_InvalidNumber : (("InvalidNumber" : Str) == ("__classdict__" : Str)) = false := by decide +kernel
theorem db_InvalidQuery : (("InvalidQuery" : Str) == ("__debug__" : Str)) = false := by decide +kernel
theorem cd_InvalidQuery : (("InvalidQuery" : Str) == ("__classdict__" : Str)) = false := by decide +kernel
theorem db_InvalidRow : (("InvalidRow" : Str) == ("__debug__" : Str)) = false := by decide +kernel
theorem cd_InvalidRow : (("InvalidRow" : Str) == ("__classdict__" : Str)) = false := by decide +kernel
theorem db_InvalidSyntax : (("InvalidSyntax" : Str) == ("__debug__" : Str)) = false := by decide +kernel
theorem cd_InvalidSyntax : (("InvalidSyntax" : Str) == ("__classdict__" : Str)) = false := by decide +kernel
theorem db_InvalidText : (("InvalidText" : Str) == ("__debug__" : Str)) = false := by decide +kernel
theorem cd_InvalidText : (("InvalidText" : Str) == ("__classdict__" : Str)) = false := by decide +kernel
theorem db_KeyError : (("KeyError" : Str) == ("__debug__" : Str)) = false := by decide +kernel
theorem cd_KeyError : (("KeyError" : Str) == ("__classdict__" : Str)) = false := by decide +kernel
theorem db_LookupError : (("LookupError" : Str) == ("__debug__" : Str)) = false := by decide +kernel
theorem cd_LookupError : (("LookupError" : Str) == ("__classdict__" : Str)) = false := by decide +kernel
theorem db_MixedUse : (("MixedUse" : Str) == ("__debug__" : Str)) = false := by decide +kernel
theorem cd_MixedUse : (("MixedUse" : Str) == ("__classdict__" : Str)) = false := by decide +kernel
theorem db_NameTaken : (("NameTaken" : Str) == ("__debug__" : Str)) = false := by decide +kernel
theorem cd_NameTaken : (("NameTaken" : Str) == ("__classdict__" : Str)) = false := by decide +kernel
theorem db_OverflowError : (("OverflowError" : Str) == ("__debug__" : Str)) = false := by decide +kernel
theorem cd_OverflowError : (("OverflowError" : Str) == ("__classdict__" : Str)) = false := by decide +kernel
theorem db_RuntimeError : (("RuntimeError" : Str) == ("__debug__" : Str)) = false := by decide +kernel
theorem cd_RuntimeError : (("RuntimeError" : Str) == ("__classdict__" : Str)) = false := by decide +kernel
theorem db_StreamError : (("StreamError" : Str) == ("__debug__" : Str)) = false := by decide +kernel
theorem cd_StreamError : (("StreamError" : Str) == ("__classdict__" : Str)) = false := by decide +kernel
theorem db_UnknownName : (("UnknownName" : Str) == ("__debug__" : Str)) = false := by decide +kernel
theorem cd_UnknownName : (("UnknownName" : Str) == ("__classdict__" : Str)) = false := by decide +kernel
theorem db_UnknownStream : (("UnknownStream" : Str) == ("__debug__" : Str)) = false := by decide +kernel
theorem cd_UnknownStream : (("UnknownStream" : Str) == ("__classdict__" : Str)) = false := by decide +kernel
theorem db_ValueError : (("ValueError" : Str) == ("__debug__" : Str)) = false := by decide +kernel
theorem cd_ValueError : (("ValueError" : Str) == ("__classdict__" : Str)) = false := by decide +kernel
theorem db__law_at : (("_law_at" : Str) == ("__debug__" : Str)) = false := by decide +kernel
theorem cd__law_at : (("_law_at" : Str) == ("__classdict__" : Str)) = false := by decide +kernel
theorem db__law_bases : (("_law_bases" : Str) == ("__debug__" : Str)) = false := by decide +kernel
theorem cd__law_bases : (("_law_bases" : Str) == ("__classdict__" : Str)) = false := by decide +kernel
theorem db__law_blend : (("_law_blend" : Str) == ("__debug__" : Str)) = false := by decide +kernel
theorem cd__law_blend : (("_law_blend" : Str) == ("__classdict__" : Str)) = false := by decide +kernel
theorem db__law_cell : (("_law_cell" : Str) == ("__debug__" : Str)) = false := by decide +kernel
theorem cd__law_cell : (("_law_cell" : Str) == ("__classdict__" : Str)) = false := by decide +kernel
theorem db__law_due : (("_law_due" : Str) == ("__debug__" : Str)) = false := by decide +kernel
theorem cd__law_due : (("_law_due" : Str) == ("__classdict__" : Str)) = false := by decide +kernel
theorem db__law_e : (("_law_e" : Str) == ("__debug__" : Str)) = false := by decide +kernel
theorem cd__law_e : (("_law_e" : Str) == ("__classdict__" : Str)) = false := by decide +kernel
theorem db__law_fields : (("_law_fields" : Str) == ("__debug__" : Str)) = false := by decide +kernel
theorem cd__law_fields : (("_law_fields" : Str) == ("__classdict__" : Str)) = false := by decide +kernel
theorem db__law_heavy : (("_law_heavy" : Str) == ("__debug__" : Str)) = false := by decide +kernel
theorem cd__law_heavy : (("_law_heavy" : Str) == ("__classdict__" : Str)) = false := by decide +kernel
theorem db__law_k : (("_law_k" : Str) == ("__debug__" : Str)) = false := by decide +kernel
theorem cd__law_k : (("_law_k" : Str) == ("__classdict__" : Str)) = false := by decide +kernel
theorem db__law_kinds : (("_law_kinds" : Str) == ("__debug__" : Str)) = false := by decide +kernel
theorem cd__law_kinds : (("_law_kinds" : Str) == ("__classdict__" : Str)) = false := by decide +kernel
theorem db__law_made : (("_law_made" : Str) == ("__debug__" : Str)) = false := by decide +kernel
theorem cd__law_made : (("_law_made" : Str) == ("__classdict__" : Str)) = false := by decide +kernel
theorem db__law_number : (("_law_number" : Str) == ("__debug__" : Str)) = false := by decide +kernel
theorem cd__law_number : (("_law_number" : Str) == ("__classdict__" : Str)) = false := by decide +kernel
theorem db__law_one : (("_law_one" : Str) == ("__debug__" : Str)) = false := by decide +kernel
theorem cd__law_one : (("_law_one" : Str) == ("__classdict__" : Str)) = false := by decide +kernel
theorem db__law_own : (("_law_own" : Str) == ("__debug__" : Str)) = false := by decide +kernel
theorem cd__law_own : (("_law_own" : Str) == ("__classdict__" : Str)) = false := by decide +kernel
theorem db__law_pool : (("_law_pool" : Str) == ("__debug__" : Str)) = false := by decide +kernel
theorem cd__law_pool : (("_law_pool" : Str) == ("__classdict__" : Str)) = false := by decide +kernel
theorem db__law_pool_here : (("_law_pool_here" : Str) == ("__debug__" : Str)) = false := by decide +kernel
theorem cd__law_pool_here : (("_law_pool_here" : Str) == ("__classdict__" : Str)) = false := by decide +kernel
theorem db__law_result : (("_law_result" : Str) == ("__debug__" : Str)) = false := by decide +kernel
theorem cd__law_result : (("_law_result" : Str) == ("__classdict__" : Str)) = false := by decide +kernel
theorem db__law_script : (("_law_script" : Str) == ("__debug__" : Str)) = false := by decide +kernel
theorem cd__law_script : (("_law_script" : Str) == ("__classdict__" : Str)) = false := by decide +kernel
theorem db__law_seed : (("_law_seed" : Str) == ("__debug__" : Str)) = false := by decide +kernel
theorem cd__law_seed : (("_law_seed" : Str) == ("__classdict__" : Str)) = false := by decide +kernel
theorem db__law_some : (("_law_some" : Str) == ("__debug__" : Str)) = false := by decide +kernel
theorem cd__law_some : (("_law_some" : Str) == ("__classdict__" : Str)) = false := by decide +kernel
theorem db__law_take : (("_law_take" : Str) == ("__debug__" : Str)) = false := by decide +kernel
theorem cd__law_take : (("_law_take" : Str) == ("__classdict__" : Str)) = false := by decide +kernel
theorem db__law_thing : (("_law_thing" : Str) == ("__debug__" : Str)) = false := by decide +kernel
theorem cd__law_thing : (("_law_thing" : Str) == ("__classdict__" : Str)) = false := by decide +kernel
theorem db__law_told : (("_law_told" : Str) == ("__debug__" : Str)) = false := by decide +kernel
theorem cd__law_told : (("_law_told" : Str) == ("__classdict__" : Str)) = false := by decide +kernel
theorem db__law_wide : (("_law_wide" : Str) == ("__debug__" : Str)) = false := by decide +kernel
theorem cd__law_wide : (("_law_wide" : Str) == ("__classdict__" : Str)) = false := by decide +kernel
theorem db_abs : (("abs" : Str) == ("__debug__" : Str)) = false := by decide +kernel
theorem cd_abs : (("abs" : Str) == ("__classdict__" : Str)) = false := by decide +kernel
theorem db_int : (("int" : Str) == ("__debug__" : Str)) = false := by decide +kernel
theorem cd_int : (("int" : Str) == ("__classdict__" : Str)) = false := by decide +kernel
theorem db_isinstance : (("isinstance" : Str) == ("__debug__" : Str)) = false := by decide +kernel
theorem cd_isinstance : (("isinstance" : Str) == ("__classdict__" : Str)) = false := by decide +kernel
theorem db_len : (("len" : Str) == ("__debug__" : Str)) = false := by decide +kernel
theorem cd_len : (("len" : Str) == ("__classdict__" : Str)) = false := by decide +kernel
theorem db_max : (("max" : Str) == ("__debug__" : Str)) = false := by decide +kernel
theorem cd_max : (("max" : Str) == ("__classdict__" : Str)) = false := by decide +kernel
theorem db_min : (("min" : Str) == ("__debug__" : Str)) = false := by decide +kernel
theorem cd_min : (("min" : Str) == ("__classdict__" : Str)) = false := by decide +kernel
theorem db_repr : (("repr" : Str) == ("__debug__" : Str)) = false := by decide +kernel
theorem cd_repr : (("repr" : Str) == ("__classdict__" : Str)) = false := by decide +kernel
theorem nn_KeyError : ("KeyError" : Str) ≠ "__name__" := by decide +kernel
theorem nn_LookupError : ("LookupError" : Str) ≠ "__name__" := by decide +kernel
theorem nn_OverflowError : ("OverflowError" : Str) ≠ "__name__" := by decide +kernel
theorem nn_RuntimeError : ("RuntimeError" : Str) ≠ "__name__" := by decide +kernel
theorem nn_ValueError : ("ValueError" : Str) ≠ "__name__" := by decide +kernel
theorem nn_abs : ("abs" : Str) ≠ "__name__" := by decide +kernel
theorem nn_int : ("int" : Str) ≠ "__name__" := by decide +kernel
theorem nn_isinstance : ("isinstance" : Str) ≠ "__name__" := by decide +kernel
theorem nn_len : ("len" : Str) ≠ "__name__" := by decide +kernel
theorem nn_max : ("max" : Str) ≠ "__name__" := by decide +kernel
theorem nn_min : ("min" : Str) ≠ "__name__" := by decide +kernel
theorem nn_repr : ("repr" : Str) ≠ "__name__" := by decide +kernel
theorem bt_KeyError : bootBuiltins ("KeyError" : Str) = some (.type "KeyError") := by decide +kernel
theorem bt_LookupError : bootBuiltins ("LookupError" : Str) = some (.type "LookupError") := by decide +kernel
theorem bt_OverflowError : bootBuiltins ("OverflowError" : Str) = some (.type "OverflowError") := by decide +kernel
theorem bt_RuntimeError : bootBuiltins ("RuntimeError" : Str) = some (.type "RuntimeError") := by decide +kernel
theorem bt_ValueError : bootBuiltins ("ValueError" : Str) = some (.type "ValueError") := by decide +kernel
theorem bf_abs : bootBuiltins ("abs" : Str) = some (.builtin "abs") := by decide +kernel
theorem bf_int : bootBuiltins ("int" : Str) = some (.type "int") := by decide +kernel
theorem bf_isinstance : bootBuiltins ("isinstance" : Str) = some (.builtin "isinstance") := by decide +kernel
theorem bf_len : bootBuiltins ("len" : Str) = some (.builtin "len") := by decide +kernel
theorem bf_max : bootBuiltins ("max" : Str) = some (.builtin "max") := by decide +kernel
theorem bf_min : bootBuiltins ("min" : Str) = some (.builtin "min") := by decide +kernel
theorem bf_repr : bootBuiltins ("repr" : Str) = some (.builtin "repr") := by decide +kernel
theorem nm__law_pool_0 : N__law_pool[0]? = some ("_law_script" : Str) := rfl
theorem nm__law_pool_1 : N__law_pool[1]? = some ("_law_k" : Str) := rfl
theorem nm__law_pool_2 : N__law_pool[2]? = some ("_law_cell" : Str) := rfl
theorem nm__law_pool_3 : N__law_pool[3]? = some ("_law_heavy" : Str) := rfl
theorem nm__law_pool_4 : N__law_pool[4]? = some ("_law_blend" : Str) := rfl
theorem nm__law_pool_5 : N__law_pool[5]? = some ("_law_seed" : Str) := rfl
theorem vs__law_pool_0 : Vis (defScope s__law_pool) "_law_script" := by first | exact Or.inl (by decide +kernel) | exact Or.inr (Or.inl (by decide +kernel)) | exact Or.inr (Or.inr (by decide +kernel))
theorem vs__law_pool_1 : Vis (defScope s__law_pool) "_law_k" := by first | exact Or.inl (by decide +kernel) | exact Or.inr (Or.inl (by decide +kernel)) | exact Or.inr (Or.inr (by decide +kernel))
theorem vs__law_pool_2 : Vis (defScope s__law_pool) "_law_cell" := by first | exact Or.inl (by decide +kernel) | exact Or.inr (Or.inl (by decide +kernel)) | exact Or.inr (Or.inr (by decide +kernel))
theorem vs__law_pool_3 : Vis (defScope s__law_pool) "_law_heavy" := by first | exact Or.inl (by decide +kernel) | exact Or.inr (Or.inl (by decide +kernel)) | exact Or.inr (Or.inr (by decide +kernel))
theorem vs__law_pool_4 : Vis (defScope s__law_pool) "_law_blend" := by first | exact Or.inl (by decide +kernel) | exact Or.inr (Or.inl (by decide +kernel)) | exact Or.inr (Or.inr (by decide +kernel))
theorem vs__law_pool_5 : Vis (defScope s__law_pool) "_law_seed" := by first | exact Or.inl (by decide +kernel) | exact Or.inr (Or.inl (by decide +kernel)) | exact Or.inr (Or.inr (by decide +kernel))
theorem lc__law_pool_2 : Loc (defScope s__law_pool) "_law_cell" := by first | exact Or.inl (by decide +kernel) | exact Or.inr (by decide +kernel)
theorem lc__law_pool_3 : Loc (defScope s__law_pool) "_law_heavy" := by first | exact Or.inl (by decide +kernel) | exact Or.inr (by decide +kernel)
theorem lc__law_pool_4 : Loc (defScope s__law_pool) "_law_blend" := by first | exact Or.inl (by decide +kernel) | exact Or.inr (by decide +kernel)
theorem lc__law_pool_5 : Loc (defScope s__law_pool) "_law_seed" := by first | exact Or.inl (by decide +kernel) | exact Or.inr (by decide +kernel)
theorem gl__law_pool_abs : (defScope s__law_pool).names.lookup ("abs" : Str) = some NameKind.globalImplicit := by decide +kernel
theorem gl__law_pool_int : (defScope s__law_pool).names.lookup ("int" : Str) = some NameKind.globalImplicit := by decide +kernel
theorem gl__law_pool_len : (defScope s__law_pool).names.lookup ("len" : Str) = some NameKind.globalImplicit := by decide +kernel
theorem nm__law_take_0 : N__law_take[0]? = some ("_law_pool_here" : Str) := rfl
theorem nm__law_take_1 : N__law_take[1]? = some ("_law_wide" : Str) := rfl
theorem nm__law_take_2 : N__law_take[2]? = some ("_law_result" : Str) := rfl
theorem vs__law_take_0 : Vis (defScope s__law_take) "_law_pool_here" := by first | exact Or.inl (by decide +kernel) | exact Or.inr (Or.inl (by decide +kernel)) | exact Or.inr (Or.inr (by decide +kernel))
theorem vs__law_take_1 : Vis (defScope s__law_take) "_law_wide" := by first | exact Or.inl (by decide +kernel) | exact Or.inr (Or.inl (by decide +kernel)) | exact Or.inr (Or.inr (by decide +kernel))
theorem vs__law_take_2 : Vis (defScope s__law_take) "_law_result" := by first | exact Or.inl (by decide +kernel) | exact Or.inr (Or.inl (by decide +kernel)) | exact Or.inr (Or.inr (by decide +kernel))
theorem lc__law_take_2 : Loc (defScope s__law_take) "_law_result" := by first | exact Or.inl (by decide +kernel) | exact Or.inr (by decide +kernel)
theorem nm__law_kinds_0 : N__law_kinds[0]? = some ("_law_e" : Str) := rfl
theorem nm__law_kinds_1 : N__law_kinds[1]? = some ("_law_result" : Str) := rfl
theorem vs__law_kinds_0 : Vis (defScope s__law_kinds) "_law_e" := by first | exact Or.inl (by decide +kernel) | exact Or.inr (Or.inl (by decide +kernel)) | exact Or.inr (Or.inr (by decide +kernel))
theorem vs__law_kinds_1 : Vis (defScope s__law_kinds) "_law_result" := by first | exact Or.inl (by decide +kernel) | exact Or.inr (Or.inl (by decide +kernel)) | exact Or.inr (Or.inr (by decide +kernel))
theorem lc__law_kinds_1 : Loc (defScope s__law_kinds) "_law_result" := by first | exact Or.inl (by decide +kernel) | exact Or.inr (by decide +kernel)
theorem gl__law_kinds_BrokenPromise : (defScope s__law_kinds).names.lookup ("BrokenPromise" : Str) = some NameKind.globalImplicit := by decide +kernel
theorem gl__law_kinds_DamagedJournal : (defScope s__law_kinds).names.lookup ("DamagedJournal" : Str) = some NameKind.globalImplicit := by decide +kernel
theorem gl__law_kinds_InvalidBox : (defScope s__law_kinds).names.lookup ("InvalidBox" : Str) = some NameKind.globalImplicit := by decide +kernel
theorem gl__law_kinds_InvalidColumns : (defScope s__law_kinds).names.lookup ("InvalidColumns" : Str) = some NameKind.globalImplicit := by decide +kernel
theorem gl__law_kinds_InvalidCommand : (defScope s__law_kinds).names.lookup ("InvalidCommand" : Str) = some NameKind.globalImplicit := by decide +kernel
theorem gl__law_kinds_InvalidEvent : (defScope s__law_kinds).names.lookup ("InvalidEvent" : Str) = some NameKind.globalImplicit := by decide +kernel
theorem gl__law_kinds_InvalidName : (defScope s__law_kinds).names.lookup ("InvalidName" : Str) = some NameKind.globalImplicit := by decide +kernel
theorem gl__law_kinds_InvalidNumber : (defScope s__law_kinds).names.lookup ("InvalidNumber" : Str) = some NameKind.globalImplicit := by decide +kernel
theorem gl__law_kinds_InvalidQuery : (defScope s__law_kinds).names.lookup ("InvalidQuery" : Str) = some NameKind.globalImplicit := by decide +kernel
theorem gl__law_kinds_InvalidRow : (defScope s__law_kinds).names.lookup ("InvalidRow" : Str) = some NameKind.globalImplicit := by decide +kernel
theorem gl__law_kinds_InvalidSyntax : (defScope s__law_kinds).names.lookup ("InvalidSyntax" : Str) = some NameKind.globalImplicit := by decide +kernel
theorem gl__law_kinds_InvalidText : (defScope s__law_kinds).names.lookup ("InvalidText" : Str) = some NameKind.globalImplicit := by decide +kernel
theorem gl__law_kinds_MixedUse : (defScope s__law_kinds).names.lookup ("MixedUse" : Str) = some NameKind.globalImplicit := by decide +kernel
theorem gl__law_kinds_NameTaken : (defScope s__law_kinds).names.lookup ("NameTaken" : Str) = some NameKind.globalImplicit := by decide +kernel
theorem gl__law_kinds_UnknownName : (defScope s__law_kinds).names.lookup ("UnknownName" : Str) = some NameKind.globalImplicit := by decide +kernel
theorem gl__law_kinds_UnknownStream : (defScope s__law_kinds).names.lookup ("UnknownStream" : Str) = some NameKind.globalImplicit := by decide +kernel
theorem gl__law_kinds_isinstance : (defScope s__law_kinds).names.lookup ("isinstance" : Str) = some NameKind.globalImplicit := by decide +kernel
theorem nm__law_bases_0 : N__law_bases[0]? = some ("_law_e" : Str) := rfl
theorem nm__law_bases_1 : N__law_bases[1]? = some ("_law_result" : Str) := rfl
theorem vs__law_bases_0 : Vis (defScope s__law_bases) "_law_e" := by first | exact Or.inl (by decide +kernel) | exact Or.inr (Or.inl (by decide +kernel)) | exact Or.inr (Or.inr (by decide +kernel))
theorem vs__law_bases_1 : Vis (defScope s__law_bases) "_law_result" := by first | exact Or.inl (by decide +kernel) | exact Or.inr (Or.inl (by decide +kernel)) | exact Or.inr (Or.inr (by decide +kernel))
theorem lc__law_bases_1 : Loc (defScope s__law_bases) "_law_result" := by first | exact Or.inl (by decide +kernel) | exact Or.inr (by decide +kernel)
theorem gl__law_bases_KeyError : (defScope s__law_bases).names.lookup ("KeyError" : Str) = some NameKind.globalImplicit := by decide +kernel
theorem gl__law_bases_LookupError : (defScope s__law_bases).names.lookup ("LookupError" : Str) = some NameKind.globalImplicit := by decide +kernel
theorem gl__law_bases_OverflowError : (defScope s__law_bases).names.lookup ("OverflowError" : Str) = some NameKind.globalImplicit := by decide +kernel
theorem gl__law_bases_RuntimeError : (defScope s__law_bases).names.lookup ("RuntimeError" : Str) = some NameKind.globalImplicit := by decide +kernel
theorem gl__law_bases_StreamError : (defScope s__law_bases).names.lookup ("StreamError" : Str) = some NameKind.globalImplicit := by decide +kernel
theorem gl__law_bases_ValueError : (defScope s__law_bases).names.lookup ("ValueError" : Str) = some NameKind.globalImplicit := by decide +kernel
theorem gl__law_bases_isinstance : (defScope s__law_bases).names.lookup ("isinstance" : Str) = some NameKind.globalImplicit := by decide +kernel
theorem nm__law_made_0 : N__law_made[0]? = some ("_law_thing" : Str) := rfl
theorem nm__law_made_1 : N__law_made[1]? = some ("_law_some" : Str) := rfl
theorem vs__law_made_0 : Vis (defScope s__law_made) "_law_thing" := by first | exact Or.inl (by decide +kernel) | exact Or.inr (Or.inl (by decide +kernel)) | exact Or.inr (Or.inr (by decide +kernel))
theorem vs__law_made_1 : Vis (defScope s__law_made) "_law_some" := by first | exact Or.inl (by decide +kernel) | exact Or.inr (Or.inl (by decide +kernel)) | exact Or.inr (Or.inr (by decide +kernel))
theorem lc__law_made_1 : Loc (defScope s__law_made) "_law_some" := by first | exact Or.inl (by decide +kernel) | exact Or.inr (by decide +kernel)
theorem gl__law_made_BrokenPromise : (defScope s__law_made).names.lookup ("BrokenPromise" : Str) = some NameKind.globalImplicit := by decide +kernel
theorem gl__law_made_DamagedJournal : (defScope s__law_made).names.lookup ("DamagedJournal" : Str) = some NameKind.globalImplicit := by decide +kernel
theorem gl__law_made_InvalidBox : (defScope s__law_made).names.lookup ("InvalidBox" : Str) = some NameKind.globalImplicit := by decide +kernel
theorem gl__law_made_InvalidColumns : (defScope s__law_made).names.lookup ("InvalidColumns" : Str) = some NameKind.globalImplicit := by decide +kernel
theorem gl__law_made_InvalidCommand : (defScope s__law_made).names.lookup ("InvalidCommand" : Str) = some NameKind.globalImplicit := by decide +kernel
theorem gl__law_made_InvalidEvent : (defScope s__law_made).names.lookup ("InvalidEvent" : Str) = some NameKind.globalImplicit := by decide +kernel
theorem gl__law_made_InvalidName : (defScope s__law_made).names.lookup ("InvalidName" : Str) = some NameKind.globalImplicit := by decide +kernel
theorem gl__law_made_InvalidNumber : (defScope s__law_made).names.lookup ("InvalidNumber" : Str) = some NameKind.globalImplicit := by decide +kernel
theorem gl__law_made_InvalidQuery : (defScope s__law_made).names.lookup ("InvalidQuery" : Str) = some NameKind.globalImplicit := by decide +kernel
theorem gl__law_made_InvalidRow : (defScope s__law_made).names.lookup ("InvalidRow" : Str) = some NameKind.globalImplicit := by decide +kernel
theorem gl__law_made_InvalidSyntax : (defScope s__law_made).names.lookup ("InvalidSyntax" : Str) = some NameKind.globalImplicit := by decide +kernel
theorem gl__law_made_InvalidText : (defScope s__law_made).names.lookup ("InvalidText" : Str) = some NameKind.globalImplicit := by decide +kernel
theorem gl__law_made_MixedUse : (defScope s__law_made).names.lookup ("MixedUse" : Str) = some NameKind.globalImplicit := by decide +kernel
theorem gl__law_made_NameTaken : (defScope s__law_made).names.lookup ("NameTaken" : Str) = some NameKind.globalImplicit := by decide +kernel
theorem gl__law_made_UnknownName : (defScope s__law_made).names.lookup ("UnknownName" : Str) = some NameKind.globalImplicit := by decide +kernel
theorem gl__law_made_UnknownStream : (defScope s__law_made).names.lookup ("UnknownStream" : Str) = some NameKind.globalImplicit := by decide +kernel
theorem nm__law_fields_0 : N__law_fields[0]? = some ("_law_thing" : Str) := rfl
theorem nm__law_fields_1 : N__law_fields[1]? = some ("_law_some" : Str) := rfl
theorem nm__law_fields_2 : N__law_fields[2]? = some ("_law_told" : Str) := rfl
theorem vs__law_fields_0 : Vis (defScope s__law_fields) "_law_thing" := by first | exact Or.inl (by decide +kernel) | exact Or.inr (Or.inl (by decide +kernel)) | exact Or.inr (Or.inr (by decide +kernel))
theorem vs__law_fields_1 : Vis (defScope s__law_fields) "_law_some" := by first | exact Or.inl (by decide +kernel) | exact Or.inr (Or.inl (by decide +kernel)) | exact Or.inr (Or.inr (by decide +kernel))
theorem vs__law_fields_2 : Vis (defScope s__law_fields) "_law_told" := by first | exact Or.inl (by decide +kernel) | exact Or.inr (Or.inl (by decide +kernel)) | exact Or.inr (Or.inr (by decide +kernel))
theorem lc__law_fields_2 : Loc (defScope s__law_fields) "_law_told" := by first | exact Or.inl (by decide +kernel) | exact Or.inr (by decide +kernel)
theorem gl__law_fields_BrokenPromise : (defScope s__law_fields).names.lookup ("BrokenPromise" : Str) = some NameKind.globalImplicit := by decide +kernel
theorem gl__law_fields_DamagedJournal : (defScope s__law_fields).names.lookup ("DamagedJournal" : Str) = some NameKind.globalImplicit := by decide +kernel
theorem gl__law_fields_InvalidBox : (defScope s__law_fields).names.lookup ("InvalidBox" : Str) = some NameKind.globalImplicit := by decide +kernel
theorem gl__law_fields_InvalidColumns : (defScope s__law_fields).names.lookup ("InvalidColumns" : Str) = some NameKind.globalImplicit := by decide +kernel
theorem gl__law_fields_InvalidCommand : (defScope s__law_fields).names.lookup ("InvalidCommand" : Str) = some NameKind.globalImplicit := by decide +kernel
theorem gl__law_fields_InvalidEvent : (defScope s__law_fields).names.lookup ("InvalidEvent" : Str) = some NameKind.globalImplicit := by decide +kernel
theorem gl__law_fields_InvalidName : (defScope s__law_fields).names.lookup ("InvalidName" : Str) = some NameKind.globalImplicit := by decide +kernel
theorem gl__law_fields_InvalidNumber : (defScope s__law_fields).names.lookup ("InvalidNumber" : Str) = some NameKind.globalImplicit := by decide +kernel
theorem gl__law_fields_InvalidQuery : (defScope s__law_fields).names.lookup ("InvalidQuery" : Str) = some NameKind.globalImplicit := by decide +kernel
theorem gl__law_fields_InvalidRow : (defScope s__law_fields).names.lookup ("InvalidRow" : Str) = some NameKind.globalImplicit := by decide +kernel
theorem gl__law_fields_InvalidSyntax : (defScope s__law_fields).names.lookup ("InvalidSyntax" : Str) = some NameKind.globalImplicit := by decide +kernel
theorem gl__law_fields_InvalidText : (defScope s__law_fields).names.lookup ("InvalidText" : Str) = some NameKind.globalImplicit := by decide +kernel
theorem gl__law_fields_MixedUse : (defScope s__law_fields).names.lookup ("MixedUse" : Str) = some NameKind.globalImplicit := by decide +kernel
theorem gl__law_fields_NameTaken : (defScope s__law_fields).names.lookup ("NameTaken" : Str) = some NameKind.globalImplicit := by decide +kernel
theorem gl__law_fields_UnknownName : (defScope s__law_fields).names.lookup ("UnknownName" : Str) = some NameKind.globalImplicit := by decide +kernel
theorem gl__law_fields_UnknownStream : (defScope s__law_fields).names.lookup ("UnknownStream" : Str) = some NameKind.globalImplicit := by decide +kernel
theorem nm_law_0 : N_law[0]? = some ("_law_script" : Str) := rfl
theorem nm_law_1 : N_law[1]? = some ("_law_k" : Str) := rfl
theorem nm_law_2 : N_law[2]? = some ("_law_pool_here" : Str) := rfl
theorem nm_law_3 : N_law[3]? = some ("_law_thing" : Str) := rfl
theorem nm_law_4 : N_law[4]? = some ("_law_some" : Str) := rfl
theorem nm_law_5 : N_law[5]? = some ("_law_number" : Str) := rfl
theorem nm_law_6 : N_law[6]? = some ("_law_one" : Str) := rfl
theorem nm_law_7 : N_law[7]? = some ("_law_due" : Str) := rfl
theorem vs_law_0 : Vis (defScope s_law) "_law_script" := by first | exact Or.inl (by decide +kernel) | exact Or.inr (Or.inl (by decide +kernel)) | exact Or.inr (Or.inr (by decide +kernel))
theorem vs_law_1 : Vis (defScope s_law) "_law_k" := by first | exact Or.inl (by decide +kernel) | exact Or.inr (Or.inl (by decide +kernel)) | exact Or.inr (Or.inr (by decide +kernel))
theorem vs_law_2 : Vis (defScope s_law) "_law_pool_here" := by first | exact Or.inl (by decide +kernel) | exact Or.inr (Or.inl (by decide +kernel)) | exact Or.inr (Or.inr (by decide +kernel))
theorem vs_law_3 : Vis (defScope s_law) "_law_thing" := by first | exact Or.inl (by decide +kernel) | exact Or.inr (Or.inl (by decide +kernel)) | exact Or.inr (Or.inr (by decide +kernel))
theorem vs_law_4 : Vis (defScope s_law) "_law_some" := by first | exact Or.inl (by decide +kernel) | exact Or.inr (Or.inl (by decide +kernel)) | exact Or.inr (Or.inr (by decide +kernel))
theorem vs_law_5 : Vis (defScope s_law) "_law_number" := by first | exact Or.inl (by decide +kernel) | exact Or.inr (Or.inl (by decide +kernel)) | exact Or.inr (Or.inr (by decide +kernel))
theorem vs_law_6 : Vis (defScope s_law) "_law_one" := by first | exact Or.inl (by decide +kernel) | exact Or.inr (Or.inl (by decide +kernel)) | exact Or.inr (Or.inr (by decide +kernel))
theorem vs_law_7 : Vis (defScope s_law) "_law_due" := by first | exact Or.inl (by decide +kernel) | exact Or.inr (Or.inl (by decide +kernel)) | exact Or.inr (Or.inr (by decide +kernel))
theorem lc_law_1 : Loc (defScope s_law) "_law_k" := by first | exact Or.inl (by decide +kernel) | exact Or.inr (by decide +kernel)
theorem lc_law_2 : Loc (defScope s_law) "_law_pool_here" := by first | exact Or.inl (by decide +kernel) | exact Or.inr (by decide +kernel)
theorem lc_law_3 : Loc (defScope s_law) "_law_thing" := by first | exact Or.inl (by decide +kernel) | exact Or.inr (by decide +kernel)
theorem lc_law_4 : Loc (defScope s_law) "_law_some" := by first | exact Or.inl (by decide +kernel) | exact Or.inr (by decide +kernel)
theorem lc_law_5 : Loc (defScope s_law) "_law_number" := by first | exact Or.inl (by decide +kernel) | exact Or.inr (by decide +kernel)
theorem lc_law_6 : Loc (defScope s_law) "_law_one" := by first | exact Or.inl (by decide +kernel) | exact Or.inr (by decide +kernel)
theorem lc_law_7 : Loc (defScope s_law) "_law_due" := by first | exact Or.inl (by decide +kernel) | exact Or.inr (by decide +kernel)
theorem gl_law__law_bases : (defScope s_law).names.lookup ("_law_bases" : Str) = some NameKind.globalImplicit := by decide +kernel
theorem gl_law__law_fields : (defScope s_law).names.lookup ("_law_fields" : Str) = some NameKind.globalImplicit := by decide +kernel
theorem gl_law__law_kinds : (defScope s_law).names.lookup ("_law_kinds" : Str) = some NameKind.globalImplicit := by decide +kernel
theorem gl_law__law_made : (defScope s_law).names.lookup ("_law_made" : Str) = some NameKind.globalImplicit := by decide +kernel
theorem gl_law__law_pool : (defScope s_law).names.lookup ("_law_pool" : Str) = some NameKind.globalImplicit := by decide +kernel
theorem gl_law__law_take : (defScope s_law).names.lookup ("_law_take" : Str) = some NameKind.globalImplicit := by decide +kernel
theorem gl_law_len : (defScope s_law).names.lookup ("len" : Str) = some NameKind.globalImplicit := by decide +kernel
theorem gl_law_max : (defScope s_law).names.lookup ("max" : Str) = some NameKind.globalImplicit := by decide +kernel
theorem gl_law_min : (defScope s_law).names.lookup ("min" : Str) = some NameKind.globalImplicit := by decide +kernel
theorem gl_law_repr : (defScope s_law).names.lookup ("repr" : Str) = some NameKind.globalImplicit := by decide +kernel
section
variable {P : Program} {w : World} {K : PySem.W.Frag} {mg : Str → Option Value} {base : Heap} {G : Nat → Addr}
theorem ok__law_pool (T : Txt K mg G) {f : Addr} {fd : FuncData} (D : Fun K "_law_pool" "_law_pool" s__law_pool f fd) : FnG P w K mg base G 1 f fd ["_law_script", "_law_k"] F__law_pool :=
  fng_of (N := N__law_pool) D ⟨rfl, rfl, rfl, by decide +kernel, rfl, by decide +kernel, by decide +kernel⟩ rfl fun cd A outer s H E hr ok => by
    have h_0 : SS (cxOf (L2.CX P w) P w K mg base N__law_pool "_law_pool" (defScope s__law_pool) f cd A outer s H E) G (WE E) ((defBody s__law_pool).getD 0 (.Pass ⟨0, 0, 0, 0⟩)) r__law_pool_0 := (ss_asg se_int (sg_name ok.toXOs 2 nm__law_pool_2 lc__law_pool_2 (.inl rfl)))
    have h_1_a_0 : SS (cxOf (L2.CX P w) P w K mg base N__law_pool "_law_pool" (defScope s__law_pool) f cd A outer s H E) G (WE E) ((subA ((defBody s__law_pool).getD 1 (.Pass ⟨0, 0, 0, 0⟩))).getD 0 (.Pass ⟨0, 0, 0, 0⟩)) r__law_pool_1_a_0 := (ss_asg (se_ix (se_var 0 nm__law_pool_0 vs__law_pool_0 db__law_script cd__law_script) (se_var 1 nm__law_pool_1 vs__law_pool_1 db__law_k cd__law_k)) (sg_name ok.toXOs 2 nm__law_pool_2 lc__law_pool_2 (.inl rfl)))
    have h_1 : SS (cxOf (L2.CX P w) P w K mg base N__law_pool "_law_pool" (defScope s__law_pool) f cd A outer s H E) G (WE E) ((defBody s__law_pool).getD 1 (.Pass ⟨0, 0, 0, 0⟩)) r__law_pool_1 := (ss_if (st_cmp os_lt (se_var 1 nm__law_pool_1 vs__law_pool_1 db__law_k cd__law_k) (se_callB fn_len2 T.z_len (sa_consP (se_var 0 nm__law_pool_0 vs__law_pool_0 db__law_script cd__law_script) sa_nil) gl__law_pool_len bf_len nn_len db_len)) (ss_one h_1_a_0) ss_nil)
    have h_2 : SS (cxOf (L2.CX P w) P w K mg base N__law_pool "_law_pool" (defScope s__law_pool) f cd A outer s H E) G (WE E) ((defBody s__law_pool).getD 2 (.Pass ⟨0, 0, 0, 0⟩)) r__law_pool_2 := (ss_asg (se_callB fn_abs T.z_abs (sa_consP (se_var 2 nm__law_pool_2 vs__law_pool_2 db__law_cell cd__law_cell) sa_nil) gl__law_pool_abs bf_abs nn_abs db_abs) (sg_name ok.toXOs 3 nm__law_pool_3 lc__law_pool_3 (.inl rfl)))
    have h_3 : SS (cxOf (L2.CX P w) P w K mg base N__law_pool "_law_pool" (defScope s__law_pool) f cd A outer s H E) G (WE E) ((defBody s__law_pool).getD 3 (.Pass ⟨0, 0, 0, 0⟩)) r__law_pool_3 := (ss_asg (se_bin os_mod (se_bin os_mul (se_bin os_add (se_bin os_mod (se_var 2 nm__law_pool_2 vs__law_pool_2 db__law_cell cd__law_cell) se_int) (se_bin os_mul se_int (se_bin os_add (se_var 1 nm__law_pool_1 vs__law_pool_1 db__law_k cd__law_k) se_int))) (se_bin os_add (se_var 1 nm__law_pool_1 vs__law_pool_1 db__law_k cd__law_k) se_int)) se_int) (sg_name ok.toXOs 4 nm__law_pool_4 lc__law_pool_4 (.inl rfl)))
    have h_4 : SS (cxOf (L2.CX P w) P w K mg base N__law_pool "_law_pool" (defScope s__law_pool) f cd A outer s H E) G (WE E) ((defBody s__law_pool).getD 4 (.Pass ⟨0, 0, 0, 0⟩)) r__law_pool_4 := (ss_asg (se_bin os_mod (se_bin os_mul (se_bin os_mod (se_bin os_mul (se_var 4 nm__law_pool_4 vs__law_pool_4 db__law_blend cd__law_blend) (se_var 4 nm__law_pool_4 vs__law_pool_4 db__law_blend cd__law_blend)) se_int) se_int) se_int) (sg_name ok.toXOs 5 nm__law_pool_5 lc__law_pool_5 (.inl rfl)))
    have h_5 : SS (cxOf (L2.CX P w) P w K mg base N__law_pool "_law_pool" (defScope s__law_pool) f cd A outer s H E) G (WE E) ((defBody s__law_pool).getD 5 (.Pass ⟨0, 0, 0, 0⟩)) r__law_pool_5 := (ss_ret (se_lst (sa_consP (se_bin os_mul (se_var 3 nm__law_pool_3 vs__law_pool_3 db__law_heavy cd__law_heavy) (se_callT fn_int T.z_int (sa_consP (se_cmp os_ge (se_var 3 nm__law_pool_3 vs__law_pool_3 db__law_heavy cd__law_heavy) (se_bin os_pow se_int se_int)) sa_nil) gl__law_pool_int bf_int nn_int db_int)) (sa_consP (se_var 5 nm__law_pool_5 vs__law_pool_5 db__law_seed cd__law_seed) sa_nil))))
    exact (ss_cons h_0 (ss_cons h_1 (ss_cons h_2 (ss_cons h_3 (ss_cons h_4 (ss_one h_5))))))
theorem ok__law_take (T : Txt K mg G) {f : Addr} {fd : FuncData} (D : Fun K "_law_take" "_law_take" s__law_take f fd) : FnG P w K mg base G 1 f fd ["_law_pool_here", "_law_wide"] F__law_take :=
  fng_of (N := N__law_take) D ⟨rfl, rfl, rfl, by decide +kernel, rfl, by decide +kernel, by decide +kernel⟩ rfl fun cd A outer s H E hr ok => by
    have h_0_a_0 : SS (cxOf (L2.CX P w) P w K mg base N__law_take "_law_take" (defScope s__law_take) f cd A outer s H E) G (WE E) ((subA ((defBody s__law_take).getD 0 (.Pass ⟨0, 0, 0, 0⟩))).getD 0 (.Pass ⟨0, 0, 0, 0⟩)) r__law_take_0_a_0 := (ss_asg (se_bin os_mod (se_ix (se_var 0 nm__law_take_0 vs__law_take_0 db__law_pool_here cd__law_pool_here) se_int) (se_var 1 nm__law_take_1 vs__law_take_1 db__law_wide cd__law_wide)) (sg_name ok.toXOs 2 nm__law_take_2 lc__law_take_2 (.inl rfl)))
    have h_0_a_1 : SS (cxOf (L2.CX P w) P w K mg base N__law_take "_law_take" (defScope s__law_take) f cd A outer s H E) G (WE E) ((subA ((defBody s__law_take).getD 0 (.Pass ⟨0, 0, 0, 0⟩))).getD 1 (.Pass ⟨0, 0, 0, 0⟩)) r__law_take_0_a_1 := (ss_setIx (se_var 0 nm__law_take_0 vs__law_take_0 db__law_pool_here cd__law_pool_here) se_int (se_bin os_div (se_ix (se_var 0 nm__law_take_0 vs__law_take_0 db__law_pool_here cd__law_pool_here) se_int) (se_var 1 nm__law_take_1 vs__law_take_1 db__law_wide cd__law_wide)))
    have h_0_a_2 : SS (cxOf (L2.CX P w) P w K mg base N__law_take "_law_take" (defScope s__law_take) f cd A outer s H E) G (WE E) ((subA ((defBody s__law_take).getD 0 (.Pass ⟨0, 0, 0, 0⟩))).getD 2 (.Pass ⟨0, 0, 0, 0⟩)) r__law_take_0_a_2 := (ss_ret (se_var 2 nm__law_take_2 vs__law_take_2 db__law_result cd__law_result))
    have h_0 : SS (cxOf (L2.CX P w) P w K mg base N__law_take "_law_take" (defScope s__law_take) f cd A outer s H E) G (WE E) ((defBody s__law_take).getD 0 (.Pass ⟨0, 0, 0, 0⟩)) r__law_take_0 := (ss_if (st_cmp os_gt (se_ix (se_var 0 nm__law_take_0 vs__law_take_0 db__law_pool_here cd__law_pool_here) se_int) se_int) (ss_cons h_0_a_0 (ss_cons h_0_a_1 (ss_one h_0_a_2))) ss_nil)
    have h_1 : SS (cxOf (L2.CX P w) P w K mg base N__law_take "_law_take" (defScope s__law_take) f cd A outer s H E) G (WE E) ((defBody s__law_take).getD 1 (.Pass ⟨0, 0, 0, 0⟩)) r__law_take_1 := (ss_setIx (se_var 0 nm__law_take_0 vs__law_take_0 db__law_pool_here cd__law_pool_here) se_int (se_bin os_mod (se_bin os_add (se_bin os_mul (se_ix (se_var 0 nm__law_take_0 vs__law_take_0 db__law_pool_here cd__law_pool_here) se_int) se_int) se_int) se_int))
    have h_2 : SS (cxOf (L2.CX P w) P w K mg base N__law_take "_law_take" (defScope s__law_take) f cd A outer s H E) G (WE E) ((defBody s__law_take).getD 2 (.Pass ⟨0, 0, 0, 0⟩)) r__law_take_2 := (ss_ret (se_bin os_mod (se_bin os_div (se_bin os_mod (se_bin os_mul (se_ix (se_var 0 nm__law_take_0 vs__law_take_0 db__law_pool_here cd__law_pool_here) se_int) (se_ix (se_var 0 nm__law_take_0 vs__law_take_0 db__law_pool_here cd__law_pool_here) se_int)) se_int) se_int) (se_var 1 nm__law_take_1 vs__law_take_1 db__law_wide cd__law_wide)))
    exact (ss_cons h_0 (ss_cons h_1 (ss_one h_2)))
theorem ok__law_kinds (T : Txt K mg G) {f : Addr} {fd : FuncData} (D : Fun K "_law_kinds" "_law_kinds" s__law_kinds f fd) : FnG P w K mg base G 1 f fd ["_law_e"] F__law_kinds :=
  fng_of (N := N__law_kinds) D ⟨rfl, rfl, rfl, by decide +kernel, rfl, by decide +kernel, by decide +kernel⟩ rfl fun cd A outer s H E hr ok => by
    have h_0 : SS (cxOf (L2.CX P w) P w K mg base N__law_kinds "_law_kinds" (defScope s__law_kinds) f cd A outer s H E) G (WE E) ((defBody s__law_kinds).getD 0 (.Pass ⟨0, 0, 0, 0⟩)) r__law_kinds_0 := (ss_asg (se_lst (sa_consP (se_callB (fn_isx ist_b ⟨T.isx1, T.isx2⟩) T.z_isinstance (sa_consP (se_var 0 nm__law_kinds_0 vs__law_kinds_0 db__law_e cd__law_e) (sa_consP (se_glob (gv_cls T.mg_InvalidColumns) gl__law_kinds_InvalidColumns db_InvalidColumns) sa_nil)) gl__law_kinds_isinstance bf_isinstance nn_isinstance db_isinstance) (sa_consP (se_callB (fn_isx ist_b ⟨T.isx1, T.isx2⟩) T.z_isinstance (sa_consP (se_var 0 nm__law_kinds_0 vs__law_kinds_0 db__law_e cd__law_e) (sa_consP (se_glob (gv_cls T.mg_InvalidRow) gl__law_kinds_InvalidRow db_InvalidRow) sa_nil)) gl__law_kinds_isinstance bf_isinstance nn_isinstance db_isinstance) (sa_consP (se_callB (fn_isx ist_b ⟨T.isx1, T.isx2⟩) T.z_isinstance (sa_consP (se_var 0 nm__law_kinds_0 vs__law_kinds_0 db__law_e cd__law_e) (sa_consP (se_glob (gv_cls T.mg_InvalidBox) gl__law_kinds_InvalidBox db_InvalidBox) sa_nil)) gl__law_kinds_isinstance bf_isinstance nn_isinstance db_isinstance) sa_nil)))) (sg_name ok.toXOs 1 nm__law_kinds_1 lc__law_kinds_1 (.inl rfl)))
    have h_1 : SS (cxOf (L2.CX P w) P w K mg base N__law_kinds "_law_kinds" (defScope s__law_kinds) f cd A outer s H E) G (WE E) ((defBody s__law_kinds).getD 1 (.Pass ⟨0, 0, 0, 0⟩)) r__law_kinds_1 := (ss_asg (se_bin os_add (se_var 1 nm__law_kinds_1 vs__law_kinds_1 db__law_result cd__law_result) (se_lst (sa_consP (se_callB (fn_isx ist_b ⟨T.isx1, T.isx2⟩) T.z_isinstance (sa_consP (se_var 0 nm__law_kinds_0 vs__law_kinds_0 db__law_e cd__law_e) (sa_consP (se_glob (gv_cls T.mg_InvalidQuery) gl__law_kinds_InvalidQuery db_InvalidQuery) sa_nil)) gl__law_kinds_isinstance bf_isinstance nn_isinstance db_isinstance) (sa_consP (se_callB (fn_isx ist_b ⟨T.isx1, T.isx2⟩) T.z_isinstance (sa_consP (se_var 0 nm__law_kinds_0 vs__law_kinds_0 db__law_e cd__law_e) (sa_consP (se_glob (gv_cls T.mg_InvalidEvent) gl__law_kinds_InvalidEvent db_InvalidEvent) sa_nil)) gl__law_kinds_isinstance bf_isinstance nn_isinstance db_isinstance) (sa_consP (se_callB (fn_isx ist_b ⟨T.isx1, T.isx2⟩) T.z_isinstance (sa_consP (se_var 0 nm__law_kinds_0 vs__law_kinds_0 db__law_e cd__law_e) (sa_consP (se_glob (gv_cls T.mg_InvalidText) gl__law_kinds_InvalidText db_InvalidText) sa_nil)) gl__law_kinds_isinstance bf_isinstance nn_isinstance db_isinstance) sa_nil))))) (sg_name ok.toXOs 1 nm__law_kinds_1 lc__law_kinds_1 (.inl rfl)))
    have h_2 : SS (cxOf (L2.CX P w) P w K mg base N__law_kinds "_law_kinds" (defScope s__law_kinds) f cd A outer s H E) G (WE E) ((defBody s__law_kinds).getD 2 (.Pass ⟨0, 0, 0, 0⟩)) r__law_kinds_2 := (ss_asg (se_bin os_add (se_var 1 nm__law_kinds_1 vs__law_kinds_1 db__law_result cd__law_result) (se_lst (sa_consP (se_callB (fn_isx ist_b ⟨T.isx1, T.isx2⟩) T.z_isinstance (sa_consP (se_var 0 nm__law_kinds_0 vs__law_kinds_0 db__law_e cd__law_e) (sa_consP (se_glob (gv_cls T.mg_InvalidCommand) gl__law_kinds_InvalidCommand db_InvalidCommand) sa_nil)) gl__law_kinds_isinstance bf_isinstance nn_isinstance db_isinstance) (sa_consP (se_callB (fn_isx ist_b ⟨T.isx1, T.isx2⟩) T.z_isinstance (sa_consP (se_var 0 nm__law_kinds_0 vs__law_kinds_0 db__law_e cd__law_e) (sa_consP (se_glob (gv_cls T.mg_InvalidSyntax) gl__law_kinds_InvalidSyntax db_InvalidSyntax) sa_nil)) gl__law_kinds_isinstance bf_isinstance nn_isinstance db_isinstance) (sa_consP (se_callB (fn_isx ist_b ⟨T.isx1, T.isx2⟩) T.z_isinstance (sa_consP (se_var 0 nm__law_kinds_0 vs__law_kinds_0 db__law_e cd__law_e) (sa_consP (se_glob (gv_cls T.mg_InvalidName) gl__law_kinds_InvalidName db_InvalidName) sa_nil)) gl__law_kinds_isinstance bf_isinstance nn_isinstance db_isinstance) sa_nil))))) (sg_name ok.toXOs 1 nm__law_kinds_1 lc__law_kinds_1 (.inl rfl)))
    have h_3 : SS (cxOf (L2.CX P w) P w K mg base N__law_kinds "_law_kinds" (defScope s__law_kinds) f cd A outer s H E) G (WE E) ((defBody s__law_kinds).getD 3 (.Pass ⟨0, 0, 0, 0⟩)) r__law_kinds_3 := (ss_asg (se_bin os_add (se_var 1 nm__law_kinds_1 vs__law_kinds_1 db__law_result cd__law_result) (se_lst (sa_consP (se_callB (fn_isx ist_b ⟨T.isx1, T.isx2⟩) T.z_isinstance (sa_consP (se_var 0 nm__law_kinds_0 vs__law_kinds_0 db__law_e cd__law_e) (sa_consP (se_glob (gv_cls T.mg_InvalidNumber) gl__law_kinds_InvalidNumber db_InvalidNumber) sa_nil)) gl__law_kinds_isinstance bf_isinstance nn_isinstance db_isinstance) (sa_consP (se_callB (fn_isx ist_b ⟨T.isx1, T.isx2⟩) T.z_isinstance (sa_consP (se_var 0 nm__law_kinds_0 vs__law_kinds_0 db__law_e cd__law_e) (sa_consP (se_glob (gv_cls T.mg_UnknownStream) gl__law_kinds_UnknownStream db_UnknownStream) sa_nil)) gl__law_kinds_isinstance bf_isinstance nn_isinstance db_isinstance) (sa_consP (se_callB (fn_isx ist_b ⟨T.isx1, T.isx2⟩) T.z_isinstance (sa_consP (se_var 0 nm__law_kinds_0 vs__law_kinds_0 db__law_e cd__law_e) (sa_consP (se_glob (gv_cls T.mg_UnknownName) gl__law_kinds_UnknownName db_UnknownName) sa_nil)) gl__law_kinds_isinstance bf_isinstance nn_isinstance db_isinstance) sa_nil))))) (sg_name ok.toXOs 1 nm__law_kinds_1 lc__law_kinds_1 (.inl rfl)))
    have h_4 : SS (cxOf (L2.CX P w) P w K mg base N__law_kinds "_law_kinds" (defScope s__law_kinds) f cd A outer s H E) G (WE E) ((defBody s__law_kinds).getD 4 (.Pass ⟨0, 0, 0, 0⟩)) r__law_kinds_4 := (ss_asg (se_bin os_add (se_var 1 nm__law_kinds_1 vs__law_kinds_1 db__law_result cd__law_result) (se_lst (sa_consP (se_callB (fn_isx ist_b ⟨T.isx1, T.isx2⟩) T.z_isinstance (sa_consP (se_var 0 nm__law_kinds_0 vs__law_kinds_0 db__law_e cd__law_e) (sa_consP (se_glob (gv_cls T.mg_BrokenPromise) gl__law_kinds_BrokenPromise db_BrokenPromise) sa_nil)) gl__law_kinds_isinstance bf_isinstance nn_isinstance db_isinstance) (sa_consP (se_callB (fn_isx ist_b ⟨T.isx1, T.isx2⟩) T.z_isinstance (sa_consP (se_var 0 nm__law_kinds_0 vs__law_kinds_0 db__law_e cd__law_e) (sa_consP (se_glob (gv_cls T.mg_MixedUse) gl__law_kinds_MixedUse db_MixedUse) sa_nil)) gl__law_kinds_isinstance bf_isinstance nn_isinstance db_isinstance) (sa_consP (se_callB (fn_isx ist_b ⟨T.isx1, T.isx2⟩) T.z_isinstance (sa_consP (se_var 0 nm__law_kinds_0 vs__law_kinds_0 db__law_e cd__law_e) (sa_consP (se_glob (gv_cls T.mg_NameTaken) gl__law_kinds_NameTaken db_NameTaken) sa_nil)) gl__law_kinds_isinstance bf_isinstance nn_isinstance db_isinstance) sa_nil))))) (sg_name ok.toXOs 1 nm__law_kinds_1 lc__law_kinds_1 (.inl rfl)))
    have h_5 : SS (cxOf (L2.CX P w) P w K mg base N__law_kinds "_law_kinds" (defScope s__law_kinds) f cd A outer s H E) G (WE E) ((defBody s__law_kinds).getD 5 (.Pass ⟨0, 0, 0, 0⟩)) r__law_kinds_5 := (ss_ret (se_bin os_add (se_var 1 nm__law_kinds_1 vs__law_kinds_1 db__law_result cd__law_result) (se_lst (sa_consP (se_callB (fn_isx ist_b ⟨T.isx1, T.isx2⟩) T.z_isinstance (sa_consP (se_var 0 nm__law_kinds_0 vs__law_kinds_0 db__law_e cd__law_e) (sa_consP (se_glob (gv_cls T.mg_DamagedJournal) gl__law_kinds_DamagedJournal db_DamagedJournal) sa_nil)) gl__law_kinds_isinstance bf_isinstance nn_isinstance db_isinstance) sa_nil))))
    exact (ss_cons h_0 (ss_cons h_1 (ss_cons h_2 (ss_cons h_3 (ss_cons h_4 (ss_one h_5))))))
theorem ok__law_bases (T : Txt K mg G) {f : Addr} {fd : FuncData} (D : Fun K "_law_bases" "_law_bases" s__law_bases f fd) : FnG P w K mg base G 1 f fd ["_law_e"] F__law_bases :=
  fng_of (N := N__law_bases) D ⟨rfl, rfl, rfl, by decide +kernel, rfl, by decide +kernel, by decide +kernel⟩ rfl fun cd A outer s H E hr ok => by
    have h_0 : SS (cxOf (L2.CX P w) P w K mg base N__law_bases "_law_bases" (defScope s__law_bases) f cd A outer s H E) G (WE E) ((defBody s__law_bases).getD 0 (.Pass ⟨0, 0, 0, 0⟩)) r__law_bases_0 := (ss_asg (se_lst (sa_consP (se_callB (fn_isx ist_b ⟨T.isx1, T.isx2⟩) T.z_isinstance (sa_consP (se_var 0 nm__law_bases_0 vs__law_bases_0 db__law_e cd__law_e) (sa_consP (se_glob (gv_cls T.mg_StreamError) gl__law_bases_StreamError db_StreamError) sa_nil)) gl__law_bases_isinstance bf_isinstance nn_isinstance db_isinstance) (sa_consP (se_callB (fn_isx ist_b ⟨T.isx1, T.isx2⟩) T.z_isinstance (sa_consP (se_var 0 nm__law_bases_0 vs__law_bases_0 db__law_e cd__law_e) (sa_consP (se_bltn T.z_ValueError bt_ValueError gl__law_bases_ValueError nn_ValueError db_ValueError) sa_nil)) gl__law_bases_isinstance bf_isinstance nn_isinstance db_isinstance) (sa_consP (se_callB (fn_isx ist_b ⟨T.isx1, T.isx2⟩) T.z_isinstance (sa_consP (se_var 0 nm__law_bases_0 vs__law_bases_0 db__law_e cd__law_e) (sa_consP (se_bltn T.z_RuntimeError bt_RuntimeError gl__law_bases_RuntimeError nn_RuntimeError db_RuntimeError) sa_nil)) gl__law_bases_isinstance bf_isinstance nn_isinstance db_isinstance) sa_nil)))) (sg_name ok.toXOs 1 nm__law_bases_1 lc__law_bases_1 (.inl rfl)))
    have h_1 : SS (cxOf (L2.CX P w) P w K mg base N__law_bases "_law_bases" (defScope s__law_bases) f cd A outer s H E) G (WE E) ((defBody s__law_bases).getD 1 (.Pass ⟨0, 0, 0, 0⟩)) r__law_bases_1 := (ss_ret (se_bin os_add (se_var 1 nm__law_bases_1 vs__law_bases_1 db__law_result cd__law_result) (se_lst (sa_consP (se_callB (fn_isx ist_b ⟨T.isx1, T.isx2⟩) T.z_isinstance (sa_consP (se_var 0 nm__law_bases_0 vs__law_bases_0 db__law_e cd__law_e) (sa_consP (se_bltn T.z_KeyError bt_KeyError gl__law_bases_KeyError nn_KeyError db_KeyError) sa_nil)) gl__law_bases_isinstance bf_isinstance nn_isinstance db_isinstance) (sa_consP (se_callB (fn_isx ist_b ⟨T.isx1, T.isx2⟩) T.z_isinstance (sa_consP (se_var 0 nm__law_bases_0 vs__law_bases_0 db__law_e cd__law_e) (sa_consP (se_bltn T.z_LookupError bt_LookupError gl__law_bases_LookupError nn_LookupError db_LookupError) sa_nil)) gl__law_bases_isinstance bf_isinstance nn_isinstance db_isinstance) (sa_consP (se_callB (fn_isx ist_b ⟨T.isx1, T.isx2⟩) T.z_isinstance (sa_consP (se_var 0 nm__law_bases_0 vs__law_bases_0 db__law_e cd__law_e) (sa_consP (se_bltn T.z_OverflowError bt_OverflowError gl__law_bases_OverflowError nn_OverflowError db_OverflowError) sa_nil)) gl__law_bases_isinstance bf_isinstance nn_isinstance db_isinstance) sa_nil))))))
    exact (ss_cons h_0 (ss_one h_1))
theorem ok__law_made (T : Txt K mg G) {f : Addr} {fd : FuncData} (D : Fun K "_law_made" "_law_made" s__law_made f fd) {f_InvalidColumns : Addr} {fd_InvalidColumns : FuncData} (M_InvalidColumns : XcD P w K mg base G 1 "InvalidColumns" "self" "value" f_InvalidColumns fd_InvalidColumns) {f_InvalidRow : Addr} {fd_InvalidRow : FuncData} (M_InvalidRow : XcD P w K mg base G 2 "InvalidRow" "self" "value" f_InvalidRow fd_InvalidRow) {f_InvalidBox : Addr} {fd_InvalidBox : FuncData} (M_InvalidBox : XcD P w K mg base G 3 "InvalidBox" "self" "value" f_InvalidBox fd_InvalidBox) {f_InvalidQuery : Addr} {fd_InvalidQuery : FuncData} (M_InvalidQuery : XcD P w K mg base G 4 "InvalidQuery" "self" "value" f_InvalidQuery fd_InvalidQuery) {f_InvalidEvent : Addr} {fd_InvalidEvent : FuncData} (M_InvalidEvent : XcD P w K mg base G 5 "InvalidEvent" "self" "value" f_InvalidEvent fd_InvalidEvent) {f_InvalidText : Addr} {fd_InvalidText : FuncData} (M_InvalidText : XcD P w K mg base G 6 "InvalidText" "self" "value" f_InvalidText fd_InvalidText) {f_InvalidCommand : Addr} {fd_InvalidCommand : FuncData} (M_InvalidCommand : XcD P w K mg base G 7 "InvalidCommand" "self" "word" f_InvalidCommand fd_InvalidCommand) {f_InvalidSyntax : Addr} {fd_InvalidSyntax : FuncData} (M_InvalidSyntax : XcD P w K mg base G 8 "InvalidSyntax" "self" "position" f_InvalidSyntax fd_InvalidSyntax) {f_InvalidName : Addr} {fd_InvalidName : FuncData} (M_InvalidName : XcD P w K mg base G 9 "InvalidName" "self" "value" f_InvalidName fd_InvalidName) {f_InvalidNumber : Addr} {fd_InvalidNumber : FuncData} (M_InvalidNumber : XcD P w K mg base G 10 "InvalidNumber" "self" "value" f_InvalidNumber fd_InvalidNumber) {f_UnknownStream : Addr} {fd_UnknownStream : FuncData} (M_UnknownStream : XcD P w K mg base G 11 "UnknownStream" "self" "stream" f_UnknownStream fd_UnknownStream) {f_UnknownName : Addr} {fd_UnknownName : FuncData} (M_UnknownName : XcD P w K mg base G 14 "UnknownName" "self" "word" f_UnknownName fd_UnknownName) {f_BrokenPromise : Addr} {fd_BrokenPromise : FuncData} (M_BrokenPromise : XcD P w K mg base G 12 "BrokenPromise" "self" "index" f_BrokenPromise fd_BrokenPromise) {f_MixedUse : Addr} {fd_MixedUse : FuncData} (M_MixedUse : XcD P w K mg base G 13 "MixedUse" "self" "stream" f_MixedUse fd_MixedUse) {f_NameTaken : Addr} {fd_NameTaken : FuncData} (M_NameTaken : XcD P w K mg base G 15 "NameTaken" "self" "word" f_NameTaken fd_NameTaken) {f_DamagedJournal : Addr} {fd_DamagedJournal : FuncData} (M_DamagedJournal : XcD P w K mg base G 16 "DamagedJournal" "self" "line" f_DamagedJournal fd_DamagedJournal) : FnG P w K mg base G 3 f fd ["_law_thing"] F__law_made :=
  fng_of (N := N__law_made) D ⟨rfl, rfl, rfl, by decide +kernel, rfl, by decide +kernel, by decide +kernel⟩ rfl fun cd A outer s H E hr ok => by
    have h_0 : SS (cxOf (L2.CX P w) P w K mg base N__law_made "_law_made" (defScope s__law_made) f cd A outer s H E) G (WE E) ((defBody s__law_made).getD 0 (.Pass ⟨0, 0, 0, 0⟩)) r__law_made_0 := (ss_asg (se_lst (sa_consP (se_mkx (k := 0) M_InvalidColumns (hr.mono (by decide)) (sa_consP (se_var 0 nm__law_made_0 vs__law_made_0 db__law_thing cd__law_thing) sa_nil) gl__law_made_InvalidColumns db_InvalidColumns) (sa_consP (se_mkx (k := 0) M_InvalidRow (hr.mono (by decide)) (sa_consP (se_var 0 nm__law_made_0 vs__law_made_0 db__law_thing cd__law_thing) sa_nil) gl__law_made_InvalidRow db_InvalidRow) (sa_consP (se_mkx (k := 0) M_InvalidBox (hr.mono (by decide)) (sa_consP (se_var 0 nm__law_made_0 vs__law_made_0 db__law_thing cd__law_thing) sa_nil) gl__law_made_InvalidBox db_InvalidBox) (sa_consP (se_mkx (k := 0) M_InvalidQuery (hr.mono (by decide)) (sa_consP (se_var 0 nm__law_made_0 vs__law_made_0 db__law_thing cd__law_thing) sa_nil) gl__law_made_InvalidQuery db_InvalidQuery) sa_nil))))) (sg_name ok.toXOs 1 nm__law_made_1 lc__law_made_1 (.inl rfl)))
    have h_1 : SS (cxOf (L2.CX P w) P w K mg base N__law_made "_law_made" (defScope s__law_made) f cd A outer s H E) G (WE E) ((defBody s__law_made).getD 1 (.Pass ⟨0, 0, 0, 0⟩)) r__law_made_1 := (ss_asg (se_bin os_add (se_var 1 nm__law_made_1 vs__law_made_1 db__law_some cd__law_some) (se_lst (sa_consP (se_mkx (k := 0) M_InvalidEvent (hr.mono (by decide)) (sa_consP (se_var 0 nm__law_made_0 vs__law_made_0 db__law_thing cd__law_thing) sa_nil) gl__law_made_InvalidEvent db_InvalidEvent) (sa_consP (se_mkx (k := 0) M_InvalidText (hr.mono (by decide)) (sa_consP (se_var 0 nm__law_made_0 vs__law_made_0 db__law_thing cd__law_thing) sa_nil) gl__law_made_InvalidText db_InvalidText) (sa_consP (se_mkx (k := 0) M_InvalidCommand (hr.mono (by decide)) (sa_consP (se_var 0 nm__law_made_0 vs__law_made_0 db__law_thing cd__law_thing) sa_nil) gl__law_made_InvalidCommand db_InvalidCommand) (sa_consP (se_mkx (k := 0) M_InvalidSyntax (hr.mono (by decide)) (sa_consP (se_var 0 nm__law_made_0 vs__law_made_0 db__law_thing cd__law_thing) sa_nil) gl__law_made_InvalidSyntax db_InvalidSyntax) sa_nil)))))) (sg_name ok.toXOs 1 nm__law_made_1 lc__law_made_1 (.inl rfl)))
    have h_2 : SS (cxOf (L2.CX P w) P w K mg base N__law_made "_law_made" (defScope s__law_made) f cd A outer s H E) G (WE E) ((defBody s__law_made).getD 2 (.Pass ⟨0, 0, 0, 0⟩)) r__law_made_2 := (ss_asg (se_bin os_add (se_var 1 nm__law_made_1 vs__law_made_1 db__law_some cd__law_some) (se_lst (sa_consP (se_mkx (k := 0) M_InvalidName (hr.mono (by decide)) (sa_consP (se_var 0 nm__law_made_0 vs__law_made_0 db__law_thing cd__law_thing) sa_nil) gl__law_made_InvalidName db_InvalidName) (sa_consP (se_mkx (k := 0) M_InvalidNumber (hr.mono (by decide)) (sa_consP (se_var 0 nm__law_made_0 vs__law_made_0 db__law_thing cd__law_thing) sa_nil) gl__law_made_InvalidNumber db_InvalidNumber) (sa_consP (se_mkx (k := 0) M_UnknownStream (hr.mono (by decide)) (sa_consP (se_var 0 nm__law_made_0 vs__law_made_0 db__law_thing cd__law_thing) sa_nil) gl__law_made_UnknownStream db_UnknownStream) (sa_consP (se_mkx (k := 0) M_UnknownName (hr.mono (by decide)) (sa_consP (se_var 0 nm__law_made_0 vs__law_made_0 db__law_thing cd__law_thing) sa_nil) gl__law_made_UnknownName db_UnknownName) sa_nil)))))) (sg_name ok.toXOs 1 nm__law_made_1 lc__law_made_1 (.inl rfl)))
    have h_3 : SS (cxOf (L2.CX P w) P w K mg base N__law_made "_law_made" (defScope s__law_made) f cd A outer s H E) G (WE E) ((defBody s__law_made).getD 3 (.Pass ⟨0, 0, 0, 0⟩)) r__law_made_3 := (ss_ret (se_bin os_add (se_var 1 nm__law_made_1 vs__law_made_1 db__law_some cd__law_some) (se_lst (sa_consP (se_mkx (k := 0) M_BrokenPromise (hr.mono (by decide)) (sa_consP (se_var 0 nm__law_made_0 vs__law_made_0 db__law_thing cd__law_thing) sa_nil) gl__law_made_BrokenPromise db_BrokenPromise) (sa_consP (se_mkx (k := 0) M_MixedUse (hr.mono (by decide)) (sa_consP (se_var 0 nm__law_made_0 vs__law_made_0 db__law_thing cd__law_thing) sa_nil) gl__law_made_MixedUse db_MixedUse) (sa_consP (se_mkx (k := 0) M_NameTaken (hr.mono (by decide)) (sa_consP (se_var 0 nm__law_made_0 vs__law_made_0 db__law_thing cd__law_thing) sa_nil) gl__law_made_NameTaken db_NameTaken) (sa_consP (se_mkx (k := 0) M_DamagedJournal (hr.mono (by decide)) (sa_consP (se_var 0 nm__law_made_0 vs__law_made_0 db__law_thing cd__law_thing) sa_nil) gl__law_made_DamagedJournal db_DamagedJournal) sa_nil)))))))
    exact (ss_cons h_0 (ss_cons h_1 (ss_cons h_2 (ss_one h_3))))
theorem ok__law_fields (T : Txt K mg G) {f : Addr} {fd : FuncData} (D : Fun K "_law_fields" "_law_fields" s__law_fields f fd) {f_InvalidColumns : Addr} {fd_InvalidColumns : FuncData} (M_InvalidColumns : XcD P w K mg base G 1 "InvalidColumns" "self" "value" f_InvalidColumns fd_InvalidColumns) {f_InvalidRow : Addr} {fd_InvalidRow : FuncData} (M_InvalidRow : XcD P w K mg base G 2 "InvalidRow" "self" "value" f_InvalidRow fd_InvalidRow) {f_InvalidBox : Addr} {fd_InvalidBox : FuncData} (M_InvalidBox : XcD P w K mg base G 3 "InvalidBox" "self" "value" f_InvalidBox fd_InvalidBox) {f_InvalidQuery : Addr} {fd_InvalidQuery : FuncData} (M_InvalidQuery : XcD P w K mg base G 4 "InvalidQuery" "self" "value" f_InvalidQuery fd_InvalidQuery) {f_InvalidEvent : Addr} {fd_InvalidEvent : FuncData} (M_InvalidEvent : XcD P w K mg base G 5 "InvalidEvent" "self" "value" f_InvalidEvent fd_InvalidEvent) {f_InvalidText : Addr} {fd_InvalidText : FuncData} (M_InvalidText : XcD P w K mg base G 6 "InvalidText" "self" "value" f_InvalidText fd_InvalidText) {f_InvalidCommand : Addr} {fd_InvalidCommand : FuncData} (M_InvalidCommand : XcD P w K mg base G 7 "InvalidCommand" "self" "word" f_InvalidCommand fd_InvalidCommand) {f_InvalidSyntax : Addr} {fd_InvalidSyntax : FuncData} (M_InvalidSyntax : XcD P w K mg base G 8 "InvalidSyntax" "self" "position" f_InvalidSyntax fd_InvalidSyntax) {f_InvalidName : Addr} {fd_InvalidName : FuncData} (M_InvalidName : XcD P w K mg base G 9 "InvalidName" "self" "value" f_InvalidName fd_InvalidName) {f_InvalidNumber : Addr} {fd_InvalidNumber : FuncData} (M_InvalidNumber : XcD P w K mg base G 10 "InvalidNumber" "self" "value" f_InvalidNumber fd_InvalidNumber) {f_UnknownStream : Addr} {fd_UnknownStream : FuncData} (M_UnknownStream : XcD P w K mg base G 11 "UnknownStream" "self" "stream" f_UnknownStream fd_UnknownStream) {f_UnknownName : Addr} {fd_UnknownName : FuncData} (M_UnknownName : XcD P w K mg base G 14 "UnknownName" "self" "word" f_UnknownName fd_UnknownName) {f_BrokenPromise : Addr} {fd_BrokenPromise : FuncData} (M_BrokenPromise : XcD P w K mg base G 12 "BrokenPromise" "self" "index" f_BrokenPromise fd_BrokenPromise) {f_MixedUse : Addr} {fd_MixedUse : FuncData} (M_MixedUse : XcD P w K mg base G 13 "MixedUse" "self" "stream" f_MixedUse fd_MixedUse) {f_NameTaken : Addr} {fd_NameTaken : FuncData} (M_NameTaken : XcD P w K mg base G 15 "NameTaken" "self" "word" f_NameTaken fd_NameTaken) {f_DamagedJournal : Addr} {fd_DamagedJournal : FuncData} (M_DamagedJournal : XcD P w K mg base G 16 "DamagedJournal" "self" "line" f_DamagedJournal fd_DamagedJournal) : FnG P w K mg base G 3 f fd ["_law_thing", "_law_some"] F__law_fields :=
  fng_of (N := N__law_fields) D ⟨rfl, rfl, rfl, by decide +kernel, rfl, by decide +kernel, by decide +kernel⟩ rfl fun cd A outer s H E hr ok => by
    have h_0 : SS (cxOf (L2.CX P w) P w K mg base N__law_fields "_law_fields" (defScope s__law_fields) f cd A outer s H E) G (WE E) ((defBody s__law_fields).getD 0 (.Pass ⟨0, 0, 0, 0⟩)) r__law_fields_0 := (ss_asg (se_lst (sa_consP (se_xf T.xf_value (se_ix (se_var 1 nm__law_fields_1 vs__law_fields_1 db__law_some cd__law_some) se_int)) (sa_consP (se_xf T.xf_value (se_ix (se_var 1 nm__law_fields_1 vs__law_fields_1 db__law_some cd__law_some) se_int)) (sa_consP (se_xf T.xf_value (se_ix (se_var 1 nm__law_fields_1 vs__law_fields_1 db__law_some cd__law_some) se_int)) (sa_consP (se_xf T.xf_value (se_ix (se_var 1 nm__law_fields_1 vs__law_fields_1 db__law_some cd__law_some) se_int)) (sa_consP (se_xf T.xf_value (se_ix (se_var 1 nm__law_fields_1 vs__law_fields_1 db__law_some cd__law_some) se_int)) (sa_consP (se_xf T.xf_value (se_ix (se_var 1 nm__law_fields_1 vs__law_fields_1 db__law_some cd__law_some) se_int)) sa_nil))))))) (sg_name ok.toXOs 2 nm__law_fields_2 lc__law_fields_2 (.inl rfl)))
    have h_1 : SS (cxOf (L2.CX P w) P w K mg base N__law_fields "_law_fields" (defScope s__law_fields) f cd A outer s H E) G (WE E) ((defBody s__law_fields).getD 1 (.Pass ⟨0, 0, 0, 0⟩)) r__law_fields_1 := (ss_asg (se_bin os_add (se_var 2 nm__law_fields_2 vs__law_fields_2 db__law_told cd__law_told) (se_lst (sa_consP (se_xf T.xf_word (se_ix (se_var 1 nm__law_fields_1 vs__law_fields_1 db__law_some cd__law_some) se_int)) (sa_consP (se_xf T.xf_position (se_ix (se_var 1 nm__law_fields_1 vs__law_fields_1 db__law_some cd__law_some) se_int)) (sa_consP (se_xf T.xf_value (se_ix (se_var 1 nm__law_fields_1 vs__law_fields_1 db__law_some cd__law_some) se_int)) (sa_consP (se_xf T.xf_value (se_ix (se_var 1 nm__law_fields_1 vs__law_fields_1 db__law_some cd__law_some) se_int)) (sa_consP (se_xf T.xf_stream (se_ix (se_var 1 nm__law_fields_1 vs__law_fields_1 db__law_some cd__law_some) se_int)) sa_nil))))))) (sg_name ok.toXOs 2 nm__law_fields_2 lc__law_fields_2 (.inl rfl)))
    have h_2 : SS (cxOf (L2.CX P w) P w K mg base N__law_fields "_law_fields" (defScope s__law_fields) f cd A outer s H E) G (WE E) ((defBody s__law_fields).getD 2 (.Pass ⟨0, 0, 0, 0⟩)) r__law_fields_2 := (ss_asg (se_bin os_add (se_var 2 nm__law_fields_2 vs__law_fields_2 db__law_told cd__law_told) (se_lst (sa_consP (se_xf T.xf_word (se_ix (se_var 1 nm__law_fields_1 vs__law_fields_1 db__law_some cd__law_some) se_int)) (sa_consP (se_xf T.xf_index (se_ix (se_var 1 nm__law_fields_1 vs__law_fields_1 db__law_some cd__law_some) se_int)) (sa_consP (se_xf T.xf_stream (se_ix (se_var 1 nm__law_fields_1 vs__law_fields_1 db__law_some cd__law_some) se_int)) (sa_consP (se_xf T.xf_word (se_ix (se_var 1 nm__law_fields_1 vs__law_fields_1 db__law_some cd__law_some) se_int)) (sa_consP (se_xf T.xf_line (se_ix (se_var 1 nm__law_fields_1 vs__law_fields_1 db__law_some cd__law_some) se_int)) sa_nil))))))) (sg_name ok.toXOs 2 nm__law_fields_2 lc__law_fields_2 (.inl rfl)))
    have h_3 : SS (cxOf (L2.CX P w) P w K mg base N__law_fields "_law_fields" (defScope s__law_fields) f cd A outer s H E) G (WE E) ((defBody s__law_fields).getD 3 (.Pass ⟨0, 0, 0, 0⟩)) r__law_fields_3 := (ss_asg (se_bin os_add (se_var 2 nm__law_fields_2 vs__law_fields_2 db__law_told cd__law_told) (se_lst (sa_consP (se_xf T.xf_value (se_mkxk (k := 0) M_InvalidColumns (hr.mono (by decide)) (sk_cons (se_var 0 nm__law_fields_0 vs__law_fields_0 db__law_thing cd__law_thing) sk_nil) rfl gl__law_fields_InvalidColumns db_InvalidColumns)) (sa_consP (se_xf T.xf_value (se_mkxk (k := 0) M_InvalidRow (hr.mono (by decide)) (sk_cons (se_var 0 nm__law_fields_0 vs__law_fields_0 db__law_thing cd__law_thing) sk_nil) rfl gl__law_fields_InvalidRow db_InvalidRow)) sa_nil)))) (sg_name ok.toXOs 2 nm__law_fields_2 lc__law_fields_2 (.inl rfl)))
    have h_4 : SS (cxOf (L2.CX P w) P w K mg base N__law_fields "_law_fields" (defScope s__law_fields) f cd A outer s H E) G (WE E) ((defBody s__law_fields).getD 4 (.Pass ⟨0, 0, 0, 0⟩)) r__law_fields_4 := (ss_asg (se_bin os_add (se_var 2 nm__law_fields_2 vs__law_fields_2 db__law_told cd__law_told) (se_lst (sa_consP (se_xf T.xf_value (se_mkxk (k := 0) M_InvalidBox (hr.mono (by decide)) (sk_cons (se_var 0 nm__law_fields_0 vs__law_fields_0 db__law_thing cd__law_thing) sk_nil) rfl gl__law_fields_InvalidBox db_InvalidBox)) (sa_consP (se_xf T.xf_value (se_mkxk (k := 0) M_InvalidQuery (hr.mono (by decide)) (sk_cons (se_var 0 nm__law_fields_0 vs__law_fields_0 db__law_thing cd__law_thing) sk_nil) rfl gl__law_fields_InvalidQuery db_InvalidQuery)) sa_nil)))) (sg_name ok.toXOs 2 nm__law_fields_2 lc__law_fields_2 (.inl rfl)))
    have h_5 : SS (cxOf (L2.CX P w) P w K mg base N__law_fields "_law_fields" (defScope s__law_fields) f cd A outer s H E) G (WE E) ((defBody s__law_fields).getD 5 (.Pass ⟨0, 0, 0, 0⟩)) r__law_fields_5 := (ss_asg (se_bin os_add (se_var 2 nm__law_fields_2 vs__law_fields_2 db__law_told cd__law_told) (se_lst (sa_consP (se_xf T.xf_value (se_mkxk (k := 0) M_InvalidEvent (hr.mono (by decide)) (sk_cons (se_var 0 nm__law_fields_0 vs__law_fields_0 db__law_thing cd__law_thing) sk_nil) rfl gl__law_fields_InvalidEvent db_InvalidEvent)) (sa_consP (se_xf T.xf_value (se_mkxk (k := 0) M_InvalidText (hr.mono (by decide)) (sk_cons (se_var 0 nm__law_fields_0 vs__law_fields_0 db__law_thing cd__law_thing) sk_nil) rfl gl__law_fields_InvalidText db_InvalidText)) sa_nil)))) (sg_name ok.toXOs 2 nm__law_fields_2 lc__law_fields_2 (.inl rfl)))
    have h_6 : SS (cxOf (L2.CX P w) P w K mg base N__law_fields "_law_fields" (defScope s__law_fields) f cd A outer s H E) G (WE E) ((defBody s__law_fields).getD 6 (.Pass ⟨0, 0, 0, 0⟩)) r__law_fields_6 := (ss_asg (se_bin os_add (se_var 2 nm__law_fields_2 vs__law_fields_2 db__law_told cd__law_told) (se_lst (sa_consP (se_xf T.xf_word (se_mkxk (k := 0) M_InvalidCommand (hr.mono (by decide)) (sk_cons (se_var 0 nm__law_fields_0 vs__law_fields_0 db__law_thing cd__law_thing) sk_nil) rfl gl__law_fields_InvalidCommand db_InvalidCommand)) (sa_consP (se_xf T.xf_position (se_mkxk (k := 0) M_InvalidSyntax (hr.mono (by decide)) (sk_cons (se_var 0 nm__law_fields_0 vs__law_fields_0 db__law_thing cd__law_thing) sk_nil) rfl gl__law_fields_InvalidSyntax db_InvalidSyntax)) sa_nil)))) (sg_name ok.toXOs 2 nm__law_fields_2 lc__law_fields_2 (.inl rfl)))
    have h_7 : SS (cxOf (L2.CX P w) P w K mg base N__law_fields "_law_fields" (defScope s__law_fields) f cd A outer s H E) G (WE E) ((defBody s__law_fields).getD 7 (.Pass ⟨0, 0, 0, 0⟩)) r__law_fields_7 := (ss_asg (se_bin os_add (se_var 2 nm__law_fields_2 vs__law_fields_2 db__law_told cd__law_told) (se_lst (sa_consP (se_xf T.xf_value (se_mkxk (k := 0) M_InvalidName (hr.mono (by decide)) (sk_cons (se_var 0 nm__law_fields_0 vs__law_fields_0 db__law_thing cd__law_thing) sk_nil) rfl gl__law_fields_InvalidName db_InvalidName)) (sa_consP (se_xf T.xf_value (se_mkxk (k := 0) M_InvalidNumber (hr.mono (by decide)) (sk_cons (se_var 0 nm__law_fields_0 vs__law_fields_0 db__law_thing cd__law_thing) sk_nil) rfl gl__law_fields_InvalidNumber db_InvalidNumber)) sa_nil)))) (sg_name ok.toXOs 2 nm__law_fields_2 lc__law_fields_2 (.inl rfl)))
    have h_8 : SS (cxOf (L2.CX P w) P w K mg base N__law_fields "_law_fields" (defScope s__law_fields) f cd A outer s H E) G (WE E) ((defBody s__law_fields).getD 8 (.Pass ⟨0, 0, 0, 0⟩)) r__law_fields_8 := (ss_asg (se_bin os_add (se_var 2 nm__law_fields_2 vs__law_fields_2 db__law_told cd__law_told) (se_lst (sa_consP (se_xf T.xf_stream (se_mkxk (k := 0) M_UnknownStream (hr.mono (by decide)) (sk_cons (se_var 0 nm__law_fields_0 vs__law_fields_0 db__law_thing cd__law_thing) sk_nil) rfl gl__law_fields_UnknownStream db_UnknownStream)) (sa_consP (se_xf T.xf_word (se_mkxk (k := 0) M_UnknownName (hr.mono (by decide)) (sk_cons (se_var 0 nm__law_fields_0 vs__law_fields_0 db__law_thing cd__law_thing) sk_nil) rfl gl__law_fields_UnknownName db_UnknownName)) sa_nil)))) (sg_name ok.toXOs 2 nm__law_fields_2 lc__law_fields_2 (.inl rfl)))
    have h_9 : SS (cxOf (L2.CX P w) P w K mg base N__law_fields "_law_fields" (defScope s__law_fields) f cd A outer s H E) G (WE E) ((defBody s__law_fields).getD 9 (.Pass ⟨0, 0, 0, 0⟩)) r__law_fields_9 := (ss_asg (se_bin os_add (se_var 2 nm__law_fields_2 vs__law_fields_2 db__law_told cd__law_told) (se_lst (sa_consP (se_xf T.xf_index (se_mkxk (k := 0) M_BrokenPromise (hr.mono (by decide)) (sk_cons (se_var 0 nm__law_fields_0 vs__law_fields_0 db__law_thing cd__law_thing) sk_nil) rfl gl__law_fields_BrokenPromise db_BrokenPromise)) (sa_consP (se_xf T.xf_stream (se_mkxk (k := 0) M_MixedUse (hr.mono (by decide)) (sk_cons (se_var 0 nm__law_fields_0 vs__law_fields_0 db__law_thing cd__law_thing) sk_nil) rfl gl__law_fields_MixedUse db_MixedUse)) sa_nil)))) (sg_name ok.toXOs 2 nm__law_fields_2 lc__law_fields_2 (.inl rfl)))
    have h_10 : SS (cxOf (L2.CX P w) P w K mg base N__law_fields "_law_fields" (defScope s__law_fields) f cd A outer s H E) G (WE E) ((defBody s__law_fields).getD 10 (.Pass ⟨0, 0, 0, 0⟩)) r__law_fields_10 := (ss_ret (se_bin os_add (se_var 2 nm__law_fields_2 vs__law_fields_2 db__law_told cd__law_told) (se_lst (sa_consP (se_xf T.xf_word (se_mkxk (k := 0) M_NameTaken (hr.mono (by decide)) (sk_cons (se_var 0 nm__law_fields_0 vs__law_fields_0 db__law_thing cd__law_thing) sk_nil) rfl gl__law_fields_NameTaken db_NameTaken)) (sa_consP (se_xf T.xf_line (se_mkxk (k := 0) M_DamagedJournal (hr.mono (by decide)) (sk_cons (se_var 0 nm__law_fields_0 vs__law_fields_0 db__law_thing cd__law_thing) sk_nil) rfl gl__law_fields_DamagedJournal db_DamagedJournal)) sa_nil)))))
    exact (ss_cons h_0 (ss_cons h_1 (ss_cons h_2 (ss_cons h_3 (ss_cons h_4 (ss_cons h_5 (ss_cons h_6 (ss_cons h_7 (ss_cons h_8 (ss_cons h_9 (ss_one h_10)))))))))))
theorem ok_law (T : Txt K mg G) {f : Addr} {fd : FuncData} (D : Fun K "law" "law" s_law f fd) {f__law_pool : Addr} {fd__law_pool : FuncData} (D__law_pool : DefA K mg "_law_pool" f__law_pool fd__law_pool ["_law_script", "_law_k"]) (g__law_pool : FnG P w K mg base G 1 f__law_pool fd__law_pool ["_law_script", "_law_k"] F__law_pool) {f__law_take : Addr} {fd__law_take : FuncData} (D__law_take : DefA K mg "_law_take" f__law_take fd__law_take ["_law_pool_here", "_law_wide"]) (g__law_take : FnG P w K mg base G 1 f__law_take fd__law_take ["_law_pool_here", "_law_wide"] F__law_take) {f__law_made : Addr} {fd__law_made : FuncData} (D__law_made : DefA K mg "_law_made" f__law_made fd__law_made ["_law_thing"]) (g__law_made : FnG P w K mg base G 3 f__law_made fd__law_made ["_law_thing"] F__law_made) {f__law_kinds : Addr} {fd__law_kinds : FuncData} (D__law_kinds : DefA K mg "_law_kinds" f__law_kinds fd__law_kinds ["_law_e"]) (g__law_kinds : FnG P w K mg base G 1 f__law_kinds fd__law_kinds ["_law_e"] F__law_kinds) {f__law_bases : Addr} {fd__law_bases : FuncData} (D__law_bases : DefA K mg "_law_bases" f__law_bases fd__law_bases ["_law_e"]) (g__law_bases : FnG P w K mg base G 1 f__law_bases fd__law_bases ["_law_e"] F__law_bases) {f__law_fields : Addr} {fd__law_fields : FuncData} (D__law_fields : DefA K mg "_law_fields" f__law_fields fd__law_fields ["_law_thing", "_law_some"]) (g__law_fields : FnG P w K mg base G 3 f__law_fields fd__law_fields ["_law_thing", "_law_some"] F__law_fields) : FnG P w K mg base G 4 f fd ["_law_script"] F_law :=
  fng_of (N := N_law) D ⟨rfl, rfl, rfl, by decide +kernel, rfl, by decide +kernel, by decide +kernel⟩ rfl fun cd A outer s H E hr ok => by
    have h_0_a_0 : SS (cxOf (L2.CX P w) P w K mg base N_law "law" (defScope s_law) f cd A outer s H E) G (WE E) ((subA ((defBody s_law).getD 0 (.Pass ⟨0, 0, 0, 0⟩))).getD 0 (.Pass ⟨0, 0, 0, 0⟩)) r_law_0_a_0 := (ss_asg (se_call g__law_pool ok.toXOs (hr.mono (by decide)) D__law_pool.mg D__law_pool.kp D__law_pool.bi dfl_nil (sa_consP (se_var 0 nm_law_0 vs_law_0 db__law_script cd__law_script) (sa_consP (se_var 1 nm_law_1 vs_law_1 db__law_k cd__law_k) sa_nil)) gl_law__law_pool db__law_pool) (sg_name ok.toXOs 2 nm_law_2 lc_law_2 (.inl rfl)))
    have h_0_a_1 : SS (cxOf (L2.CX P w) P w K mg base N_law "law" (defScope s_law) f cd A outer s H E) G (WE E) ((subA ((defBody s_law).getD 0 (.Pass ⟨0, 0, 0, 0⟩))).getD 1 (.Pass ⟨0, 0, 0, 0⟩)) r_law_0_a_1 := (ss_asg (se_ix (se_lst (sa_consP se_non (sa_consP se_int (sa_consP (se_neg se_int) (sa_consP se_str (sa_consP (se_tup sa_nil) (sa_consP (se_tup (sa_consP se_str (sa_consP se_int sa_nil))) (sa_consP se_bl (sa_consP se_str (sa_consP (se_bin os_pow se_int se_int) (sa_consP (se_lst (sa_consP se_str sa_nil)) sa_nil))))))))))) (se_call g__law_take ok.toXOs (hr.mono (by decide)) D__law_take.mg D__law_take.kp D__law_take.bi dfl_nil (sa_consP (se_var 2 nm_law_2 vs_law_2 db__law_pool_here cd__law_pool_here) (sa_consP se_int sa_nil)) gl_law__law_take db__law_take)) (sg_name ok.toXOs 3 nm_law_3 lc_law_3 (.inl rfl)))
    have h_0_a_2 : SS (cxOf (L2.CX P w) P w K mg base N_law "law" (defScope s_law) f cd A outer s H E) G (WE E) ((subA ((defBody s_law).getD 0 (.Pass ⟨0, 0, 0, 0⟩))).getD 2 (.Pass ⟨0, 0, 0, 0⟩)) r_law_0_a_2 := (ss_asg (se_call g__law_made ok.toXOs (hr.mono (by decide)) D__law_made.mg D__law_made.kp D__law_made.bi dfl_nil (sa_consP (se_var 3 nm_law_3 vs_law_3 db__law_thing cd__law_thing) sa_nil) gl_law__law_made db__law_made) (sg_name ok.toXOs 4 nm_law_4 lc_law_4 (.inl rfl)))
    have h_0_a_3_a_0_a_0 : SS (cxOf (L2.CX P w) P w K mg base N_law "law" (defScope s_law) f cd A outer s H E) G (WE E) ((subA ((subA ((subA ((defBody s_law).getD 0 (.Pass ⟨0, 0, 0, 0⟩))).getD 3 (.Pass ⟨0, 0, 0, 0⟩))).getD 0 (.Pass ⟨0, 0, 0, 0⟩))).getD 0 (.Pass ⟨0, 0, 0, 0⟩)) r_law_0_a_3_a_0_a_0 := (ss_ret se_bl)
    have h_0_a_3_a_0 : SS (cxOf (L2.CX P w) P w K mg base N_law "law" (defScope s_law) f cd A outer s H E) G (WE E) ((subA ((subA ((defBody s_law).getD 0 (.Pass ⟨0, 0, 0, 0⟩))).getD 3 (.Pass ⟨0, 0, 0, 0⟩))).getD 0 (.Pass ⟨0, 0, 0, 0⟩)) r_law_0_a_3_a_0 := (ss_if (st_cmp (os_ne ok.toXOs) (se_lc [("_law_at", 8), ("_law_own", 9)] ok (si_enum2 T.z_enumerate (sa_consP (se_call g__law_kinds ok.toXOs (hr.mono (by decide)) D__law_kinds.mg D__law_kinds.kp D__law_kinds.bi dfl_nil (sa_consP (se_var 6 nm_law_6 vs_law_6 db__law_one cd__law_one) sa_nil) gl_law__law_kinds db__law_kinds) sa_nil)) (blkW (N := N_law) (sc := defScope s_law) (by decide +kernel)) (fun _ _ _ _ _ okb => (sg_tup okb (sgs_cons (sg_name okb.toXOs 8 rfl) (sgs_cons (sg_name okb.toXOs 9 rfl) sgs_nil)))) (by rfl) (fun _ _ _ _ _ okb => (sts_one (st_truth (se_var 9 rfl)))) (fun _ _ _ _ _ okb => (se_var 8 rfl))) (se_lst (sa_consP (se_var 5 nm_law_5 vs_law_5 db__law_number cd__law_number) sa_nil))) (ss_one h_0_a_3_a_0_a_0) ss_nil)
    have h_0_a_3_a_1 : SS (cxOf (L2.CX P w) P w K mg base N_law "law" (defScope s_law) f cd A outer s H E) G (WE E) ((subA ((subA ((defBody s_law).getD 0 (.Pass ⟨0, 0, 0, 0⟩))).getD 3 (.Pass ⟨0, 0, 0, 0⟩))).getD 1 (.Pass ⟨0, 0, 0, 0⟩)) r_law_0_a_3_a_1 := (ss_asg (se_lst (sa_consP (se_cmp os_lt (se_var 5 nm_law_5 vs_law_5 db__law_number cd__law_number) se_int) (sa_consP (se_cmp os_lt (se_var 5 nm_law_5 vs_law_5 db__law_number cd__law_number) se_int) (sa_consP (se_cmp (os_in2 ok.toXOs) (se_var 5 nm_law_5 vs_law_5 db__law_number cd__law_number) (se_lst (sa_consP se_int (sa_consP se_int (sa_consP se_int (sa_consP se_int sa_nil)))))) (sa_consP (se_cmp (os_in2 ok.toXOs) (se_var 5 nm_law_5 vs_law_5 db__law_number cd__law_number) (se_lst (sa_consP se_int (sa_consP se_int sa_nil)))) (sa_consP (se_cmp (os_in2 ok.toXOs) (se_var 5 nm_law_5 vs_law_5 db__law_number cd__law_number) (se_lst (sa_consP se_int (sa_consP se_int sa_nil)))) (sa_consP se_bl sa_nil))))))) (sg_name ok.toXOs 7 nm_law_7 lc_law_7 (.inl rfl)))
    have h_0_a_3_a_2_a_0 : SS (cxOf (L2.CX P w) P w K mg base N_law "law" (defScope s_law) f cd A outer s H E) G (WE E) ((subA ((subA ((subA ((defBody s_law).getD 0 (.Pass ⟨0, 0, 0, 0⟩))).getD 3 (.Pass ⟨0, 0, 0, 0⟩))).getD 2 (.Pass ⟨0, 0, 0, 0⟩))).getD 0 (.Pass ⟨0, 0, 0, 0⟩)) r_law_0_a_3_a_2_a_0 := (ss_ret se_bl)
    have h_0_a_3_a_2 : SS (cxOf (L2.CX P w) P w K mg base N_law "law" (defScope s_law) f cd A outer s H E) G (WE E) ((subA ((subA ((defBody s_law).getD 0 (.Pass ⟨0, 0, 0, 0⟩))).getD 3 (.Pass ⟨0, 0, 0, 0⟩))).getD 2 (.Pass ⟨0, 0, 0, 0⟩)) r_law_0_a_3_a_2 := (ss_if (st_cmp (os_ne ok.toXOs) (se_call g__law_bases ok.toXOs (hr.mono (by decide)) D__law_bases.mg D__law_bases.kp D__law_bases.bi dfl_nil (sa_consP (se_var 6 nm_law_6 vs_law_6 db__law_one cd__law_one) sa_nil) gl_law__law_bases db__law_bases) (se_var 7 nm_law_7 vs_law_7 db__law_due cd__law_due)) (ss_one h_0_a_3_a_2_a_0) ss_nil)
    have h_0_a_3 : SS (cxOf (L2.CX P w) P w K mg base N_law "law" (defScope s_law) f cd A outer s H E) G (WE E) ((subA ((defBody s_law).getD 0 (.Pass ⟨0, 0, 0, 0⟩))).getD 3 (.Pass ⟨0, 0, 0, 0⟩)) r_law_0_a_3 := (ss_for ok (si_enum2 T.z_enumerate (sa_consP (se_var 4 nm_law_4 vs_law_4 db__law_some cd__law_some) sa_nil)) (sg_tup ok (sgs_cons (sg_name ok.toXOs 5 nm_law_5 lc_law_5 (.inl rfl)) (sgs_cons (sg_name ok.toXOs 6 nm_law_6 lc_law_6 (.inl rfl)) sgs_nil))) (ss_cons h_0_a_3_a_0 (ss_cons h_0_a_3_a_1 (ss_one h_0_a_3_a_2))))
    have h_0_a_4_a_0 : SS (cxOf (L2.CX P w) P w K mg base N_law "law" (defScope s_law) f cd A outer s H E) G (WE E) ((subA ((subA ((defBody s_law).getD 0 (.Pass ⟨0, 0, 0, 0⟩))).getD 4 (.Pass ⟨0, 0, 0, 0⟩))).getD 0 (.Pass ⟨0, 0, 0, 0⟩)) r_law_0_a_4_a_0 := (ss_ret se_bl)
    have h_0_a_4 : SS (cxOf (L2.CX P w) P w K mg base N_law "law" (defScope s_law) f cd A outer s H E) G (WE E) ((subA ((defBody s_law).getD 0 (.Pass ⟨0, 0, 0, 0⟩))).getD 4 (.Pass ⟨0, 0, 0, 0⟩)) r_law_0_a_4 := (ss_if (st_cmp (os_ne ok.toXOs) (se_callB (fn_repr2 ok.toXOs) T.z_repr (sa_consP (se_call g__law_fields ok.toXOs (hr.mono (by decide)) D__law_fields.mg D__law_fields.kp D__law_fields.bi dfl_nil (sa_consP (se_var 3 nm_law_3 vs_law_3 db__law_thing cd__law_thing) (sa_consP (se_var 4 nm_law_4 vs_law_4 db__law_some cd__law_some) sa_nil)) gl_law__law_fields db__law_fields) sa_nil) gl_law_repr bf_repr nn_repr db_repr) (se_callB (fn_repr2 ok.toXOs) T.z_repr (sa_consP (se_bin os_mul (se_lst (sa_consP (se_var 3 nm_law_3 vs_law_3 db__law_thing cd__law_thing) sa_nil)) se_int) sa_nil) gl_law_repr bf_repr nn_repr db_repr)) (ss_one h_0_a_4_a_0) ss_nil)
    have h_0 : SS (cxOf (L2.CX P w) P w K mg base N_law "law" (defScope s_law) f cd A outer s H E) G (WE E) ((defBody s_law).getD 0 (.Pass ⟨0, 0, 0, 0⟩)) r_law_0 := (ss_for ok (si_rng1 T.z_range (sa_consP (se_callB (fn_max2 ok) T.z_max (sa_consP se_int (sa_consP (se_callB (fn_min2 ok) T.z_min (sa_consP (se_callB fn_len2 T.z_len (sa_consP (se_var 0 nm_law_0 vs_law_0 db__law_script cd__law_script) sa_nil) gl_law_len bf_len nn_len db_len) (sa_consP se_int sa_nil)) gl_law_min bf_min nn_min db_min) sa_nil)) gl_law_max bf_max nn_max db_max) sa_nil)) (sg_name ok.toXOs 1 nm_law_1 lc_law_1 (.inl rfl)) (ss_cons h_0_a_0 (ss_cons h_0_a_1 (ss_cons h_0_a_2 (ss_cons h_0_a_3 (ss_one h_0_a_4))))))
    have h_1 : SS (cxOf (L2.CX P w) P w K mg base N_law "law" (defScope s_law) f cd A outer s H E) G (WE E) ((defBody s_law).getD 1 (.Pass ⟨0, 0, 0, 0⟩)) r_law_1 := (ss_ret se_bl)
    exact (ss_cons h_0 (ss_one h_1))
end
end Kx

set_option Elab.async false
set_option linter.all false
set_option maxRecDepth 100000
set_option maxHeartbeats 4000000
namespace Kx
open PySem PySem.Spec L2 Pz PzR
section
abbrev s_InvalidColumns : Stmt := inClass (top 2) 0
abbrev s_InvalidRow : Stmt := inClass (top 3) 0
abbrev s_InvalidBox : Stmt := inClass (top 4) 0
abbrev s_InvalidQuery : Stmt := inClass (top 5) 0
abbrev s_InvalidEvent : Stmt := inClass (top 6) 0
abbrev s_InvalidText : Stmt := inClass (top 7) 0
abbrev s_InvalidCommand : Stmt := inClass (top 8) 0
abbrev s_InvalidSyntax : Stmt := inClass (top 9) 0
abbrev s_InvalidName : Stmt := inClass (top 10) 0
abbrev s_InvalidNumber : Stmt := inClass (top 11) 0
abbrev s_UnknownStream : Stmt := inClass (top 12) 0
abbrev s_BrokenPromise : Stmt := inClass (top 13) 0
abbrev s_MixedUse : Stmt := inClass (top 14) 0
abbrev s_UnknownName : Stmt := inClass (top 15) 0
abbrev s_NameTaken : Stmt := inClass (top 16) 0
abbrev s_DamagedJournal : Stmt := inClass (top 17) 0
def gOf (C_StreamError C_InvalidColumns C_InvalidRow C_InvalidBox C_InvalidQuery C_InvalidEvent C_InvalidText C_InvalidCommand C_InvalidSyntax C_InvalidName C_InvalidNumber C_UnknownStream C_BrokenPromise C_MixedUse C_UnknownName C_NameTaken C_DamagedJournal : Addr) : Nat → Addr
  | 0 => C_StreamError
  | 1 => C_InvalidColumns
  | 2 => C_InvalidRow
  | 3 => C_InvalidBox
  | 4 => C_InvalidQuery
  | 5 => C_InvalidEvent
  | 6 => C_InvalidText
  | 7 => C_InvalidCommand
  | 8 => C_InvalidSyntax
  | 9 => C_InvalidName
  | 10 => C_InvalidNumber
  | 11 => C_UnknownStream
  | 12 => C_BrokenPromise
  | 13 => C_MixedUse
  | 14 => C_UnknownName
  | 15 => C_NameTaken
  | 16 => C_DamagedJournal
  | _ => 0
theorem all_mk {P : Program} {w : World} {K : PySem.W.Frag} {h : Heap} {mg : Str → Option Value} {fa : Addr} (X : K.In h) (G0 : h.Ns mainGlobals mg) (hfa : mg "law" = some (.ref fa))
    {C_StreamError C_InvalidColumns C_InvalidRow C_InvalidBox C_InvalidQuery C_InvalidEvent C_InvalidText C_InvalidCommand C_InvalidSyntax C_InvalidName C_InvalidNumber C_UnknownStream C_BrokenPromise C_MixedUse C_UnknownName C_NameTaken C_DamagedJournal : Addr}
    {nm_InvalidColumns q_InvalidColumns : Str} {N_InvalidColumns : Addr} {bs_InvalidColumns : List Value} {sn_InvalidColumns : List Str} {sub_InvalidColumns : List Value} {ab_InvalidColumns : Bool} {co_InvalidColumns : Option Bool} {dd_InvalidColumns : Option Addr} {m0_InvalidColumns m1_InvalidColumns m2_InvalidColumns m3_InvalidColumns m5_InvalidColumns : Option Value}
    {f_InvalidColumns : Addr} {oc_InvalidColumns kV_InvalidColumns dc_InvalidColumns pm_InvalidColumns cd_InvalidColumns ct_InvalidColumns : Value} {od_InvalidColumns an_InvalidColumns : Option Addr} {sl_InvalidColumns : Array (Option Value)}
    {nm_InvalidRow q_InvalidRow : Str} {N_InvalidRow : Addr} {bs_InvalidRow : List Value} {sn_InvalidRow : List Str} {sub_InvalidRow : List Value} {ab_InvalidRow : Bool} {co_InvalidRow : Option Bool} {dd_InvalidRow : Option Addr} {m0_InvalidRow m1_InvalidRow m2_InvalidRow m3_InvalidRow m5_InvalidRow : Option Value}
    {f_InvalidRow : Addr} {oc_InvalidRow kV_InvalidRow dc_InvalidRow pm_InvalidRow cd_InvalidRow ct_InvalidRow : Value} {od_InvalidRow an_InvalidRow : Option Addr} {sl_InvalidRow : Array (Option Value)}
    {nm_InvalidBox q_InvalidBox : Str} {N_InvalidBox : Addr} {bs_InvalidBox : List Value} {sn_InvalidBox : List Str} {sub_InvalidBox : List Value} {ab_InvalidBox : Bool} {co_InvalidBox : Option Bool} {dd_InvalidBox : Option Addr} {m0_InvalidBox m1_InvalidBox m2_InvalidBox m3_InvalidBox m5_InvalidBox : Option Value}
    {f_InvalidBox : Addr} {oc_InvalidBox kV_InvalidBox dc_InvalidBox pm_InvalidBox cd_InvalidBox ct_InvalidBox : Value} {od_InvalidBox an_InvalidBox : Option Addr} {sl_InvalidBox : Array (Option Value)}
    {nm_InvalidQuery q_InvalidQuery : Str} {N_InvalidQuery : Addr} {bs_InvalidQuery : List Value} {sn_InvalidQuery : List Str} {sub_InvalidQuery : List Value} {ab_InvalidQuery : Bool} {co_InvalidQuery : Option Bool} {dd_InvalidQuery : Option Addr} {m0_InvalidQuery m1_InvalidQuery m2_InvalidQuery m3_InvalidQuery m5_InvalidQuery : Option Value}
    {f_InvalidQuery : Addr} {oc_InvalidQuery kV_InvalidQuery dc_InvalidQuery pm_InvalidQuery cd_InvalidQuery ct_InvalidQuery : Value} {od_InvalidQuery an_InvalidQuery : Option Addr} {sl_InvalidQuery : Array (Option Value)}
    {nm_InvalidEvent q_InvalidEvent : Str} {N_InvalidEvent : Addr} {bs_InvalidEvent : List Value} {sn_InvalidEvent : List Str} {sub_InvalidEvent : List Value} {ab_InvalidEvent : Bool} {co_InvalidEvent : Option Bool} {dd_InvalidEvent : Option Addr} {m0_InvalidEvent m1_InvalidEvent m2_InvalidEvent m3_InvalidEvent m5_InvalidEvent : Option Value}
    {f_InvalidEvent : Addr} {oc_InvalidEvent kV_InvalidEvent dc_InvalidEvent pm_InvalidEvent cd_InvalidEvent ct_InvalidEvent : Value} {od_InvalidEvent an_InvalidEvent : Option Addr} {sl_InvalidEvent : Array (Option Value)}
    {nm_InvalidText q_InvalidText : Str} {N_InvalidText : Addr} {bs_InvalidText : List Value} {sn_InvalidText : List Str} {sub_InvalidText : List Value} {ab_InvalidText : Bool} {co_InvalidText : Option Bool} {dd_InvalidText : Option Addr} {m0_InvalidText m1_InvalidText m2_InvalidText m3_InvalidText m5_InvalidText : Option Value}
    {f_InvalidText : Addr} {oc_InvalidText kV_InvalidText dc_InvalidText pm_InvalidText cd_InvalidText ct_InvalidText : Value} {od_InvalidText an_InvalidText : Option Addr} {sl_InvalidText : Array (Option Value)}
    {nm_InvalidCommand q_InvalidCommand : Str} {N_InvalidCommand : Addr} {bs_InvalidCommand : List Value} {sn_InvalidCommand : List Str} {sub_InvalidCommand : List Value} {ab_InvalidCommand : Bool} {co_InvalidCommand : Option Bool} {dd_InvalidCommand : Option Addr} {m0_InvalidCommand m1_InvalidCommand m2_InvalidCommand m3_InvalidCommand m5_InvalidCommand : Option Value}
    {f_InvalidCommand : Addr} {oc_InvalidCommand kV_InvalidCommand dc_InvalidCommand pm_InvalidCommand cd_InvalidCommand ct_InvalidCommand : Value} {od_InvalidCommand an_InvalidCommand : Option Addr} {sl_InvalidCommand : Array (Option Value)}
    {nm_InvalidSyntax q_InvalidSyntax : Str} {N_InvalidSyntax : Addr} {bs_InvalidSyntax : List Value} {sn_InvalidSyntax : List Str} {sub_InvalidSyntax : List Value} {ab_InvalidSyntax : Bool} {co_InvalidSyntax : Option Bool} {dd_InvalidSyntax : Option Addr} {m0_InvalidSyntax m1_InvalidSyntax m2_InvalidSyntax m3_InvalidSyntax m5_InvalidSyntax : Option Value}
    {f_InvalidSyntax : Addr} {oc_InvalidSyntax kV_InvalidSyntax dc_InvalidSyntax pm_InvalidSyntax cd_InvalidSyntax ct_InvalidSyntax : Value} {od_InvalidSyntax an_InvalidSyntax : Option Addr} {sl_InvalidSyntax : Array (Option Value)}
    {nm_InvalidName q_InvalidName : Str} {N_InvalidName : Addr} {bs_InvalidName : List Value} {sn_InvalidName : List Str} {sub_InvalidName : List Value} {ab_InvalidName : Bool} {co_InvalidName : Option Bool} {dd_InvalidName : Option Addr} {m0_InvalidName m1_InvalidName m2_InvalidName m3_InvalidName m5_InvalidName : Option Value}
    {f_InvalidName : Addr} {oc_InvalidName kV_InvalidName dc_InvalidName pm_InvalidName cd_InvalidName ct_InvalidName : Value} {od_InvalidName an_InvalidName : Option Addr} {sl_InvalidName : Array (Option Value)}
    {nm_InvalidNumber q_InvalidNumber : Str} {N_InvalidNumber : Addr} {bs_InvalidNumber : List Value} {sn_InvalidNumber : List Str} {sub_InvalidNumber : List Value} {ab_InvalidNumber : Bool} {co_InvalidNumber : Option Bool} {dd_InvalidNumber : Option Addr} {m0_InvalidNumber m1_InvalidNumber m2_InvalidNumber m3_InvalidNumber m5_InvalidNumber : Option Value}
    {f_InvalidNumber : Addr} {oc_InvalidNumber kV_InvalidNumber dc_InvalidNumber pm_InvalidNumber cd_InvalidNumber ct_InvalidNumber : Value} {od_InvalidNumber an_InvalidNumber : Option Addr} {sl_InvalidNumber : Array (Option Value)}
    {nm_UnknownStream q_UnknownStream : Str} {N_UnknownStream : Addr} {bs_UnknownStream : List Value} {sn_UnknownStream : List Str} {sub_UnknownStream : List Value} {ab_UnknownStream : Bool} {co_UnknownStream : Option Bool} {dd_UnknownStream : Option Addr} {m0_UnknownStream m1_UnknownStream m2_UnknownStream m3_UnknownStream m5_UnknownStream : Option Value}
    {f_UnknownStream : Addr} {oc_UnknownStream kV_UnknownStream dc_UnknownStream pm_UnknownStream cd_UnknownStream ct_UnknownStream : Value} {od_UnknownStream an_UnknownStream : Option Addr} {sl_UnknownStream : Array (Option Value)}
    {nm_BrokenPromise q_BrokenPromise : Str} {N_BrokenPromise : Addr} {bs_BrokenPromise : List Value} {sn_BrokenPromise : List Str} {sub_BrokenPromise : List Value} {ab_BrokenPromise : Bool} {co_BrokenPromise : Option Bool} {dd_BrokenPromise : Option Addr} {m0_BrokenPromise m1_BrokenPromise m2_BrokenPromise m3_BrokenPromise m5_BrokenPromise : Option Value}
    {f_BrokenPromise : Addr} {oc_BrokenPromise kV_BrokenPromise dc_BrokenPromise pm_BrokenPromise cd_BrokenPromise ct_BrokenPromise : Value} {od_BrokenPromise an_BrokenPromise : Option Addr} {sl_BrokenPromise : Array (Option Value)}
    {nm_MixedUse q_MixedUse : Str} {N_MixedUse : Addr} {bs_MixedUse : List Value} {sn_MixedUse : List Str} {sub_MixedUse : List Value} {ab_MixedUse : Bool} {co_MixedUse : Option Bool} {dd_MixedUse : Option Addr} {m0_MixedUse m1_MixedUse m2_MixedUse m3_MixedUse m5_MixedUse : Option Value}
    {f_MixedUse : Addr} {oc_MixedUse kV_MixedUse dc_MixedUse pm_MixedUse cd_MixedUse ct_MixedUse : Value} {od_MixedUse an_MixedUse : Option Addr} {sl_MixedUse : Array (Option Value)}
    {nm_UnknownName q_UnknownName : Str} {N_UnknownName : Addr} {bs_UnknownName : List Value} {sn_UnknownName : List Str} {sub_UnknownName : List Value} {ab_UnknownName : Bool} {co_UnknownName : Option Bool} {dd_UnknownName : Option Addr} {m0_UnknownName m1_UnknownName m2_UnknownName m3_UnknownName m5_UnknownName : Option Value}
    {f_UnknownName : Addr} {oc_UnknownName kV_UnknownName dc_UnknownName pm_UnknownName cd_UnknownName ct_UnknownName : Value} {od_UnknownName an_UnknownName : Option Addr} {sl_UnknownName : Array (Option Value)}
    {nm_NameTaken q_NameTaken : Str} {N_NameTaken : Addr} {bs_NameTaken : List Value} {sn_NameTaken : List Str} {sub_NameTaken : List Value} {ab_NameTaken : Bool} {co_NameTaken : Option Bool} {dd_NameTaken : Option Addr} {m0_NameTaken m1_NameTaken m2_NameTaken m3_NameTaken m5_NameTaken : Option Value}
    {f_NameTaken : Addr} {oc_NameTaken kV_NameTaken dc_NameTaken pm_NameTaken cd_NameTaken ct_NameTaken : Value} {od_NameTaken an_NameTaken : Option Addr} {sl_NameTaken : Array (Option Value)}
    {nm_DamagedJournal q_DamagedJournal : Str} {N_DamagedJournal : Addr} {bs_DamagedJournal : List Value} {sn_DamagedJournal : List Str} {sub_DamagedJournal : List Value} {ab_DamagedJournal : Bool} {co_DamagedJournal : Option Bool} {dd_DamagedJournal : Option Addr} {m0_DamagedJournal m1_DamagedJournal m2_DamagedJournal m3_DamagedJournal m5_DamagedJournal : Option Value}
    {f_DamagedJournal : Addr} {oc_DamagedJournal kV_DamagedJournal dc_DamagedJournal pm_DamagedJournal cd_DamagedJournal ct_DamagedJournal : Value} {od_DamagedJournal an_DamagedJournal : Option Addr} {sl_DamagedJournal : Array (Option Value)}
    {f__law_pool : Addr} {oc__law_pool kV__law_pool dc__law_pool pm__law_pool cd__law_pool ct__law_pool : Value} {od__law_pool an__law_pool : Option Addr} {sl__law_pool : Array (Option Value)}
    {f__law_take : Addr} {oc__law_take kV__law_take dc__law_take pm__law_take cd__law_take ct__law_take : Value} {od__law_take an__law_take : Option Addr} {sl__law_take : Array (Option Value)}
    {f__law_kinds : Addr} {oc__law_kinds kV__law_kinds dc__law_kinds pm__law_kinds cd__law_kinds ct__law_kinds : Value} {od__law_kinds an__law_kinds : Option Addr} {sl__law_kinds : Array (Option Value)}
    {f__law_bases : Addr} {oc__law_bases kV__law_bases dc__law_bases pm__law_bases cd__law_bases ct__law_bases : Value} {od__law_bases an__law_bases : Option Addr} {sl__law_bases : Array (Option Value)}
    {f__law_made : Addr} {oc__law_made kV__law_made dc__law_made pm__law_made cd__law_made ct__law_made : Value} {od__law_made an__law_made : Option Addr} {sl__law_made : Array (Option Value)}
    {f__law_fields : Addr} {oc__law_fields kV__law_fields dc__law_fields pm__law_fields cd__law_fields ct__law_fields : Value} {od__law_fields an__law_fields : Option Addr} {sl__law_fields : Array (Option Value)}
    {f_law : Addr} {oc_law kV_law dc_law pm_law cd_law ct_law : Value} {od_law an_law : Option Addr} {sl_law : Array (Option Value)}
    (a_StreamError : PySem.W.nsIn K mainGlobals "StreamError" = some (some (.ref C_StreamError)))
    (a_InvalidColumns : PySem.W.nsIn K mainGlobals "InvalidColumns" = some (some (.ref C_InvalidColumns)))
    (a_InvalidRow : PySem.W.nsIn K mainGlobals "InvalidRow" = some (some (.ref C_InvalidRow)))
    (a_InvalidBox : PySem.W.nsIn K mainGlobals "InvalidBox" = some (some (.ref C_InvalidBox)))
    (a_InvalidQuery : PySem.W.nsIn K mainGlobals "InvalidQuery" = some (some (.ref C_InvalidQuery)))
    (a_InvalidEvent : PySem.W.nsIn K mainGlobals "InvalidEvent" = some (some (.ref C_InvalidEvent)))
    (a_InvalidText : PySem.W.nsIn K mainGlobals "InvalidText" = some (some (.ref C_InvalidText)))
    (a_InvalidCommand : PySem.W.nsIn K mainGlobals "InvalidCommand" = some (some (.ref C_InvalidCommand)))
    (a_InvalidSyntax : PySem.W.nsIn K mainGlobals "InvalidSyntax" = some (some (.ref C_InvalidSyntax)))
    (a_InvalidName : PySem.W.nsIn K mainGlobals "InvalidName" = some (some (.ref C_InvalidName)))
    (a_InvalidNumber : PySem.W.nsIn K mainGlobals "InvalidNumber" = some (some (.ref C_InvalidNumber)))
    (a_UnknownStream : PySem.W.nsIn K mainGlobals "UnknownStream" = some (some (.ref C_UnknownStream)))
    (a_BrokenPromise : PySem.W.nsIn K mainGlobals "BrokenPromise" = some (some (.ref C_BrokenPromise)))
    (a_MixedUse : PySem.W.nsIn K mainGlobals "MixedUse" = some (some (.ref C_MixedUse)))
    (a_UnknownName : PySem.W.nsIn K mainGlobals "UnknownName" = some (some (.ref C_UnknownName)))
    (a_NameTaken : PySem.W.nsIn K mainGlobals "NameTaken" = some (some (.ref C_NameTaken)))
    (a_DamagedJournal : PySem.W.nsIn K mainGlobals "DamagedJournal" = some (some (.ref C_DamagedJournal)))
    (i_InvalidColumns : PySem.W.findIn K (.ref C_InvalidColumns) "__init__" = some (some (.ref f_InvalidColumns)))
    (l_InvalidColumns : K.lookup f_InvalidColumns = some ⟨oc_InvalidColumns, od_InvalidColumns, .func (PySem.W.fnOf "__init__" "InvalidColumns.__init__" (defArgs s_InvalidColumns) (defBody s_InvalidColumns) (defScope s_InvalidColumns) .none kV_InvalidColumns dc_InvalidColumns pm_InvalidColumns an_InvalidColumns cd_InvalidColumns ct_InvalidColumns), sl_InvalidColumns⟩)
    (c_InvalidColumns : PySem.W.codeIn K cd_InvalidColumns "InvalidColumns.__init__" = true)
    (k_InvalidColumns : PySem.W.keepIn K (.ref f_InvalidColumns) = true)
    (x_InvalidColumns : K.lookup C_InvalidColumns = some (excClassObj nm_InvalidColumns q_InvalidColumns C_InvalidColumns N_InvalidColumns bs_InvalidColumns [.ref C_StreamError, .type "ValueError", .type "Exception", .type "BaseException", .type "object"] true sn_InvalidColumns sub_InvalidColumns ab_InvalidColumns co_InvalidColumns dd_InvalidColumns m0_InvalidColumns m1_InvalidColumns m2_InvalidColumns m3_InvalidColumns m5_InvalidColumns "ValueError.__new__"))
    (ti_InvalidColumns : PySem.W.typeIn K (.ref f_InvalidColumns) = some (.type "function"))
    (no_InvalidColumns : PySem.W.findIn K (.ref C_InvalidColumns) "value" = some none)
    (i_InvalidRow : PySem.W.findIn K (.ref C_InvalidRow) "__init__" = some (some (.ref f_InvalidRow)))
    (l_InvalidRow : K.lookup f_InvalidRow = some ⟨oc_InvalidRow, od_InvalidRow, .func (PySem.W.fnOf "__init__" "InvalidRow.__init__" (defArgs s_InvalidRow) (defBody s_InvalidRow) (defScope s_InvalidRow) .none kV_InvalidRow dc_InvalidRow pm_InvalidRow an_InvalidRow cd_InvalidRow ct_InvalidRow), sl_InvalidRow⟩)
    (c_InvalidRow : PySem.W.codeIn K cd_InvalidRow "InvalidRow.__init__" = true)
    (k_InvalidRow : PySem.W.keepIn K (.ref f_InvalidRow) = true)
    (x_InvalidRow : K.lookup C_InvalidRow = some (excClassObj nm_InvalidRow q_InvalidRow C_InvalidRow N_InvalidRow bs_InvalidRow [.ref C_StreamError, .type "ValueError", .type "Exception", .type "BaseException", .type "object"] true sn_InvalidRow sub_InvalidRow ab_InvalidRow co_InvalidRow dd_InvalidRow m0_InvalidRow m1_InvalidRow m2_InvalidRow m3_InvalidRow m5_InvalidRow "ValueError.__new__"))
    (ti_InvalidRow : PySem.W.typeIn K (.ref f_InvalidRow) = some (.type "function"))
    (no_InvalidRow : PySem.W.findIn K (.ref C_InvalidRow) "value" = some none)
    (i_InvalidBox : PySem.W.findIn K (.ref C_InvalidBox) "__init__" = some (some (.ref f_InvalidBox)))
    (l_InvalidBox : K.lookup f_InvalidBox = some ⟨oc_InvalidBox, od_InvalidBox, .func (PySem.W.fnOf "__init__" "InvalidBox.__init__" (defArgs s_InvalidBox) (defBody s_InvalidBox) (defScope s_InvalidBox) .none kV_InvalidBox dc_InvalidBox pm_InvalidBox an_InvalidBox cd_InvalidBox ct_InvalidBox), sl_InvalidBox⟩)
    (c_InvalidBox : PySem.W.codeIn K cd_InvalidBox "InvalidBox.__init__" = true)
    (k_InvalidBox : PySem.W.keepIn K (.ref f_InvalidBox) = true)
    (x_InvalidBox : K.lookup C_InvalidBox = some (excClassObj nm_InvalidBox q_InvalidBox C_InvalidBox N_InvalidBox bs_InvalidBox [.ref C_StreamError, .type "ValueError", .type "Exception", .type "BaseException", .type "object"] true sn_InvalidBox sub_InvalidBox ab_InvalidBox co_InvalidBox dd_InvalidBox m0_InvalidBox m1_InvalidBox m2_InvalidBox m3_InvalidBox m5_InvalidBox "ValueError.__new__"))
    (ti_InvalidBox : PySem.W.typeIn K (.ref f_InvalidBox) = some (.type "function"))
    (no_InvalidBox : PySem.W.findIn K (.ref C_InvalidBox) "value" = some none)
    (i_InvalidQuery : PySem.W.findIn K (.ref C_InvalidQuery) "__init__" = some (some (.ref f_InvalidQuery)))
    (l_InvalidQuery : K.lookup f_InvalidQuery = some ⟨oc_InvalidQuery, od_InvalidQuery, .func (PySem.W.fnOf "__init__" "InvalidQuery.__init__" (defArgs s_InvalidQuery) (defBody s_InvalidQuery) (defScope s_InvalidQuery) .none kV_InvalidQuery dc_InvalidQuery pm_InvalidQuery an_InvalidQuery cd_InvalidQuery ct_InvalidQuery), sl_InvalidQuery⟩)
    (c_InvalidQuery : PySem.W.codeIn K cd_InvalidQuery "InvalidQuery.__init__" = true)
    (k_InvalidQuery : PySem.W.keepIn K (.ref f_InvalidQuery) = true)
    (x_InvalidQuery : K.lookup C_InvalidQuery = some (excClassObj nm_InvalidQuery q_InvalidQuery C_InvalidQuery N_InvalidQuery bs_InvalidQuery [.ref C_StreamError, .type "ValueError", .type "Exception", .type "BaseException", .type "object"] true sn_InvalidQuery sub_InvalidQuery ab_InvalidQuery co_InvalidQuery dd_InvalidQuery m0_InvalidQuery m1_InvalidQuery m2_InvalidQuery m3_InvalidQuery m5_InvalidQuery "ValueError.__new__"))
    (ti_InvalidQuery : PySem.W.typeIn K (.ref f_InvalidQuery) = some (.type "function"))
    (no_InvalidQuery : PySem.W.findIn K (.ref C_InvalidQuery) "value" = some none)
    (i_InvalidEvent : PySem.W.findIn K (.ref C_InvalidEvent) "__init__" = some (some (.ref f_InvalidEvent)))
    (l_InvalidEvent : K.lookup f_InvalidEvent = some ⟨oc_InvalidEvent, od_InvalidEvent, .func (PySem.W.fnOf "__init__" "InvalidEvent.__init__" (defArgs s_InvalidEvent) (defBody s_InvalidEvent) (defScope s_InvalidEvent) .none kV_InvalidEvent dc_InvalidEvent pm_InvalidEvent an_InvalidEvent cd_InvalidEvent ct_InvalidEvent), sl_InvalidEvent⟩)
    (c_InvalidEvent : PySem.W.codeIn K cd_InvalidEvent "InvalidEvent.__init__" = true)
    (k_InvalidEvent : PySem.W.keepIn K (.ref f_InvalidEvent) = true)
    (x_InvalidEvent : K.lookup C_InvalidEvent = some (excClassObj nm_InvalidEvent q_InvalidEvent C_InvalidEvent N_InvalidEvent bs_InvalidEvent [.ref C_StreamError, .type "ValueError", .type "Exception", .type "BaseException", .type "object"] true sn_InvalidEvent sub_InvalidEvent ab_InvalidEvent co_InvalidEvent dd_InvalidEvent m0_InvalidEvent m1_InvalidEvent m2_InvalidEvent m3_InvalidEvent m5_InvalidEvent "ValueError.__new__"))
    (ti_InvalidEvent : PySem.W.typeIn K (.ref f_InvalidEvent) = some (.type "function"))
    (no_InvalidEvent : PySem.W.findIn K (.ref C_InvalidEvent) "value" = some none)
    (i_InvalidText : PySem.W.findIn K (.ref C_InvalidText) "__init__" = some (some (.ref f_InvalidText)))
    (l_InvalidText : K.lookup f_InvalidText = some ⟨oc_InvalidText, od_InvalidText, .func (PySem.W.fnOf "__init__" "InvalidText.__init__" (defArgs s_InvalidText) (defBody s_InvalidText) (defScope s_InvalidText) .none kV_InvalidText dc_InvalidText pm_InvalidText an_InvalidText cd_InvalidText ct_InvalidText), sl_InvalidText⟩)
    (c_InvalidText : PySem.W.codeIn K cd_InvalidText "InvalidText.__init__" = true)
    (k_InvalidText : PySem.W.keepIn K (.ref f_InvalidText) = true)
    (x_InvalidText : K.lookup C_InvalidText = some (excClassObj nm_InvalidText q_InvalidText C_InvalidText N_InvalidText bs_InvalidText [.ref C_StreamError, .type "ValueError", .type "Exception", .type "BaseException", .type "object"] true sn_InvalidText sub_InvalidText ab_InvalidText co_InvalidText dd_InvalidText m0_InvalidText m1_InvalidText m2_InvalidText m3_InvalidText m5_InvalidText "ValueError.__new__"))
    (ti_InvalidText : PySem.W.typeIn K (.ref f_InvalidText) = some (.type "function"))
    (no_InvalidText : PySem.W.findIn K (.ref C_InvalidText) "value" = some none)
    (i_InvalidCommand : PySem.W.findIn K (.ref C_InvalidCommand) "__init__" = some (some (.ref f_InvalidCommand)))
    (l_InvalidCommand : K.lookup f_InvalidCommand = some ⟨oc_InvalidCommand, od_InvalidCommand, .func (PySem.W.fnOf "__init__" "InvalidCommand.__init__" (defArgs s_InvalidCommand) (defBody s_InvalidCommand) (defScope s_InvalidCommand) .none kV_InvalidCommand dc_InvalidCommand pm_InvalidCommand an_InvalidCommand cd_InvalidCommand ct_InvalidCommand), sl_InvalidCommand⟩)
    (c_InvalidCommand : PySem.W.codeIn K cd_InvalidCommand "InvalidCommand.__init__" = true)
    (k_InvalidCommand : PySem.W.keepIn K (.ref f_InvalidCommand) = true)
    (x_InvalidCommand : K.lookup C_InvalidCommand = some (excClassObj nm_InvalidCommand q_InvalidCommand C_InvalidCommand N_InvalidCommand bs_InvalidCommand [.ref C_StreamError, .type "ValueError", .type "Exception", .type "BaseException", .type "object"] true sn_InvalidCommand sub_InvalidCommand ab_InvalidCommand co_InvalidCommand dd_InvalidCommand m0_InvalidCommand m1_InvalidCommand m2_InvalidCommand m3_InvalidCommand m5_InvalidCommand "ValueError.__new__"))
    (ti_InvalidCommand : PySem.W.typeIn K (.ref f_InvalidCommand) = some (.type "function"))
    (no_InvalidCommand : PySem.W.findIn K (.ref C_InvalidCommand) "word" = some none)
    (i_InvalidSyntax : PySem.W.findIn K (.ref C_InvalidSyntax) "__init__" = some (some (.ref f_InvalidSyntax)))
    (l_InvalidSyntax : K.lookup f_InvalidSyntax = some ⟨oc_InvalidSyntax, od_InvalidSyntax, .func (PySem.W.fnOf "__init__" "InvalidSyntax.__init__" (defArgs s_InvalidSyntax) (defBody s_InvalidSyntax) (defScope s_InvalidSyntax) .none kV_InvalidSyntax dc_InvalidSyntax pm_InvalidSyntax an_InvalidSyntax cd_InvalidSyntax ct_InvalidSyntax), sl_InvalidSyntax⟩)
    (c_InvalidSyntax : PySem.W.codeIn K cd_InvalidSyntax "InvalidSyntax.__init__" = true)
    (k_InvalidSyntax : PySem.W.keepIn K (.ref f_InvalidSyntax) = true)
    (x_InvalidSyntax : K.lookup C_InvalidSyntax = some (excClassObj nm_InvalidSyntax q_InvalidSyntax C_InvalidSyntax N_InvalidSyntax bs_InvalidSyntax [.ref C_StreamError, .type "ValueError", .type "Exception", .type "BaseException", .type "object"] true sn_InvalidSyntax sub_InvalidSyntax ab_InvalidSyntax co_InvalidSyntax dd_InvalidSyntax m0_InvalidSyntax m1_InvalidSyntax m2_InvalidSyntax m3_InvalidSyntax m5_InvalidSyntax "ValueError.__new__"))
    (ti_InvalidSyntax : PySem.W.typeIn K (.ref f_InvalidSyntax) = some (.type "function"))
    (no_InvalidSyntax : PySem.W.findIn K (.ref C_InvalidSyntax) "position" = some none)
    (i_InvalidName : PySem.W.findIn K (.ref C_InvalidName) "__init__" = some (some (.ref f_InvalidName)))
    (l_InvalidName : K.lookup f_InvalidName = some ⟨oc_InvalidName, od_InvalidName, .func (PySem.W.fnOf "__init__" "InvalidName.__init__" (defArgs s_InvalidName) (defBody s_InvalidName) (defScope s_InvalidName) .none kV_InvalidName dc_InvalidName pm_InvalidName an_InvalidName cd_InvalidName ct_InvalidName), sl_InvalidName⟩)
    (c_InvalidName : PySem.W.codeIn K cd_InvalidName "InvalidName.__init__" = true)
    (k_InvalidName : PySem.W.keepIn K (.ref f_InvalidName) = true)
    (x_InvalidName : K.lookup C_InvalidName = some (excClassObj nm_InvalidName q_InvalidName C_InvalidName N_InvalidName bs_InvalidName [.ref C_StreamError, .type "ValueError", .type "Exception", .type "BaseException", .type "object"] true sn_InvalidName sub_InvalidName ab_InvalidName co_InvalidName dd_InvalidName m0_InvalidName m1_InvalidName m2_InvalidName m3_InvalidName m5_InvalidName "ValueError.__new__"))
    (ti_InvalidName : PySem.W.typeIn K (.ref f_InvalidName) = some (.type "function"))
    (no_InvalidName : PySem.W.findIn K (.ref C_InvalidName) "value" = some none)
    (i_InvalidNumber : PySem.W.findIn K (.ref C_InvalidNumber) "__init__" = some (some (.ref f_InvalidNumber)))
    (l_InvalidNumber : K.lookup f_InvalidNumber = some ⟨oc_InvalidNumber, od_InvalidNumber, .func (PySem.W.fnOf "__init__" "InvalidNumber.__init__" (defArgs s_InvalidNumber) (defBody s_InvalidNumber) (defScope s_InvalidNumber) .none kV_InvalidNumber dc_InvalidNumber pm_InvalidNumber an_InvalidNumber cd_InvalidNumber ct_InvalidNumber), sl_InvalidNumber⟩)
    (c_InvalidNumber : PySem.W.codeIn K cd_InvalidNumber "InvalidNumber.__init__" = true)
    (k_InvalidNumber : PySem.W.keepIn K (.ref f_InvalidNumber) = true)
    (x_InvalidNumber : K.lookup C_InvalidNumber = some (excClassObj nm_InvalidNumber q_InvalidNumber C_InvalidNumber N_InvalidNumber bs_InvalidNumber [.ref C_StreamError, .type "ValueError", .type "Exception", .type "BaseException", .type "object"] true sn_InvalidNumber sub_InvalidNumber ab_InvalidNumber co_InvalidNumber dd_InvalidNumber m0_InvalidNumber m1_InvalidNumber m2_InvalidNumber m3_InvalidNumber m5_InvalidNumber "ValueError.__new__"))
    (ti_InvalidNumber : PySem.W.typeIn K (.ref f_InvalidNumber) = some (.type "function"))
    (no_InvalidNumber : PySem.W.findIn K (.ref C_InvalidNumber) "value" = some none)
    (i_UnknownStream : PySem.W.findIn K (.ref C_UnknownStream) "__init__" = some (some (.ref f_UnknownStream)))
    (l_UnknownStream : K.lookup f_UnknownStream = some ⟨oc_UnknownStream, od_UnknownStream, .func (PySem.W.fnOf "__init__" "UnknownStream.__init__" (defArgs s_UnknownStream) (defBody s_UnknownStream) (defScope s_UnknownStream) .none kV_UnknownStream dc_UnknownStream pm_UnknownStream an_UnknownStream cd_UnknownStream ct_UnknownStream), sl_UnknownStream⟩)
    (c_UnknownStream : PySem.W.codeIn K cd_UnknownStream "UnknownStream.__init__" = true)
    (k_UnknownStream : PySem.W.keepIn K (.ref f_UnknownStream) = true)
    (x_UnknownStream : K.lookup C_UnknownStream = some (excClassObj nm_UnknownStream q_UnknownStream C_UnknownStream N_UnknownStream bs_UnknownStream [.type "KeyError", .type "LookupError", .type "Exception", .type "BaseException", .type "object"] true sn_UnknownStream sub_UnknownStream ab_UnknownStream co_UnknownStream dd_UnknownStream m0_UnknownStream m1_UnknownStream m2_UnknownStream m3_UnknownStream m5_UnknownStream "LookupError.__new__"))
    (ti_UnknownStream : PySem.W.typeIn K (.ref f_UnknownStream) = some (.type "function"))
    (no_UnknownStream : PySem.W.findIn K (.ref C_UnknownStream) "stream" = some none)
    (i_BrokenPromise : PySem.W.findIn K (.ref C_BrokenPromise) "__init__" = some (some (.ref f_BrokenPromise)))
    (l_BrokenPromise : K.lookup f_BrokenPromise = some ⟨oc_BrokenPromise, od_BrokenPromise, .func (PySem.W.fnOf "__init__" "BrokenPromise.__init__" (defArgs s_BrokenPromise) (defBody s_BrokenPromise) (defScope s_BrokenPromise) .none kV_BrokenPromise dc_BrokenPromise pm_BrokenPromise an_BrokenPromise cd_BrokenPromise ct_BrokenPromise), sl_BrokenPromise⟩)
    (c_BrokenPromise : PySem.W.codeIn K cd_BrokenPromise "BrokenPromise.__init__" = true)
    (k_BrokenPromise : PySem.W.keepIn K (.ref f_BrokenPromise) = true)
    (x_BrokenPromise : K.lookup C_BrokenPromise = some (excClassObj nm_BrokenPromise q_BrokenPromise C_BrokenPromise N_BrokenPromise bs_BrokenPromise [.type "RuntimeError", .type "Exception", .type "BaseException", .type "object"] true sn_BrokenPromise sub_BrokenPromise ab_BrokenPromise co_BrokenPromise dd_BrokenPromise m0_BrokenPromise m1_BrokenPromise m2_BrokenPromise m3_BrokenPromise m5_BrokenPromise "RuntimeError.__new__"))
    (ti_BrokenPromise : PySem.W.typeIn K (.ref f_BrokenPromise) = some (.type "function"))
    (no_BrokenPromise : PySem.W.findIn K (.ref C_BrokenPromise) "index" = some none)
    (i_MixedUse : PySem.W.findIn K (.ref C_MixedUse) "__init__" = some (some (.ref f_MixedUse)))
    (l_MixedUse : K.lookup f_MixedUse = some ⟨oc_MixedUse, od_MixedUse, .func (PySem.W.fnOf "__init__" "MixedUse.__init__" (defArgs s_MixedUse) (defBody s_MixedUse) (defScope s_MixedUse) .none kV_MixedUse dc_MixedUse pm_MixedUse an_MixedUse cd_MixedUse ct_MixedUse), sl_MixedUse⟩)
    (c_MixedUse : PySem.W.codeIn K cd_MixedUse "MixedUse.__init__" = true)
    (k_MixedUse : PySem.W.keepIn K (.ref f_MixedUse) = true)
    (x_MixedUse : K.lookup C_MixedUse = some (excClassObj nm_MixedUse q_MixedUse C_MixedUse N_MixedUse bs_MixedUse [.type "RuntimeError", .type "Exception", .type "BaseException", .type "object"] true sn_MixedUse sub_MixedUse ab_MixedUse co_MixedUse dd_MixedUse m0_MixedUse m1_MixedUse m2_MixedUse m3_MixedUse m5_MixedUse "RuntimeError.__new__"))
    (ti_MixedUse : PySem.W.typeIn K (.ref f_MixedUse) = some (.type "function"))
    (no_MixedUse : PySem.W.findIn K (.ref C_MixedUse) "stream" = some none)
    (i_UnknownName : PySem.W.findIn K (.ref C_UnknownName) "__init__" = some (some (.ref f_UnknownName)))
    (l_UnknownName : K.lookup f_UnknownName = some ⟨oc_UnknownName, od_UnknownName, .func (PySem.W.fnOf "__init__" "UnknownName.__init__" (defArgs s_UnknownName) (defBody s_UnknownName) (defScope s_UnknownName) .none kV_UnknownName dc_UnknownName pm_UnknownName an_UnknownName cd_UnknownName ct_UnknownName), sl_UnknownName⟩)
    (c_UnknownName : PySem.W.codeIn K cd_UnknownName "UnknownName.__init__" = true)
    (k_UnknownName : PySem.W.keepIn K (.ref f_UnknownName) = true)
    (x_UnknownName : K.lookup C_UnknownName = some (excClassObj nm_UnknownName q_UnknownName C_UnknownName N_UnknownName bs_UnknownName [.type "KeyError", .type "LookupError", .type "Exception", .type "BaseException", .type "object"] true sn_UnknownName sub_UnknownName ab_UnknownName co_UnknownName dd_UnknownName m0_UnknownName m1_UnknownName m2_UnknownName m3_UnknownName m5_UnknownName "LookupError.__new__"))
    (ti_UnknownName : PySem.W.typeIn K (.ref f_UnknownName) = some (.type "function"))
    (no_UnknownName : PySem.W.findIn K (.ref C_UnknownName) "word" = some none)
    (i_NameTaken : PySem.W.findIn K (.ref C_NameTaken) "__init__" = some (some (.ref f_NameTaken)))
    (l_NameTaken : K.lookup f_NameTaken = some ⟨oc_NameTaken, od_NameTaken, .func (PySem.W.fnOf "__init__" "NameTaken.__init__" (defArgs s_NameTaken) (defBody s_NameTaken) (defScope s_NameTaken) .none kV_NameTaken dc_NameTaken pm_NameTaken an_NameTaken cd_NameTaken ct_NameTaken), sl_NameTaken⟩)
    (c_NameTaken : PySem.W.codeIn K cd_NameTaken "NameTaken.__init__" = true)
    (k_NameTaken : PySem.W.keepIn K (.ref f_NameTaken) = true)
    (x_NameTaken : K.lookup C_NameTaken = some (excClassObj nm_NameTaken q_NameTaken C_NameTaken N_NameTaken bs_NameTaken [.type "RuntimeError", .type "Exception", .type "BaseException", .type "object"] true sn_NameTaken sub_NameTaken ab_NameTaken co_NameTaken dd_NameTaken m0_NameTaken m1_NameTaken m2_NameTaken m3_NameTaken m5_NameTaken "RuntimeError.__new__"))
    (ti_NameTaken : PySem.W.typeIn K (.ref f_NameTaken) = some (.type "function"))
    (no_NameTaken : PySem.W.findIn K (.ref C_NameTaken) "word" = some none)
    (i_DamagedJournal : PySem.W.findIn K (.ref C_DamagedJournal) "__init__" = some (some (.ref f_DamagedJournal)))
    (l_DamagedJournal : K.lookup f_DamagedJournal = some ⟨oc_DamagedJournal, od_DamagedJournal, .func (PySem.W.fnOf "__init__" "DamagedJournal.__init__" (defArgs s_DamagedJournal) (defBody s_DamagedJournal) (defScope s_DamagedJournal) .none kV_DamagedJournal dc_DamagedJournal pm_DamagedJournal an_DamagedJournal cd_DamagedJournal ct_DamagedJournal), sl_DamagedJournal⟩)
    (c_DamagedJournal : PySem.W.codeIn K cd_DamagedJournal "DamagedJournal.__init__" = true)
    (k_DamagedJournal : PySem.W.keepIn K (.ref f_DamagedJournal) = true)
    (x_DamagedJournal : K.lookup C_DamagedJournal = some (excClassObj nm_DamagedJournal q_DamagedJournal C_DamagedJournal N_DamagedJournal bs_DamagedJournal [.type "RuntimeError", .type "Exception", .type "BaseException", .type "object"] true sn_DamagedJournal sub_DamagedJournal ab_DamagedJournal co_DamagedJournal dd_DamagedJournal m0_DamagedJournal m1_DamagedJournal m2_DamagedJournal m3_DamagedJournal m5_DamagedJournal "RuntimeError.__new__"))
    (ti_DamagedJournal : PySem.W.typeIn K (.ref f_DamagedJournal) = some (.type "function"))
    (no_DamagedJournal : PySem.W.findIn K (.ref C_DamagedJournal) "line" = some none)
    (a__law_pool : PySem.W.nsIn K mainGlobals "_law_pool" = some (some (.ref f__law_pool)))
    (l__law_pool : K.lookup f__law_pool = some ⟨oc__law_pool, od__law_pool, .func (PySem.W.fnOf "_law_pool" "_law_pool" (defArgs s__law_pool) (defBody s__law_pool) (defScope s__law_pool) .none kV__law_pool dc__law_pool pm__law_pool an__law_pool cd__law_pool ct__law_pool), sl__law_pool⟩)
    (c__law_pool : PySem.W.codeIn K cd__law_pool "_law_pool" = true)
    (k__law_pool : PySem.W.keepIn K (.ref f__law_pool) = true)
    (a__law_take : PySem.W.nsIn K mainGlobals "_law_take" = some (some (.ref f__law_take)))
    (l__law_take : K.lookup f__law_take = some ⟨oc__law_take, od__law_take, .func (PySem.W.fnOf "_law_take" "_law_take" (defArgs s__law_take) (defBody s__law_take) (defScope s__law_take) .none kV__law_take dc__law_take pm__law_take an__law_take cd__law_take ct__law_take), sl__law_take⟩)
    (c__law_take : PySem.W.codeIn K cd__law_take "_law_take" = true)
    (k__law_take : PySem.W.keepIn K (.ref f__law_take) = true)
    (a__law_kinds : PySem.W.nsIn K mainGlobals "_law_kinds" = some (some (.ref f__law_kinds)))
    (l__law_kinds : K.lookup f__law_kinds = some ⟨oc__law_kinds, od__law_kinds, .func (PySem.W.fnOf "_law_kinds" "_law_kinds" (defArgs s__law_kinds) (defBody s__law_kinds) (defScope s__law_kinds) .none kV__law_kinds dc__law_kinds pm__law_kinds an__law_kinds cd__law_kinds ct__law_kinds), sl__law_kinds⟩)
    (c__law_kinds : PySem.W.codeIn K cd__law_kinds "_law_kinds" = true)
    (k__law_kinds : PySem.W.keepIn K (.ref f__law_kinds) = true)
    (a__law_bases : PySem.W.nsIn K mainGlobals "_law_bases" = some (some (.ref f__law_bases)))
    (l__law_bases : K.lookup f__law_bases = some ⟨oc__law_bases, od__law_bases, .func (PySem.W.fnOf "_law_bases" "_law_bases" (defArgs s__law_bases) (defBody s__law_bases) (defScope s__law_bases) .none kV__law_bases dc__law_bases pm__law_bases an__law_bases cd__law_bases ct__law_bases), sl__law_bases⟩)
    (c__law_bases : PySem.W.codeIn K cd__law_bases "_law_bases" = true)
    (k__law_bases : PySem.W.keepIn K (.ref f__law_bases) = true)
    (a__law_made : PySem.W.nsIn K mainGlobals "_law_made" = some (some (.ref f__law_made)))
    (l__law_made : K.lookup f__law_made = some ⟨oc__law_made, od__law_made, .func (PySem.W.fnOf "_law_made" "_law_made" (defArgs s__law_made) (defBody s__law_made) (defScope s__law_made) .none kV__law_made dc__law_made pm__law_made an__law_made cd__law_made ct__law_made), sl__law_made⟩)
    (c__law_made : PySem.W.codeIn K cd__law_made "_law_made" = true)
    (k__law_made : PySem.W.keepIn K (.ref f__law_made) = true)
    (a__law_fields : PySem.W.nsIn K mainGlobals "_law_fields" = some (some (.ref f__law_fields)))
    (l__law_fields : K.lookup f__law_fields = some ⟨oc__law_fields, od__law_fields, .func (PySem.W.fnOf "_law_fields" "_law_fields" (defArgs s__law_fields) (defBody s__law_fields) (defScope s__law_fields) .none kV__law_fields dc__law_fields pm__law_fields an__law_fields cd__law_fields ct__law_fields), sl__law_fields⟩)
    (c__law_fields : PySem.W.codeIn K cd__law_fields "_law_fields" = true)
    (k__law_fields : PySem.W.keepIn K (.ref f__law_fields) = true)
    (a_law : PySem.W.nsIn K mainGlobals "law" = some (some (.ref f_law)))
    (l_law : K.lookup f_law = some ⟨oc_law, od_law, .func (PySem.W.fnOf "law" "law" (defArgs s_law) (defBody s_law) (defScope s_law) .none kV_law dc_law pm_law an_law cd_law ct_law), sl_law⟩)
    (c_law : PySem.W.codeIn K cd_law "law" = true)
    (k_law : PySem.W.keepIn K (.ref f_law) = true)
    (z_KeyError : PySem.W.nsIn K mainGlobals "KeyError" = some none)
    (z_LookupError : PySem.W.nsIn K mainGlobals "LookupError" = some none)
    (z_OverflowError : PySem.W.nsIn K mainGlobals "OverflowError" = some none)
    (z_RuntimeError : PySem.W.nsIn K mainGlobals "RuntimeError" = some none)
    (z_ValueError : PySem.W.nsIn K mainGlobals "ValueError" = some none)
    (z_abs : PySem.W.nsIn K mainGlobals "abs" = some none)
    (z_enumerate : PySem.W.nsIn K mainGlobals "enumerate" = some none)
    (z_int : PySem.W.nsIn K mainGlobals "int" = some none)
    (z_isinstance : PySem.W.nsIn K mainGlobals "isinstance" = some none)
    (z_len : PySem.W.nsIn K mainGlobals "len" = some none)
    (z_max : PySem.W.nsIn K mainGlobals "max" = some none)
    (z_min : PySem.W.nsIn K mainGlobals "min" = some none)
    (z_range : PySem.W.nsIn K mainGlobals "range" = some none)
    (z_repr : PySem.W.nsIn K mainGlobals "repr" = some none)
    (exs : allOk K (gOf C_StreamError C_InvalidColumns C_InvalidRow C_InvalidBox C_InvalidQuery C_InvalidEvent C_InvalidText C_InvalidCommand C_InvalidSyntax C_InvalidName C_InvalidNumber C_UnknownStream C_BrokenPromise C_MixedUse C_UnknownName C_NameTaken C_DamagedJournal) 17 = true)
    (sps : supsOk K (gOf C_StreamError C_InvalidColumns C_InvalidRow C_InvalidBox C_InvalidQuery C_InvalidEvent C_InvalidText C_InvalidCommand C_InvalidSyntax C_InvalidName C_InvalidNumber C_UnknownStream C_BrokenPromise C_MixedUse C_UnknownName C_NameTaken C_DamagedJournal) supT = true)
    : ∃ (fd : FuncData) (G : Nat → Addr), (∀ (s : Shared) (u : Value), BindsTo s fd ⟨[u], []⟩ [("_law_script", u)]) ∧ ∀ base : Heap, K.In base → base.Ns mainGlobals mg → FnG P w K mg base G 4 fa fd ["_law_script"] F_law := by
  have e := hfa.symm.trans (PySem.W.mg_of X G0 a_law)
  cases e
  have X_ : ∀ a, a < 17 → ExF K (gOf C_StreamError C_InvalidColumns C_InvalidRow C_InvalidBox C_InvalidQuery C_InvalidEvent C_InvalidText C_InvalidCommand C_InvalidSyntax C_InvalidName C_InvalidNumber C_UnknownStream C_BrokenPromise C_MixedUse C_UnknownName C_NameTaken C_DamagedJournal a) := fun a ha => allOk_f exs ha
  have T : Txt K mg (gOf C_StreamError C_InvalidColumns C_InvalidRow C_InvalidBox C_InvalidQuery C_InvalidEvent C_InvalidText C_InvalidCommand C_InvalidSyntax C_InvalidName C_InvalidNumber C_UnknownStream C_BrokenPromise C_MixedUse C_UnknownName C_NameTaken C_DamagedJournal) := {
    z_KeyError := PySem.W.mg_none_of X G0 z_KeyError
    z_LookupError := PySem.W.mg_none_of X G0 z_LookupError
    z_OverflowError := PySem.W.mg_none_of X G0 z_OverflowError
    z_RuntimeError := PySem.W.mg_none_of X G0 z_RuntimeError
    z_ValueError := PySem.W.mg_none_of X G0 z_ValueError
    z_abs := PySem.W.mg_none_of X G0 z_abs
    z_enumerate := PySem.W.mg_none_of X G0 z_enumerate
    z_int := PySem.W.mg_none_of X G0 z_int
    z_isinstance := PySem.W.mg_none_of X G0 z_isinstance
    z_len := PySem.W.mg_none_of X G0 z_len
    z_max := PySem.W.mg_none_of X G0 z_max
    z_min := PySem.W.mg_none_of X G0 z_min
    z_range := PySem.W.mg_none_of X G0 z_range
    z_repr := PySem.W.mg_none_of X G0 z_repr
    xf_index := fun c hc => by
      simp only [xf_index, List.mem_cons, List.not_mem_nil, or_false] at hc
      subst hc
      · exact ⟨⟨(X_ 12 (by decide)).is.ga, (X_ 12 (by decide)).is.gg, (X_ 12 (by decide)).is.eb, (X_ 12 (by decide)).hd⟩, no_BrokenPromise⟩
    xf_line := fun c hc => by
      simp only [xf_line, List.mem_cons, List.not_mem_nil, or_false] at hc
      subst hc
      · exact ⟨⟨(X_ 16 (by decide)).is.ga, (X_ 16 (by decide)).is.gg, (X_ 16 (by decide)).is.eb, (X_ 16 (by decide)).hd⟩, no_DamagedJournal⟩
    mg_BrokenPromise := PySem.W.mg_of X G0 a_BrokenPromise
    mg_DamagedJournal := PySem.W.mg_of X G0 a_DamagedJournal
    mg_InvalidBox := PySem.W.mg_of X G0 a_InvalidBox
    mg_InvalidColumns := PySem.W.mg_of X G0 a_InvalidColumns
    mg_InvalidCommand := PySem.W.mg_of X G0 a_InvalidCommand
    mg_InvalidEvent := PySem.W.mg_of X G0 a_InvalidEvent
    mg_InvalidName := PySem.W.mg_of X G0 a_InvalidName
    mg_InvalidNumber := PySem.W.mg_of X G0 a_InvalidNumber
    mg_InvalidQuery := PySem.W.mg_of X G0 a_InvalidQuery
    mg_InvalidRow := PySem.W.mg_of X G0 a_InvalidRow
    mg_InvalidSyntax := PySem.W.mg_of X G0 a_InvalidSyntax
    mg_InvalidText := PySem.W.mg_of X G0 a_InvalidText
    mg_MixedUse := PySem.W.mg_of X G0 a_MixedUse
    mg_NameTaken := PySem.W.mg_of X G0 a_NameTaken
    mg_StreamError := PySem.W.mg_of X G0 a_StreamError
    mg_UnknownName := PySem.W.mg_of X G0 a_UnknownName
    mg_UnknownStream := PySem.W.mg_of X G0 a_UnknownStream
    xf_position := fun c hc => by
      simp only [xf_position, List.mem_cons, List.not_mem_nil, or_false] at hc
      subst hc
      · exact ⟨⟨(X_ 8 (by decide)).is.ga, (X_ 8 (by decide)).is.gg, (X_ 8 (by decide)).is.eb, (X_ 8 (by decide)).hd⟩, no_InvalidSyntax⟩
    xf_stream := fun c hc => by
      simp only [xf_stream, List.mem_cons, List.not_mem_nil, or_false] at hc
      rcases hc with rfl | rfl
      · exact ⟨⟨(X_ 11 (by decide)).is.ga, (X_ 11 (by decide)).is.gg, (X_ 11 (by decide)).is.eb, (X_ 11 (by decide)).hd⟩, no_UnknownStream⟩
      · exact ⟨⟨(X_ 13 (by decide)).is.ga, (X_ 13 (by decide)).is.gg, (X_ 13 (by decide)).is.eb, (X_ 13 (by decide)).hd⟩, no_MixedUse⟩
    xf_value := fun c hc => by
      simp only [xf_value, List.mem_cons, List.not_mem_nil, or_false] at hc
      rcases hc with rfl | rfl | rfl | rfl | rfl | rfl | rfl | rfl
      · exact ⟨⟨(X_ 1 (by decide)).is.ga, (X_ 1 (by decide)).is.gg, (X_ 1 (by decide)).is.eb, (X_ 1 (by decide)).hd⟩, no_InvalidColumns⟩
      · exact ⟨⟨(X_ 2 (by decide)).is.ga, (X_ 2 (by decide)).is.gg, (X_ 2 (by decide)).is.eb, (X_ 2 (by decide)).hd⟩, no_InvalidRow⟩
      · exact ⟨⟨(X_ 3 (by decide)).is.ga, (X_ 3 (by decide)).is.gg, (X_ 3 (by decide)).is.eb, (X_ 3 (by decide)).hd⟩, no_InvalidBox⟩
      · exact ⟨⟨(X_ 4 (by decide)).is.ga, (X_ 4 (by decide)).is.gg, (X_ 4 (by decide)).is.eb, (X_ 4 (by decide)).hd⟩, no_InvalidQuery⟩
      · exact ⟨⟨(X_ 5 (by decide)).is.ga, (X_ 5 (by decide)).is.gg, (X_ 5 (by decide)).is.eb, (X_ 5 (by decide)).hd⟩, no_InvalidEvent⟩
      · exact ⟨⟨(X_ 6 (by decide)).is.ga, (X_ 6 (by decide)).is.gg, (X_ 6 (by decide)).is.eb, (X_ 6 (by decide)).hd⟩, no_InvalidText⟩
      · exact ⟨⟨(X_ 9 (by decide)).is.ga, (X_ 9 (by decide)).is.gg, (X_ 9 (by decide)).is.eb, (X_ 9 (by decide)).hd⟩, no_InvalidName⟩
      · exact ⟨⟨(X_ 10 (by decide)).is.ga, (X_ 10 (by decide)).is.gg, (X_ 10 (by decide)).is.eb, (X_ 10 (by decide)).hd⟩, no_InvalidNumber⟩
    xf_word := fun c hc => by
      simp only [xf_word, List.mem_cons, List.not_mem_nil, or_false] at hc
      rcases hc with rfl | rfl | rfl
      · exact ⟨⟨(X_ 7 (by decide)).is.ga, (X_ 7 (by decide)).is.gg, (X_ 7 (by decide)).is.eb, (X_ 7 (by decide)).hd⟩, no_InvalidCommand⟩
      · exact ⟨⟨(X_ 14 (by decide)).is.ga, (X_ 14 (by decide)).is.gg, (X_ 14 (by decide)).is.eb, (X_ 14 (by decide)).hd⟩, no_UnknownName⟩
      · exact ⟨⟨(X_ 15 (by decide)).is.ga, (X_ 15 (by decide)).is.gg, (X_ 15 (by decide)).is.eb, (X_ 15 (by decide)).hd⟩, no_NameTaken⟩
    isx1 := supsOk_one sps
    isx2 := isx_own (tab := supT) exs }
  have I_InvalidColumns := fun_mk (st := s_InvalidColumns) l_InvalidColumns c_InvalidColumns k_InvalidColumns
  have I_InvalidRow := fun_mk (st := s_InvalidRow) l_InvalidRow c_InvalidRow k_InvalidRow
  have I_InvalidBox := fun_mk (st := s_InvalidBox) l_InvalidBox c_InvalidBox k_InvalidBox
  have I_InvalidQuery := fun_mk (st := s_InvalidQuery) l_InvalidQuery c_InvalidQuery k_InvalidQuery
  have I_InvalidEvent := fun_mk (st := s_InvalidEvent) l_InvalidEvent c_InvalidEvent k_InvalidEvent
  have I_InvalidText := fun_mk (st := s_InvalidText) l_InvalidText c_InvalidText k_InvalidText
  have I_InvalidCommand := fun_mk (st := s_InvalidCommand) l_InvalidCommand c_InvalidCommand k_InvalidCommand
  have I_InvalidSyntax := fun_mk (st := s_InvalidSyntax) l_InvalidSyntax c_InvalidSyntax k_InvalidSyntax
  have I_InvalidName := fun_mk (st := s_InvalidName) l_InvalidName c_InvalidName k_InvalidName
  have I_InvalidNumber := fun_mk (st := s_InvalidNumber) l_InvalidNumber c_InvalidNumber k_InvalidNumber
  have I_UnknownStream := fun_mk (st := s_UnknownStream) l_UnknownStream c_UnknownStream k_UnknownStream
  have I_BrokenPromise := fun_mk (st := s_BrokenPromise) l_BrokenPromise c_BrokenPromise k_BrokenPromise
  have I_MixedUse := fun_mk (st := s_MixedUse) l_MixedUse c_MixedUse k_MixedUse
  have I_UnknownName := fun_mk (st := s_UnknownName) l_UnknownName c_UnknownName k_UnknownName
  have I_NameTaken := fun_mk (st := s_NameTaken) l_NameTaken c_NameTaken k_NameTaken
  have I_DamagedJournal := fun_mk (st := s_DamagedJournal) l_DamagedJournal c_DamagedJournal k_DamagedJournal
  have Q__law_pool := fun_mk (st := s__law_pool) l__law_pool c__law_pool k__law_pool
  have Q__law_take := fun_mk (st := s__law_take) l__law_take c__law_take k__law_take
  have Q__law_kinds := fun_mk (st := s__law_kinds) l__law_kinds c__law_kinds k__law_kinds
  have Q__law_bases := fun_mk (st := s__law_bases) l__law_bases c__law_bases k__law_bases
  have Q__law_made := fun_mk (st := s__law_made) l__law_made c__law_made k__law_made
  have Q__law_fields := fun_mk (st := s__law_fields) l__law_fields c__law_fields k__law_fields
  have Q_law := fun_mk (st := s_law) l_law c_law k_law
  refine ⟨PySem.W.fnOf "law" "law" (defArgs s_law) (defBody s_law) (defScope s_law) .none kV_law dc_law pm_law an_law cd_law ct_law, gOf C_StreamError C_InvalidColumns C_InvalidRow C_InvalidBox C_InvalidQuery C_InvalidEvent C_InvalidText C_InvalidCommand C_InvalidSyntax C_InvalidName C_InvalidNumber C_UnknownStream C_BrokenPromise C_MixedUse C_UnknownName C_NameTaken C_DamagedJournal, fun s v => .of_eq rfl, fun base _ _ => ?_⟩
  have M_InvalidColumns : XcD P w K mg base (gOf C_StreamError C_InvalidColumns C_InvalidRow C_InvalidBox C_InvalidQuery C_InvalidEvent C_InvalidText C_InvalidCommand C_InvalidSyntax C_InvalidName C_InvalidNumber C_UnknownStream C_BrokenPromise C_MixedUse C_UnknownName C_NameTaken C_DamagedJournal) 1 "InvalidColumns" "self" "value" f_InvalidColumns _ := ⟨⟨⟨_, _, _, _, _, _, _, _, _, _, _, _, _, _, _, _, x_InvalidColumns, PzR.Tail.cons (PzR.tail_VE)⟩, (X_ 1 (by decide)).sa, (X_ 1 (by decide)).ty, (X_ 1 (by decide)).kp⟩, i_InvalidColumns, ti_InvalidColumns, ok_initG I_InvalidColumns ⟨rfl, rfl, rfl, by decide +kernel, rfl, by decide +kernel, by decide +kernel⟩ rfl (by first | exact Or.inl rfl | exact Or.inr (Or.inl rfl)) (by first | exact Or.inl rfl | exact Or.inr (Or.inl rfl)) (by decide) (by decide) (by decide) (by decide), I_InvalidColumns.binds (ps := ["self", "value"]) (fun _ _ _ _ _ _ us hl => match us, hl with | [_, _], _ => rfl), ⟨fun s us ws _ h1 h2 => match us, ws, h1, h2 with | [_], [_], _, _ => .of_eq rfl, fun r1 r2 => r1.append r2⟩, PySem.W.mg_of X G0 a_InvalidColumns, no_InvalidColumns⟩
  have M_InvalidRow : XcD P w K mg base (gOf C_StreamError C_InvalidColumns C_InvalidRow C_InvalidBox C_InvalidQuery C_InvalidEvent C_InvalidText C_InvalidCommand C_InvalidSyntax C_InvalidName C_InvalidNumber C_UnknownStream C_BrokenPromise C_MixedUse C_UnknownName C_NameTaken C_DamagedJournal) 2 "InvalidRow" "self" "value" f_InvalidRow _ := ⟨⟨⟨_, _, _, _, _, _, _, _, _, _, _, _, _, _, _, _, x_InvalidRow, PzR.Tail.cons (PzR.tail_VE)⟩, (X_ 2 (by decide)).sa, (X_ 2 (by decide)).ty, (X_ 2 (by decide)).kp⟩, i_InvalidRow, ti_InvalidRow, ok_initG I_InvalidRow ⟨rfl, rfl, rfl, by decide +kernel, rfl, by decide +kernel, by decide +kernel⟩ rfl (by first | exact Or.inl rfl | exact Or.inr (Or.inl rfl)) (by first | exact Or.inl rfl | exact Or.inr (Or.inl rfl)) (by decide) (by decide) (by decide) (by decide), I_InvalidRow.binds (ps := ["self", "value"]) (fun _ _ _ _ _ _ us hl => match us, hl with | [_, _], _ => rfl), ⟨fun s us ws _ h1 h2 => match us, ws, h1, h2 with | [_], [_], _, _ => .of_eq rfl, fun r1 r2 => r1.append r2⟩, PySem.W.mg_of X G0 a_InvalidRow, no_InvalidRow⟩
  have M_InvalidBox : XcD P w K mg base (gOf C_StreamError C_InvalidColumns C_InvalidRow C_InvalidBox C_InvalidQuery C_InvalidEvent C_InvalidText C_InvalidCommand C_InvalidSyntax C_InvalidName C_InvalidNumber C_UnknownStream C_BrokenPromise C_MixedUse C_UnknownName C_NameTaken C_DamagedJournal) 3 "InvalidBox" "self" "value" f_InvalidBox _ := ⟨⟨⟨_, _, _, _, _, _, _, _, _, _, _, _, _, _, _, _, x_InvalidBox, PzR.Tail.cons (PzR.tail_VE)⟩, (X_ 3 (by decide)).sa, (X_ 3 (by decide)).ty, (X_ 3 (by decide)).kp⟩, i_InvalidBox, ti_InvalidBox, ok_initG I_InvalidBox ⟨rfl, rfl, rfl, by decide +kernel, rfl, by decide +kernel, by decide +kernel⟩ rfl (by first | exact Or.inl rfl | exact Or.inr (Or.inl rfl)) (by first | exact Or.inl rfl | exact Or.inr (Or.inl rfl)) (by decide) (by decide) (by decide) (by decide), I_InvalidBox.binds (ps := ["self", "value"]) (fun _ _ _ _ _ _ us hl => match us, hl with | [_, _], _ => rfl), ⟨fun s us ws _ h1 h2 => match us, ws, h1, h2 with | [_], [_], _, _ => .of_eq rfl, fun r1 r2 => r1.append r2⟩, PySem.W.mg_of X G0 a_InvalidBox, no_InvalidBox⟩
  have M_InvalidQuery : XcD P w K mg base (gOf C_StreamError C_InvalidColumns C_InvalidRow C_InvalidBox C_InvalidQuery C_InvalidEvent C_InvalidText C_InvalidCommand C_InvalidSyntax C_InvalidName C_InvalidNumber C_UnknownStream C_BrokenPromise C_MixedUse C_UnknownName C_NameTaken C_DamagedJournal) 4 "InvalidQuery" "self" "value" f_InvalidQuery _ := ⟨⟨⟨_, _, _, _, _, _, _, _, _, _, _, _, _, _, _, _, x_InvalidQuery, PzR.Tail.cons (PzR.tail_VE)⟩, (X_ 4 (by decide)).sa, (X_ 4 (by decide)).ty, (X_ 4 (by decide)).kp⟩, i_InvalidQuery, ti_InvalidQuery, ok_initG I_InvalidQuery ⟨rfl, rfl, rfl, by decide +kernel, rfl, by decide +kernel, by decide +kernel⟩ rfl (by first | exact Or.inl rfl | exact Or.inr (Or.inl rfl)) (by first | exact Or.inl rfl | exact Or.inr (Or.inl rfl)) (by decide) (by decide) (by decide) (by decide), I_InvalidQuery.binds (ps := ["self", "value"]) (fun _ _ _ _ _ _ us hl => match us, hl with | [_, _], _ => rfl), ⟨fun s us ws _ h1 h2 => match us, ws, h1, h2 with | [_], [_], _, _ => .of_eq rfl, fun r1 r2 => r1.append r2⟩, PySem.W.mg_of X G0 a_InvalidQuery, no_InvalidQuery⟩
  have M_InvalidEvent : XcD P w K mg base (gOf C_StreamError C_InvalidColumns C_InvalidRow C_InvalidBox C_InvalidQuery C_InvalidEvent C_InvalidText C_InvalidCommand C_InvalidSyntax C_InvalidName C_InvalidNumber C_UnknownStream C_BrokenPromise C_MixedUse C_UnknownName C_NameTaken C_DamagedJournal) 5 "InvalidEvent" "self" "value" f_InvalidEvent _ := ⟨⟨⟨_, _, _, _, _, _, _, _, _, _, _, _, _, _, _, _, x_InvalidEvent, PzR.Tail.cons (PzR.tail_VE)⟩, (X_ 5 (by decide)).sa, (X_ 5 (by decide)).ty, (X_ 5 (by decide)).kp⟩, i_InvalidEvent, ti_InvalidEvent, ok_initG I_InvalidEvent ⟨rfl, rfl, rfl, by decide +kernel, rfl, by decide +kernel, by decide +kernel⟩ rfl (by first | exact Or.inl rfl | exact Or.inr (Or.inl rfl)) (by first | exact Or.inl rfl | exact Or.inr (Or.inl rfl)) (by decide) (by decide) (by decide) (by decide), I_InvalidEvent.binds (ps := ["self", "value"]) (fun _ _ _ _ _ _ us hl => match us, hl with | [_, _], _ => rfl), ⟨fun s us ws _ h1 h2 => match us, ws, h1, h2 with | [_], [_], _, _ => .of_eq rfl, fun r1 r2 => r1.append r2⟩, PySem.W.mg_of X G0 a_InvalidEvent, no_InvalidEvent⟩
  have M_InvalidText : XcD P w K mg base (gOf C_StreamError C_InvalidColumns C_InvalidRow C_InvalidBox C_InvalidQuery C_InvalidEvent C_InvalidText C_InvalidCommand C_InvalidSyntax C_InvalidName C_InvalidNumber C_UnknownStream C_BrokenPromise C_MixedUse C_UnknownName C_NameTaken C_DamagedJournal) 6 "InvalidText" "self" "value" f_InvalidText _ := ⟨⟨⟨_, _, _, _, _, _, _, _, _, _, _, _, _, _, _, _, x_InvalidText, PzR.Tail.cons (PzR.tail_VE)⟩, (X_ 6 (by decide)).sa, (X_ 6 (by decide)).ty, (X_ 6 (by decide)).kp⟩, i_InvalidText, ti_InvalidText, ok_initG I_InvalidText ⟨rfl, rfl, rfl, by decide +kernel, rfl, by decide +kernel, by decide +kernel⟩ rfl (by first | exact Or.inl rfl | exact Or.inr (Or.inl rfl)) (by first | exact Or.inl rfl | exact Or.inr (Or.inl rfl)) (by decide) (by decide) (by decide) (by decide), I_InvalidText.binds (ps := ["self", "value"]) (fun _ _ _ _ _ _ us hl => match us, hl with | [_, _], _ => rfl), ⟨fun s us ws _ h1 h2 => match us, ws, h1, h2 with | [_], [_], _, _ => .of_eq rfl, fun r1 r2 => r1.append r2⟩, PySem.W.mg_of X G0 a_InvalidText, no_InvalidText⟩
  have M_InvalidCommand : XcD P w K mg base (gOf C_StreamError C_InvalidColumns C_InvalidRow C_InvalidBox C_InvalidQuery C_InvalidEvent C_InvalidText C_InvalidCommand C_InvalidSyntax C_InvalidName C_InvalidNumber C_UnknownStream C_BrokenPromise C_MixedUse C_UnknownName C_NameTaken C_DamagedJournal) 7 "InvalidCommand" "self" "word" f_InvalidCommand _ := ⟨⟨⟨_, _, _, _, _, _, _, _, _, _, _, _, _, _, _, _, x_InvalidCommand, PzR.Tail.cons (PzR.tail_VE)⟩, (X_ 7 (by decide)).sa, (X_ 7 (by decide)).ty, (X_ 7 (by decide)).kp⟩, i_InvalidCommand, ti_InvalidCommand, ok_initG I_InvalidCommand ⟨rfl, rfl, rfl, by decide +kernel, rfl, by decide +kernel, by decide +kernel⟩ rfl (by first | exact Or.inl rfl | exact Or.inr (Or.inl rfl)) (by first | exact Or.inl rfl | exact Or.inr (Or.inl rfl)) (by decide) (by decide) (by decide) (by decide), I_InvalidCommand.binds (ps := ["self", "word"]) (fun _ _ _ _ _ _ us hl => match us, hl with | [_, _], _ => rfl), ⟨fun s us ws _ h1 h2 => match us, ws, h1, h2 with | [_], [_], _, _ => .of_eq rfl, fun r1 r2 => r1.append r2⟩, PySem.W.mg_of X G0 a_InvalidCommand, no_InvalidCommand⟩
  have M_InvalidSyntax : XcD P w K mg base (gOf C_StreamError C_InvalidColumns C_InvalidRow C_InvalidBox C_InvalidQuery C_InvalidEvent C_InvalidText C_InvalidCommand C_InvalidSyntax C_InvalidName C_InvalidNumber C_UnknownStream C_BrokenPromise C_MixedUse C_UnknownName C_NameTaken C_DamagedJournal) 8 "InvalidSyntax" "self" "position" f_InvalidSyntax _ := ⟨⟨⟨_, _, _, _, _, _, _, _, _, _, _, _, _, _, _, _, x_InvalidSyntax, PzR.Tail.cons (PzR.tail_VE)⟩, (X_ 8 (by decide)).sa, (X_ 8 (by decide)).ty, (X_ 8 (by decide)).kp⟩, i_InvalidSyntax, ti_InvalidSyntax, ok_initG I_InvalidSyntax ⟨rfl, rfl, rfl, by decide +kernel, rfl, by decide +kernel, by decide +kernel⟩ rfl (by first | exact Or.inl rfl | exact Or.inr (Or.inl rfl)) (by first | exact Or.inl rfl | exact Or.inr (Or.inl rfl)) (by decide) (by decide) (by decide) (by decide), I_InvalidSyntax.binds (ps := ["self", "position"]) (fun _ _ _ _ _ _ us hl => match us, hl with | [_, _], _ => rfl), ⟨fun s us ws _ h1 h2 => match us, ws, h1, h2 with | [_], [_], _, _ => .of_eq rfl, fun r1 r2 => r1.append r2⟩, PySem.W.mg_of X G0 a_InvalidSyntax, no_InvalidSyntax⟩
  have M_InvalidName : XcD P w K mg base (gOf C_StreamError C_InvalidColumns C_InvalidRow C_InvalidBox C_InvalidQuery C_InvalidEvent C_InvalidText C_InvalidCommand C_InvalidSyntax C_InvalidName C_InvalidNumber C_UnknownStream C_BrokenPromise C_MixedUse C_UnknownName C_NameTaken C_DamagedJournal) 9 "InvalidName" "self" "value" f_InvalidName _ := ⟨⟨⟨_, _, _, _, _, _, _, _, _, _, _, _, _, _, _, _, x_InvalidName, PzR.Tail.cons (PzR.tail_VE)⟩, (X_ 9 (by decide)).sa, (X_ 9 (by decide)).ty, (X_ 9 (by decide)).kp⟩, i_InvalidName, ti_InvalidName, ok_initG I_InvalidName ⟨rfl, rfl, rfl, by decide +kernel, rfl, by decide +kernel, by decide +kernel⟩ rfl (by first | exact Or.inl rfl | exact Or.inr (Or.inl rfl)) (by first | exact Or.inl rfl | exact Or.inr (Or.inl rfl)) (by decide) (by decide) (by decide) (by decide), I_InvalidName.binds (ps := ["self", "value"]) (fun _ _ _ _ _ _ us hl => match us, hl with | [_, _], _ => rfl), ⟨fun s us ws _ h1 h2 => match us, ws, h1, h2 with | [_], [_], _, _ => .of_eq rfl, fun r1 r2 => r1.append r2⟩, PySem.W.mg_of X G0 a_InvalidName, no_InvalidName⟩
  have M_InvalidNumber : XcD P w K mg base (gOf C_StreamError C_InvalidColumns C_InvalidRow C_InvalidBox C_InvalidQuery C_InvalidEvent C_InvalidText C_InvalidCommand C_InvalidSyntax C_InvalidName C_InvalidNumber C_UnknownStream C_BrokenPromise C_MixedUse C_UnknownName C_NameTaken C_DamagedJournal) 10 "InvalidNumber" "self" "value" f_InvalidNumber _ := ⟨⟨⟨_, _, _, _, _, _, _, _, _, _, _, _, _, _, _, _, x_InvalidNumber, PzR.Tail.cons (PzR.tail_VE)⟩, (X_ 10 (by decide)).sa, (X_ 10 (by decide)).ty, (X_ 10 (by decide)).kp⟩, i_InvalidNumber, ti_InvalidNumber, ok_initG I_InvalidNumber ⟨rfl, rfl, rfl, by decide +kernel, rfl, by decide +kernel, by decide +kernel⟩ rfl (by first | exact Or.inl rfl | exact Or.inr (Or.inl rfl)) (by first | exact Or.inl rfl | exact Or.inr (Or.inl rfl)) (by decide) (by decide) (by decide) (by decide), I_InvalidNumber.binds (ps := ["self", "value"]) (fun _ _ _ _ _ _ us hl => match us, hl with | [_, _], _ => rfl), ⟨fun s us ws _ h1 h2 => match us, ws, h1, h2 with | [_], [_], _, _ => .of_eq rfl, fun r1 r2 => r1.append r2⟩, PySem.W.mg_of X G0 a_InvalidNumber, no_InvalidNumber⟩
  have M_UnknownStream : XcD P w K mg base (gOf C_StreamError C_InvalidColumns C_InvalidRow C_InvalidBox C_InvalidQuery C_InvalidEvent C_InvalidText C_InvalidCommand C_InvalidSyntax C_InvalidName C_InvalidNumber C_UnknownStream C_BrokenPromise C_MixedUse C_UnknownName C_NameTaken C_DamagedJournal) 11 "UnknownStream" "self" "stream" f_UnknownStream _ := ⟨⟨⟨_, _, _, _, _, _, _, _, _, _, _, _, _, _, _, _, x_UnknownStream, PzR.tail_KE⟩, (X_ 11 (by decide)).sa, (X_ 11 (by decide)).ty, (X_ 11 (by decide)).kp⟩, i_UnknownStream, ti_UnknownStream, ok_initG I_UnknownStream ⟨rfl, rfl, rfl, by decide +kernel, rfl, by decide +kernel, by decide +kernel⟩ rfl (by first | exact Or.inl rfl | exact Or.inr (Or.inl rfl)) (by first | exact Or.inl rfl | exact Or.inr (Or.inl rfl)) (by decide) (by decide) (by decide) (by decide), I_UnknownStream.binds (ps := ["self", "stream"]) (fun _ _ _ _ _ _ us hl => match us, hl with | [_, _], _ => rfl), ⟨fun s us ws _ h1 h2 => match us, ws, h1, h2 with | [_], [_], _, _ => .of_eq rfl, fun r1 r2 => r1.append r2⟩, PySem.W.mg_of X G0 a_UnknownStream, no_UnknownStream⟩
  have M_BrokenPromise : XcD P w K mg base (gOf C_StreamError C_InvalidColumns C_InvalidRow C_InvalidBox C_InvalidQuery C_InvalidEvent C_InvalidText C_InvalidCommand C_InvalidSyntax C_InvalidName C_InvalidNumber C_UnknownStream C_BrokenPromise C_MixedUse C_UnknownName C_NameTaken C_DamagedJournal) 12 "BrokenPromise" "self" "index" f_BrokenPromise _ := ⟨⟨⟨_, _, _, _, _, _, _, _, _, _, _, _, _, _, _, _, x_BrokenPromise, PzR.tail_RE⟩, (X_ 12 (by decide)).sa, (X_ 12 (by decide)).ty, (X_ 12 (by decide)).kp⟩, i_BrokenPromise, ti_BrokenPromise, ok_initG I_BrokenPromise ⟨rfl, rfl, rfl, by decide +kernel, rfl, by decide +kernel, by decide +kernel⟩ rfl (by first | exact Or.inl rfl | exact Or.inr (Or.inl rfl)) (by first | exact Or.inl rfl | exact Or.inr (Or.inl rfl)) (by decide) (by decide) (by decide) (by decide), I_BrokenPromise.binds (ps := ["self", "index"]) (fun _ _ _ _ _ _ us hl => match us, hl with | [_, _], _ => rfl), ⟨fun s us ws _ h1 h2 => match us, ws, h1, h2 with | [_], [_], _, _ => .of_eq rfl, fun r1 r2 => r1.append r2⟩, PySem.W.mg_of X G0 a_BrokenPromise, no_BrokenPromise⟩
  have M_MixedUse : XcD P w K mg base (gOf C_StreamError C_InvalidColumns C_InvalidRow C_InvalidBox C_InvalidQuery C_InvalidEvent C_InvalidText C_InvalidCommand C_InvalidSyntax C_InvalidName C_InvalidNumber C_UnknownStream C_BrokenPromise C_MixedUse C_UnknownName C_NameTaken C_DamagedJournal) 13 "MixedUse" "self" "stream" f_MixedUse _ := ⟨⟨⟨_, _, _, _, _, _, _, _, _, _, _, _, _, _, _, _, x_MixedUse, PzR.tail_RE⟩, (X_ 13 (by decide)).sa, (X_ 13 (by decide)).ty, (X_ 13 (by decide)).kp⟩, i_MixedUse, ti_MixedUse, ok_initG I_MixedUse ⟨rfl, rfl, rfl, by decide +kernel, rfl, by decide +kernel, by decide +kernel⟩ rfl (by first | exact Or.inl rfl | exact Or.inr (Or.inl rfl)) (by first | exact Or.inl rfl | exact Or.inr (Or.inl rfl)) (by decide) (by decide) (by decide) (by decide), I_MixedUse.binds (ps := ["self", "stream"]) (fun _ _ _ _ _ _ us hl => match us, hl with | [_, _], _ => rfl), ⟨fun s us ws _ h1 h2 => match us, ws, h1, h2 with | [_], [_], _, _ => .of_eq rfl, fun r1 r2 => r1.append r2⟩, PySem.W.mg_of X G0 a_MixedUse, no_MixedUse⟩
  have M_UnknownName : XcD P w K mg base (gOf C_StreamError C_InvalidColumns C_InvalidRow C_InvalidBox C_InvalidQuery C_InvalidEvent C_InvalidText C_InvalidCommand C_InvalidSyntax C_InvalidName C_InvalidNumber C_UnknownStream C_BrokenPromise C_MixedUse C_UnknownName C_NameTaken C_DamagedJournal) 14 "UnknownName" "self" "word" f_UnknownName _ := ⟨⟨⟨_, _, _, _, _, _, _, _, _, _, _, _, _, _, _, _, x_UnknownName, PzR.tail_KE⟩, (X_ 14 (by decide)).sa, (X_ 14 (by decide)).ty, (X_ 14 (by decide)).kp⟩, i_UnknownName, ti_UnknownName, ok_initG I_UnknownName ⟨rfl, rfl, rfl, by decide +kernel, rfl, by decide +kernel, by decide +kernel⟩ rfl (by first | exact Or.inl rfl | exact Or.inr (Or.inl rfl)) (by first | exact Or.inl rfl | exact Or.inr (Or.inl rfl)) (by decide) (by decide) (by decide) (by decide), I_UnknownName.binds (ps := ["self", "word"]) (fun _ _ _ _ _ _ us hl => match us, hl with | [_, _], _ => rfl), ⟨fun s us ws _ h1 h2 => match us, ws, h1, h2 with | [_], [_], _, _ => .of_eq rfl, fun r1 r2 => r1.append r2⟩, PySem.W.mg_of X G0 a_UnknownName, no_UnknownName⟩
  have M_NameTaken : XcD P w K mg base (gOf C_StreamError C_InvalidColumns C_InvalidRow C_InvalidBox C_InvalidQuery C_InvalidEvent C_InvalidText C_InvalidCommand C_InvalidSyntax C_InvalidName C_InvalidNumber C_UnknownStream C_BrokenPromise C_MixedUse C_UnknownName C_NameTaken C_DamagedJournal) 15 "NameTaken" "self" "word" f_NameTaken _ := ⟨⟨⟨_, _, _, _, _, _, _, _, _, _, _, _, _, _, _, _, x_NameTaken, PzR.tail_RE⟩, (X_ 15 (by decide)).sa, (X_ 15 (by decide)).ty, (X_ 15 (by decide)).kp⟩, i_NameTaken, ti_NameTaken, ok_initG I_NameTaken ⟨rfl, rfl, rfl, by decide +kernel, rfl, by decide +kernel, by decide +kernel⟩ rfl (by first | exact Or.inl rfl | exact Or.inr (Or.inl rfl)) (by first | exact Or.inl rfl | exact Or.inr (Or.inl rfl)) (by decide) (by decide) (by decide) (by decide), I_NameTaken.binds (ps := ["self", "word"]) (fun _ _ _ _ _ _ us hl => match us, hl with | [_, _], _ => rfl), ⟨fun s us ws _ h1 h2 => match us, ws, h1, h2 with | [_], [_], _, _ => .of_eq rfl, fun r1 r2 => r1.append r2⟩, PySem.W.mg_of X G0 a_NameTaken, no_NameTaken⟩
  have M_DamagedJournal : XcD P w K mg base (gOf C_StreamError C_InvalidColumns C_InvalidRow C_InvalidBox C_InvalidQuery C_InvalidEvent C_InvalidText C_InvalidCommand C_InvalidSyntax C_InvalidName C_InvalidNumber C_UnknownStream C_BrokenPromise C_MixedUse C_UnknownName C_NameTaken C_DamagedJournal) 16 "DamagedJournal" "self" "line" f_DamagedJournal _ := ⟨⟨⟨_, _, _, _, _, _, _, _, _, _, _, _, _, _, _, _, x_DamagedJournal, PzR.tail_RE⟩, (X_ 16 (by decide)).sa, (X_ 16 (by decide)).ty, (X_ 16 (by decide)).kp⟩, i_DamagedJournal, ti_DamagedJournal, ok_initG I_DamagedJournal ⟨rfl, rfl, rfl, by decide +kernel, rfl, by decide +kernel, by decide +kernel⟩ rfl (by first | exact Or.inl rfl | exact Or.inr (Or.inl rfl)) (by first | exact Or.inl rfl | exact Or.inr (Or.inl rfl)) (by decide) (by decide) (by decide) (by decide), I_DamagedJournal.binds (ps := ["self", "line"]) (fun _ _ _ _ _ _ us hl => match us, hl with | [_, _], _ => rfl), ⟨fun s us ws _ h1 h2 => match us, ws, h1, h2 with | [_], [_], _, _ => .of_eq rfl, fun r1 r2 => r1.append r2⟩, PySem.W.mg_of X G0 a_DamagedJournal, no_DamagedJournal⟩
  have D__law_pool : DefA K mg "_law_pool" f__law_pool _ ["_law_script", "_law_k"] := ⟨PySem.W.mg_of X G0 a__law_pool, k__law_pool, Q__law_pool.binds (ps := ["_law_script", "_law_k"]) fun _ _ _ _ _ _ us hl => match us, hl with | [_, _], _ => rfl⟩
  have D__law_take : DefA K mg "_law_take" f__law_take _ ["_law_pool_here", "_law_wide"] := ⟨PySem.W.mg_of X G0 a__law_take, k__law_take, Q__law_take.binds (ps := ["_law_pool_here", "_law_wide"]) fun _ _ _ _ _ _ us hl => match us, hl with | [_, _], _ => rfl⟩
  have D__law_kinds : DefA K mg "_law_kinds" f__law_kinds _ ["_law_e"] := ⟨PySem.W.mg_of X G0 a__law_kinds, k__law_kinds, Q__law_kinds.binds (ps := ["_law_e"]) fun _ _ _ _ _ _ us hl => match us, hl with | [_], _ => rfl⟩
  have D__law_bases : DefA K mg "_law_bases" f__law_bases _ ["_law_e"] := ⟨PySem.W.mg_of X G0 a__law_bases, k__law_bases, Q__law_bases.binds (ps := ["_law_e"]) fun _ _ _ _ _ _ us hl => match us, hl with | [_], _ => rfl⟩
  have D__law_made : DefA K mg "_law_made" f__law_made _ ["_law_thing"] := ⟨PySem.W.mg_of X G0 a__law_made, k__law_made, Q__law_made.binds (ps := ["_law_thing"]) fun _ _ _ _ _ _ us hl => match us, hl with | [_], _ => rfl⟩
  have D__law_fields : DefA K mg "_law_fields" f__law_fields _ ["_law_thing", "_law_some"] := ⟨PySem.W.mg_of X G0 a__law_fields, k__law_fields, Q__law_fields.binds (ps := ["_law_thing", "_law_some"]) fun _ _ _ _ _ _ us hl => match us, hl with | [_, _], _ => rfl⟩
  have g__law_pool := ok__law_pool (w := w) (P := P) (base := base) T Q__law_pool 
  have g__law_take := ok__law_take (w := w) (P := P) (base := base) T Q__law_take 
  have g__law_kinds := ok__law_kinds (w := w) (P := P) (base := base) T Q__law_kinds 
  have g__law_bases := ok__law_bases (w := w) (P := P) (base := base) T Q__law_bases 
  have g__law_made := ok__law_made (w := w) (P := P) (base := base) T Q__law_made M_InvalidColumns M_InvalidRow M_InvalidBox M_InvalidQuery M_InvalidEvent M_InvalidText M_InvalidCommand M_InvalidSyntax M_InvalidName M_InvalidNumber M_UnknownStream M_UnknownName M_BrokenPromise M_MixedUse M_NameTaken M_DamagedJournal
  have g__law_fields := ok__law_fields (w := w) (P := P) (base := base) T Q__law_fields M_InvalidColumns M_InvalidRow M_InvalidBox M_InvalidQuery M_InvalidEvent M_InvalidText M_InvalidCommand M_InvalidSyntax M_InvalidName M_InvalidNumber M_UnknownStream M_UnknownName M_BrokenPromise M_MixedUse M_NameTaken M_DamagedJournal
  exact ok_law T Q_law D__law_pool g__law_pool D__law_take g__law_take D__law_made g__law_made D__law_kinds g__law_kinds D__law_bases g__law_bases D__law_fields g__law_fields
end
end Kx

set_option Elab.async false
set_option linter.all false
set_option maxRecDepth 100000
set_option maxHeartbeats 1000000
namespace Kx
open PySem PySem.Spec L2 Pz
theorem atI0 {α : Type} (a b : α) : atI [a, b] 0 = some a := rfl
theorem atI1 {α : Type} (a b : α) : atI [a, b] 1 = some b := rfl
theorem ix0 : ixN 2 0 = some 0 := rfl
theorem ix1 : ixN 2 1 = some 1 := rfl
/-- the pool, one draw -/
def draw (p : Int × Int) (w : Int) : Int × (Int × Int) := if p.1 > 0 then (p.1 % w, (p.1 / w, p.2)) else
  let y := (p.2 * 48271 + 12345) % 2147483647
  (y * y % 2147483629 / 64 % w, (p.1, y))
def poolO (p : Int × Int) : SO := .lst [.int p.1, .int p.2]
theorem small_mod (y : Int) : smallI ((y * 48271 + 12345) % 2147483647) = true := by
  unfold smallI
  have h1 := Int.emod_nonneg (y * 48271 + 12345) (b := 2147483647) (by decide)
  have h2 := Int.emod_lt_of_pos (y * 48271 + 12345) (b := 2147483647) (by decide)
  simp only [decide_eq_true_eq]; omega
theorem take_is {h : Hs} {a : Nat} {p : Int × Int} {w : Int} (hp : h[a]? = some (poolO p)) (hw : 0 < w ∧ w < 1073741824) : F__law_take [.ref a, .int w] h = .ok (.int (draw p w).1) (h.set a (poolO (draw p w).2)) := by
  obtain ⟨x, y⟩ := p
  have ha : a < h.length := (List.getElem?_eq_some_iff.mp hp).1
  have s1 : smallI 48271 = true := by decide
  have s2 := small_mod y
  have gs : ∀ o, (h.set a o)[a]? = some o := fun o => List.getElem?_set_self ha
  unfold poolO at hp
  by_cases hx : x > 0
  · have e : b__law_take (startS 3 [.ref a, .int w]) h = .rt (.int (x % w)) (h.set a (.lst [.int (x / w), .int y])) := by
      simp [b__law_take, r__law_take_0, r__law_take_0_a_0, r__law_take_0_a_1, r__law_take_0_a_2, r__law_take_1, r__law_take_2, startS, sSeq, sIf, sAsg, sSetIx, sRet, rTB, rB, rVar, rC, oIx, oGt, oMod, oDiv, oSetIx, gNm, hp, hx, hw.1, hw.2, atI0, ix0, Out.bnd, Out.st, OS.seq]
    have : F__law_take [.ref a, .int w] h = .ok (.int (x % w)) (h.set a (.lst [.int (x / w), .int y])) := by
      unfold F__law_take mkF
      rw [if_neg (by simp [SV.mxs, SV.mx]), e]
      show Out.ok _ (gcV _ _ _) = _
      rw [gcV_same (by simp)]
    rw [this]; unfold draw; rw [if_pos hx]; rfl
  · have e : b__law_take (startS 3 [.ref a, .int w]) h = .rt (.int ((y * 48271 + 12345) % 2147483647 * ((y * 48271 + 12345) % 2147483647) % 2147483629 / 64 % w)) (h.set a (.lst [.int x, .int ((y * 48271 + 12345) % 2147483647)])) := by
      simp [b__law_take, r__law_take_0, r__law_take_0_a_0, r__law_take_0_a_1, r__law_take_0_a_2, r__law_take_1, r__law_take_2, startS, sSeq, sIf, sAsg, sSetIx, sRet, rTB, rB, rVar, rC, oIx, oGt, oMod, oDiv, oMul, oAdd, oSetIx, gNm, sNil, hp, hx, hw.1, hw.2, atI0, atI1, ix0, ix1, Out.bnd, Out.st, OS.seq, s1, s2, gs]
    have : F__law_take [.ref a, .int w] h = .ok (.int ((y * 48271 + 12345) % 2147483647 * ((y * 48271 + 12345) % 2147483647) % 2147483629 / 64 % w)) (h.set a (.lst [.int x, .int ((y * 48271 + 12345) % 2147483647)])) := by
      unfold F__law_take mkF
      rw [if_neg (by simp [SV.mxs, SV.mx]), e]
      show Out.ok _ (gcV _ _ _) = _
      rw [gcV_same (by simp)]
    rw [this]; unfold draw; rw [if_neg hx]; rfl
def cellN (ns : List Int) (k : Nat) : Int := if k < ns.length then ns.getD k 0 else 0
def absI (i : Int) : Int := if i < 0 then -i else i
def blend (c : Int) (k : Nat) : Int := (c % 2147483629 + 104729 * ((k : Int) + 1)) * ((k : Int) + 7) % 2147483629
theorem blend_small (c : Int) (k : Nat) : smallI (blend c k) = true := by
  unfold smallI blend
  have h1 := Int.emod_nonneg ((c % 2147483629 + 104729 * ((k : Int) + 1)) * ((k : Int) + 7)) (b := 2147483629) (by decide)
  have h2 := Int.emod_lt_of_pos ((c % 2147483629 + 104729 * ((k : Int) + 1)) * ((k : Int) + 7)) (b := 2147483629) (by decide)
  simp only [decide_eq_true_eq]; omega
theorem atI_scr {ns : List Int} {k : Nat} (hk : k < ns.length) : atI ns (k : Int) = some (ns.getD k 0) := by
  unfold atI ixN
  rw [if_pos (by omega), if_pos (by omega)]
  simp [hk]
section
variable {a b c d e f : Option SV} {h : Hs}
theorem pl0 : r__law_pool_0 [a, b, c, d, e, f] h = .nx [a, b, some (.int 0), d, e, f] h := rfl
theorem pl1 {ns : List Int} {k : Nat} {v : Int} (hc : (k < ns.length ∧ atI ns (k : Int) = some v) ∨ (¬ k < ns.length ∧ v = 0)) : r__law_pool_1 [some (.scr ns), some (.int k), some (.int 0), d, e, f] h = .nx [some (.scr ns), some (.int k), some (.int v), d, e, f] h := by
  rcases hc with ⟨hl, q⟩ | ⟨hl, rfl⟩
  · have hl' : (k : Int) < ns.length := by omega
    simp [r__law_pool_1, r__law_pool_1_a_0, sIf, sAsg, rTB, rB, rVar, rF, bLen2, bLen, oIx, oLt, gNm, lCons, lNil, Out.bnd, Out.st, hl, hl', q]
  · have hl' : ¬ (k : Int) < ns.length := by omega
    simp [r__law_pool_1, r__law_pool_1_a_0, sIf, sNil, rTB, rB, rVar, rF, bLen2, bLen, oIx, oLt, lCons, lNil, Out.bnd, Out.st, hl, hl']
theorem pl2 {v : Int} : r__law_pool_2 [a, b, some (.int v), d, e, f] h = .nx [a, b, some (.int v), some (.int (absI v)), e, f] h := rfl
theorem pl3 {v : Int} {k : Nat} (hk : k < 100) : r__law_pool_3 [a, some (.int k), some (.int v), d, e, f] h = .nx [a, some (.int k), some (.int v), d, some (.int (blend v k)), f] h := by
  have s1 : smallI 104729 = true := by decide
  have s2 : smallI ((k : Int) + 7) = true := by unfold smallI; simp only [decide_eq_true_eq]; omega
  simp [r__law_pool_3, sAsg, rB, rVar, rC, oMod, oMul, oAdd, gNm, Out.bnd, Out.st, s1, s2, blend]
theorem pl4 {v : Int} (hv : smallI v = true) : r__law_pool_4 [a, b, c, d, some (.int v), f] h = .nx [a, b, c, d, some (.int v), some (.int (v * v % 2147483629 * 48271 % 2147483647))] h := by
  have s4 : smallI 48271 = true := by decide
  simp [r__law_pool_4, sAsg, rB, rVar, rC, oMod, oMul, gNm, Out.bnd, Out.st, s4, hv]
def big18 (v : Int) : Int := if (10 : Int) ^ (18 : Nat) ≤ v then 1 else 0
theorem pl5 {v u : Int} : r__law_pool_5 [a, b, c, some (.int v), e, some (.int u)] h = .rt (.ref h.length) (h ++ [.lst [.int (v * big18 v), .int u]]) := by
  have s : smallI (big18 v) = true := by unfold big18; split <;> decide
  have q : (rF bInt (lCons (rB oGe (rVar 3) (rB oPow (rC (.int 10)) (rC (.int 18)))) lNil)) [a, b, c, some (.int v), e, some (.int u)] h = .ok (.int (big18 v)) h := by
    unfold big18
    by_cases hb : (10 : Int) ^ (18 : Nat) ≤ v
    · rw [if_pos hb]
      show (Out.ok (SV.int (if decide ((10 : Int) ^ (18 : Nat) ≤ v) = true then 1 else 0)) h) = _
      rw [if_pos (decide_eq_true hb)]
    · rw [if_neg hb]
      show (Out.ok (SV.int (if decide ((10 : Int) ^ (18 : Nat) ≤ v) = true then 1 else 0)) h) = _
      rw [if_neg (by simpa using hb)]
  have q2 : (rB oMul (rVar 3) (rF bInt (lCons (rB oGe (rVar 3) (rB oPow (rC (.int 10)) (rC (.int 18)))) lNil))) [a, b, c, some (.int v), e, some (.int u)] h = .ok (.int (v * big18 v)) h := by
    show ((rF bInt (lCons (rB oGe (rVar 3) (rB oPow (rC (.int 10)) (rC (.int 18)))) lNil)) [a, b, c, some (.int v), e, some (.int u)] h).bnd (fun b h => oMul (.int v) b h) = _
    rw [q]
    show oMul (.int v) (.int (big18 v)) h = _
    unfold oMul
    simp only [s, Bool.or_true, if_true]
  exact e_ret (e_lst (e_cons q2 (e_cons (e_var rfl) e_nil)) (show 2 ≤ 1000000 by decide))
end
def pool0 (c : Int) (k : Nat) : Int × Int := (absI c * big18 (absI c), blend c k * blend c k % 2147483629 * 48271 % 2147483647)
theorem poolC {ns : List Int} {k : Nat} {c : Int} (hk : k < 100) (hc : (k < ns.length ∧ atI ns (k : Int) = some c) ∨ (¬ k < ns.length ∧ c = 0)) (h : Hs) : b__law_pool (startS 6 [.scr ns, .int k]) h = .rt (.ref h.length) (h ++ [poolO (pool0 c k)]) := by
  have e : startS 6 [.scr ns, .int k] = [some (.scr ns), some (.int k), none, none, none, none] := rfl
  rw [e]
  unfold b__law_pool
  simp only [sSeq, pl0, OS.seq_nx, pl1 hc, pl2, pl3 hk, pl4 (blend_small c k), pl5]
  rfl
theorem pool_is {ns : List Int} {k : Nat} {c : Int} (hk : k < 100) (hc : (k < ns.length ∧ atI ns (k : Int) = some c) ∨ (¬ k < ns.length ∧ c = 0)) (h : Hs) : F__law_pool [.scr ns, .int k] h = .ok (.ref h.length) (h ++ [poolO (pool0 c k)]) := by
  have f : ∀ h, finF h (b__law_pool (startS 6 [.scr ns, .int k]) h) = .ok (.ref h.length) (h ++ [poolO (pool0 c k)]) := fun h => by
    rw [poolC hk hc]
    show Out.ok _ (gcV h (h.length + 1) _) = _
    rw [gcV_up (by omega)]
  unfold F__law_pool mkF
  rw [if_pos (by simp [SV.mxs, SV.mx]), f []]
  exact f h
/-- the pool's numbers are not negative -/
def PoolOk (p : Int × Int) : Prop := 0 ≤ p.1 ∧ 0 ≤ p.2
theorem pool0_ok (c : Int) (k : Nat) : PoolOk (pool0 c k) := by
  refine ⟨Int.mul_nonneg ?_ ?_, Int.emod_nonneg _ (by decide)⟩
  · unfold absI; split <;> omega
  · unfold big18; split <;> decide
theorem draw_ok {p : Int × Int} {w : Int} (hp : PoolOk p) (hw : 0 < w) : PoolOk (draw p w).2 ∧ 0 ≤ (draw p w).1 ∧ (draw p w).1 < w := by
  unfold draw
  split
  · exact ⟨⟨Int.ediv_nonneg hp.1 (by omega), hp.2⟩, Int.emod_nonneg _ (by omega), Int.emod_lt_of_pos _ hw⟩
  · exact ⟨⟨hp.1, Int.emod_nonneg _ (by decide)⟩, Int.emod_nonneg _ (by omega), Int.emod_lt_of_pos _ hw⟩
end Kx

set_option Elab.async false
set_option linter.all false
set_option maxRecDepth 100000
set_option maxHeartbeats 1000000
namespace Kx
open PySem PySem.Spec L2 Pz
/-! ### repr: the heap may grow -/
theorem toD_app : ∀ (n : Nat) (h x : Hs) (v : SV) (d : PyData), toD n h v = some d → toD n (h ++ x) v = some d
  | 0, _, _, _, _, e => by simp [toD] at e
  | n + 1, h, x, v, d, e => by
    have all : ∀ (ys : List SV) (ds : List PyData), ys.mapM (toD n h) = some ds → ys.mapM (toD n (h ++ x)) = some ds := by
      intro ys
      induction ys with
      | nil => intro ds e; exact e
      | cons y ys ih =>
        intro ds e
        rw [List.mapM_cons] at e ⊢
        cases e1 : toD n h y with
        | none => rw [e1] at e; simp at e
        | some d1 =>
          cases e2 : ys.mapM (toD n h) with
          | none => rw [e1, e2] at e; simp at e
          | some d2 =>
            rw [e1, e2] at e
            rw [toD_app n h x y d1 e1, ih d2 e2]; exact e
    cases v with
    | tup ys =>
      simp only [toD, Option.map_eq_some_iff] at e ⊢
      obtain ⟨ds, e1, e2⟩ := e
      exact ⟨ds, all ys ds e1, e2⟩
    | ref a =>
      simp only [toD] at e ⊢
      split at e
      · rename_i ys e0
        have hl := (List.getElem?_eq_some_iff.mp e0).1
        rw [List.getElem?_append_left hl, e0]
        simp only [Option.map_eq_some_iff] at e ⊢
        obtain ⟨ds, e1, e2⟩ := e
        exact ⟨ds, all ys ds e1, e2⟩
      · cases e
    | non => simpa [toD] using e
    | bl b => simpa [toD] using e
    | int i => simpa [toD] using e
    | str z => simpa [toD] using e
    | obj c => simp [toD] at e
    | ty t => simp [toD] at e
    | scr ns => simpa [toD] using e
    | xn c j => simp [toD] at e
    | rng a b => simp [toD] at e
/-- data that can be shown -/
structure DOk (d : PyData) : Prop where
  sh : d.showable = true
  nd : d.hasDict = false
  dp : d.depth ≤ 60
  ln : d.shown.length ≤ 10000
  so : PySem.PyData.strOk d.shown = true
theorem toD_dct {h : Hs} {a : Nat} {kvs : List (Key × SV)} (n : Nat) (e : h[a]? = some (.dct kvs)) : toD (n + 1) h (.ref a) = none := by simp only [toD, e]
theorem repr_ok {h : Hs} {v : SV} {d : PyData} (e : toD 30 h v = some d) (k : DOk d) (x : Hs) : bRepr2 [v] (h ++ x) = .ok (.str d.shown) (h ++ x) := by
  have e2 := toD_app 30 h x v d e
  have q : bRepr [v] (h ++ x) = .ok (.str d.shown) (h ++ x) := by
    have c : d.showable = true ∧ d.hasDict = false ∧ d.depth ≤ 64 ∧ d.shown.length ≤ 16777216 := ⟨k.sh, k.nd, Nat.le_trans k.dp (by decide), Nat.le_trans k.ln (by decide)⟩
    unfold bRepr
    simp only [e2]
    rw [if_pos c]
  unfold bRepr2
  cases v with
  | ref a =>
    dsimp only
    cases e0 : (h ++ x)[a]? with
    | none => exact q
    | some o =>
      cases o with
      | dct kvs =>
        cases kvs with
        | nil => exact absurd ((toD_dct 29 e0).symm.trans e2) (by simp)
        | cons p ps => exact q
      | _ => exact q
  | _ => exact q
/-! ### lists and tuples of such -/
def sumL : List Str → Nat
  | [] => 0
  | t :: ts => t.length + 2 + sumL ts
theorem from_le : ∀ (ts : List Str) (k : Nat) (acc : Str), (textFrom k acc ts).length ≤ acc.length + sumL ts
  | [], k, acc => by simp [textFrom, sumL]
  | t :: r, k, acc => by
    have ih := from_le r (k + 1) (acc ++ (if k > 0 then ", " else "" : String) ++ t)
    have e : (acc ++ (if k > 0 then ", " else "" : String) ++ t).length ≤ acc.length + 2 + t.length := by
      rw [strLen_append, strLen_append]
      split
      · have : ((", " : String) : Str).length = 2 := rfl
        omega
      · have : (("" : String) : Str).length = 0 := rfl
        omega
    show (textFrom (k + 1) (acc ++ (if k > 0 then ", " else "" : String) ++ t) r).length ≤ _
    simp only [sumL]; omega
theorem join_le : ∀ ts : List Str, (Str.join ", " ts).length ≤ sumL ts
  | [] => Nat.zero_le _
  | [x] => by show x.length ≤ x.length + 2 + 0; omega
  | x :: y :: r => by
    have ih := join_le (y :: r)
    show (x ++ ", " ++ Str.join ", " (y :: r)).length ≤ _
    rw [strLen_append, strLen_append]
    have : ((", " : String) : Str).length = 2 := rfl
    simp only [sumL] at ih ⊢; omega
theorem sumL_le {n : Nat} : ∀ {ds : List PyData}, (∀ d ∈ ds, d.shown.length ≤ n) → sumL (PyData.shownAll ds) ≤ ds.length * (n + 2)
  | [], _ => Nat.zero_le _
  | d :: ds, h => by
    have ih := sumL_le (n := n) fun e he => h e (List.mem_cons_of_mem _ he)
    have a := h d (by simp)
    simp only [PyData.shownAll, sumL, List.length_cons, Nat.add_mul]
    omega
theorem all_sh : ∀ {ds : List PyData}, (∀ d ∈ ds, d.showable = true ∧ d.hasDict = false ∧ d.depth ≤ 50) → PyData.showableAll ds = true ∧ PyData.hasDictAll ds = false ∧ PyData.depthAll ds ≤ 50
  | [], _ => ⟨rfl, rfl, Nat.zero_le _⟩
  | d :: ds, h => by
    obtain ⟨a, b, c⟩ := all_sh fun e he => h e (List.mem_cons_of_mem _ he)
    obtain ⟨a1, b1, c1⟩ := h d (by simp)
    simp only [PyData.showableAll, PyData.hasDictAll, PyData.depthAll, a, b, a1, b1]
    exact ⟨rfl, rfl, Nat.max_le.mpr ⟨c1, c⟩⟩
/-- a part -/
structure POk (d : PyData) : Prop where
  sh : d.showable = true
  nd : d.hasDict = false
  dp : d.depth ≤ 50
  ln : d.shown.length ≤ 200
  so : PySem.PyData.strOk d.shown = true
theorem so_app (a b : Str) : PySem.PyData.strOk (a ++ b) = (PySem.PyData.strOk a && PySem.PyData.strOk b) := by
  show (a.cps ++ b.cps).all _ = _
  rw [Array.all_append]; rfl
theorem so_from : ∀ (ts : List Str) (k : Nat) (acc : Str), PySem.PyData.strOk acc = true → (∀ t ∈ ts, PySem.PyData.strOk t = true) → PySem.PyData.strOk (textFrom k acc ts) = true
  | [], k, acc, h, _ => h
  | t :: r, k, acc, h, ht => by
    refine so_from r (k + 1) (acc ++ (if k > 0 then ", " else "" : String) ++ t) ?_ fun u hu => ht u (by simp [hu])
    rw [so_app, so_app, h, ht t (by simp)]
    split <;> decide +kernel
theorem so_join : ∀ ts : List Str, (∀ t ∈ ts, PySem.PyData.strOk t = true) → PySem.PyData.strOk (Str.join ", " ts) = true
  | [], _ => by decide +kernel
  | [x], h => h x (by simp)
  | x :: y :: r, h => by
    have ih := so_join (y :: r) fun t ht => h t (by simp [ht])
    show PySem.PyData.strOk (x ++ ", " ++ Str.join ", " (y :: r)) = true
    rw [so_app, so_app, h x (by simp), ih]
    decide +kernel
theorem so_all : ∀ {ds : List PyData}, (∀ d ∈ ds, PySem.PyData.strOk d.shown = true) → ∀ t ∈ PyData.shownAll ds, PySem.PyData.strOk t = true
  | [], _, t, ht => by simp [PyData.shownAll] at ht
  | d :: ds, h, t, ht => by
    simp only [PyData.shownAll, List.mem_cons] at ht
    rcases ht with rfl | ht
    · exact h d (by simp)
    · exact so_all (fun e he => h e (by simp [he])) t ht
theorem list_ok {ds : List PyData} (h : ∀ d ∈ ds, POk d) (hl : ds.length ≤ 40) : DOk (.list ds) ∧ DOk (.tuple ds) := by
  obtain ⟨a, b, c⟩ := all_sh fun d hd => ⟨(h d hd).sh, (h d hd).nd, (h d hd).dp⟩
  have s := sumL_le (n := 200) fun d hd => (h d hd).ln
  have t := from_le (PyData.shownAll ds) 0 "["
  have u := join_le (PyData.shownAll ds)
  have m : ds.length * (200 + 2) ≤ 40 * 202 := Nat.mul_le_mul_right _ hl
  refine ⟨⟨by simpa [PyData.showable] using a, by simpa [PyData.hasDict] using b, by simp only [PyData.depth]; omega, ?_, ?_⟩, ⟨by simpa [PyData.showable] using a, by simpa [PyData.hasDict] using b, by simp only [PyData.depth]; omega, ?_, ?_⟩⟩
  · simp only [PyData.shown, listText]
    rw [strLen_append]
    have e1 : (("[" : String) : Str).length = 1 := rfl
    have e2 : (("]" : String) : Str).length = 1 := rfl
    omega
  · simp only [PyData.shown, listText]
    rw [so_app, so_from _ _ _ (by decide +kernel) (so_all fun d hd => (h d hd).so)]
    decide +kernel
  · simp only [PyData.shown, tupleText]
    rw [strLen_append, strLen_append]
    have e1 : (("(" : String) : Str).length = 1 := rfl
    have e2 : ((if (PyData.shownAll ds).length == 1 then ",)" else ")" : String) : Str).length ≤ 2 := by split <;> decide
    omega
  · simp only [PyData.shown, tupleText]
    rw [so_app, so_app, so_join _ (so_all fun d hd => (h d hd).so)]
    split <;> decide +kernel
theorem eqv_str (a b : Str) : PyData.eqv (.str a) (.str b) = (a == b) := by first | rfl | simp [PyData.eqv]
theorem ne_same (z : Str) (hz : PySem.PyData.strOk z = true) (h : Hs) : oNe (.str z) (.str z) h = .ok (.bl false) h := by
  have sh : SeqAt.shaped (.str z) = true := by unfold SeqAt.shaped; simp [PyData.canLay0, hz, PyData.depth]
  unfold oNe two
  show (if (SeqAt.shaped (.str z) && SeqAt.shaped (.str z)) = true then Out.ok (SV.bl (!PyData.eqv (.str z) (.str z))) h else .stuck) = _
  rw [sh, eqv_str]; simp
end Kx

set_option Elab.async false
set_option linter.all false
set_option maxRecDepth 100000
set_option maxHeartbeats 1000000
namespace Kx
open PySem PySem.Spec L2 Pz PzR
/-! ### a turn, by each thing that may be drawn -/
def env0 (ns : List Int) : SEnv := [some (.scr ns), none, none, none, none, none, none, none, none, none]
def envP (ns : List Int) (k : Int) : SEnv := [some (.scr ns), some (.int k), some (.ref 0), none, none, none, none, none, none, none]
def envT (ns : List Int) (k : Int) (v : SV) : SEnv := [some (.scr ns), some (.int k), some (.ref 0), some v, none, none, none, none, none, none]
def things : List SV := [.non, .int 5, .int (-1), .str "a", .tup [], .tup [.str "a", .int 1], .bl true, .str "", .int (10 ^ 30), .ref 1]
def hpT (q : Int × Int) : Hs := [poolO q, .lst [.str "a"], .lst things]
def rest : SF := sSeq r_law_0_a_2 (sSeq r_law_0_a_3 r_law_0_a_4)
/-- how a turn ends, behind the cut -/
def finT (σ0 : SEnv) (r : OS) : Option (SEnv × Hs) := match r with
  | .nx σ h => some (gcS σ0 [] σ h)
  | _ => none
theorem finT_nx {σ0 : SEnv} {r : OS} {p : SEnv × Hs} (e : finT σ0 r = some p) : ∃ σ h, r = .nx σ h ∧ gcS σ0 [] σ h = p := by
  unfold finT at e
  split at e
  · exact ⟨_, _, rfl, Option.some.inj e⟩
  · cases e
def made : List SV := [.xn 1 3, .xn 2 4, .xn 3 5, .xn 4 6, .xn 5 8, .xn 6 9, .xn 7 10, .xn 8 11, .xn 9 14, .xn 10 15, .xn 11 16, .xn 14 17, .xn 12 20, .xn 13 21, .xn 15 22, .xn 16 23]
def H2 (v : SV) (q : Int × Int) : Hs := [poolO q, .lst [.str "a"], .lst things, .exc 1 [("value", v)], .exc 2 [("value", v)], .exc 3 [("value", v)], .exc 4 [("value", v)], .lst [.xn 1 3, .xn 2 4, .xn 3 5, .xn 4 6], .exc 5 [("value", v)], .exc 6 [("value", v)], .exc 7 [("word", v)], .exc 8 [("position", v)], .lst [.xn 5 8, .xn 6 9, .xn 7 10, .xn 8 11], .lst [.xn 1 3, .xn 2 4, .xn 3 5, .xn 4 6, .xn 5 8, .xn 6 9, .xn 7 10, .xn 8 11], .exc 9 [("value", v)], .exc 10 [("value", v)], .exc 11 [("stream", v)], .exc 14 [("word", v)], .lst [.xn 9 14, .xn 10 15, .xn 11 16, .xn 14 17], .lst [.xn 1 3, .xn 2 4, .xn 3 5, .xn 4 6, .xn 5 8, .xn 6 9, .xn 7 10, .xn 8 11, .xn 9 14, .xn 10 15, .xn 11 16, .xn 14 17], .exc 12 [("index", v)], .exc 13 [("stream", v)], .exc 15 [("word", v)], .exc 16 [("line", v)], .lst [.xn 12 20, .xn 13 21, .xn 15 22, .xn 16 23], .lst [.xn 1 3, .xn 2 4, .xn 3 5, .xn 4 6, .xn 5 8, .xn 6 9, .xn 7 10, .xn 8 11, .xn 9 14, .xn 10 15, .xn 11 16, .xn 14 17, .xn 12 20, .xn 13 21, .xn 15 22, .xn 16 23]]
def env2 (ns : List Int) (k : Int) (v : SV) : SEnv := [some (.scr ns), some (.int k), some (.ref 0), some v, some (.ref 25), none, none, none, none, none]
/-- a turn of the loop over what was made -/
def oneT (σ0 : SEnv) (h0 : Hs) (g : GF) (body : SF) (x : SV) : Option (SEnv × Hs) := match g x σ0 with
  | some σ1 => (match body σ1 h0 with
    | .nx σ h => some (gcS σ0 h0 σ h)
    | _ => none)
  | none => none
theorem for_one {σ0 : SEnv} {h : Hs} {g : GF} {body : SF} {chk : Hs → Bool} (hc : chk h = true) : ∀ (xs : List SV), (∀ x ∈ xs, oneT σ0 h g body x = some (σ0, h)) → forGo σ0 h g body chk xs σ0 h = .nx σ0 h
  | [], _ => by unfold forGo; rw [if_pos hc]
  | x :: xs, k => by
    have e := k x (by simp)
    unfold oneT at e
    split at e
    · rename_i σ1 e1
      split at e
      · rename_i σ2 h2 e2
        unfold forGo
        rw [if_pos hc, e1]
        simp only [e2]
        rw [Option.some.inj e]
        exact for_one hc xs fun z hz => k z (by simp [hz])
      · cases e
    · cases e
def xs16 : List SV := made.mapIdx fun i x => SV.tup [.int (i : Nat), x]
def gE : GF := gTp 2 (gsC (gNm 5) (gsC (gNm 6) gsN))
def bE : SF := sSeq r_law_0_a_3_a_0 (sSeq r_law_0_a_3_a_1 r_law_0_a_3_a_2)
section
variable (ns : List Int) (k a b : Int)
theorem m0 : r_law_0_a_2 (envT ns k .non) (hpT (a, b)) = .nx (env2 ns k .non) (H2 .non (a, b)) := by kernel_rfl
theorem l0 : xs16.map (oneT (env2 ns k .non) (H2 .non (a, b)) gE bE) = xs16.map fun _ => some (env2 ns k .non, H2 .non (a, b)) := by kernel_rfl
theorem m1 : r_law_0_a_2 (envT ns k (.int 5)) (hpT (a, b)) = .nx (env2 ns k (.int 5)) (H2 (.int 5) (a, b)) := by kernel_rfl
theorem l1 : xs16.map (oneT (env2 ns k (.int 5)) (H2 (.int 5) (a, b)) gE bE) = xs16.map fun _ => some (env2 ns k (.int 5), H2 (.int 5) (a, b)) := by kernel_rfl
theorem m2 : r_law_0_a_2 (envT ns k (.int (-1))) (hpT (a, b)) = .nx (env2 ns k (.int (-1))) (H2 (.int (-1)) (a, b)) := by kernel_rfl
theorem l2 : xs16.map (oneT (env2 ns k (.int (-1))) (H2 (.int (-1)) (a, b)) gE bE) = xs16.map fun _ => some (env2 ns k (.int (-1)), H2 (.int (-1)) (a, b)) := by kernel_rfl
theorem m3 : r_law_0_a_2 (envT ns k (.str "a")) (hpT (a, b)) = .nx (env2 ns k (.str "a")) (H2 (.str "a") (a, b)) := by kernel_rfl
theorem l3 : xs16.map (oneT (env2 ns k (.str "a")) (H2 (.str "a") (a, b)) gE bE) = xs16.map fun _ => some (env2 ns k (.str "a"), H2 (.str "a") (a, b)) := by kernel_rfl
theorem m4 : r_law_0_a_2 (envT ns k (.tup [])) (hpT (a, b)) = .nx (env2 ns k (.tup [])) (H2 (.tup []) (a, b)) := by kernel_rfl
theorem l4 : xs16.map (oneT (env2 ns k (.tup [])) (H2 (.tup []) (a, b)) gE bE) = xs16.map fun _ => some (env2 ns k (.tup []), H2 (.tup []) (a, b)) := by kernel_rfl
theorem m5 : r_law_0_a_2 (envT ns k (.tup [.str "a", .int 1])) (hpT (a, b)) = .nx (env2 ns k (.tup [.str "a", .int 1])) (H2 (.tup [.str "a", .int 1]) (a, b)) := by kernel_rfl
theorem l5 : xs16.map (oneT (env2 ns k (.tup [.str "a", .int 1])) (H2 (.tup [.str "a", .int 1]) (a, b)) gE bE) = xs16.map fun _ => some (env2 ns k (.tup [.str "a", .int 1]), H2 (.tup [.str "a", .int 1]) (a, b)) := by kernel_rfl
theorem m6 : r_law_0_a_2 (envT ns k (.bl true)) (hpT (a, b)) = .nx (env2 ns k (.bl true)) (H2 (.bl true) (a, b)) := by kernel_rfl
theorem l6 : xs16.map (oneT (env2 ns k (.bl true)) (H2 (.bl true) (a, b)) gE bE) = xs16.map fun _ => some (env2 ns k (.bl true), H2 (.bl true) (a, b)) := by kernel_rfl
theorem m7 : r_law_0_a_2 (envT ns k (.str "")) (hpT (a, b)) = .nx (env2 ns k (.str "")) (H2 (.str "") (a, b)) := by kernel_rfl
theorem l7 : xs16.map (oneT (env2 ns k (.str "")) (H2 (.str "") (a, b)) gE bE) = xs16.map fun _ => some (env2 ns k (.str ""), H2 (.str "") (a, b)) := by kernel_rfl
theorem m8 : r_law_0_a_2 (envT ns k (.int (10 ^ 30))) (hpT (a, b)) = .nx (env2 ns k (.int (10 ^ 30))) (H2 (.int (10 ^ 30)) (a, b)) := by kernel_rfl
theorem l8 : xs16.map (oneT (env2 ns k (.int (10 ^ 30))) (H2 (.int (10 ^ 30)) (a, b)) gE bE) = xs16.map fun _ => some (env2 ns k (.int (10 ^ 30)), H2 (.int (10 ^ 30)) (a, b)) := by kernel_rfl
theorem m9 : r_law_0_a_2 (envT ns k (.ref 1)) (hpT (a, b)) = .nx (env2 ns k (.ref 1)) (H2 (.ref 1) (a, b)) := by kernel_rfl
theorem l9 : xs16.map (oneT (env2 ns k (.ref 1)) (H2 (.ref 1) (a, b)) gE bE) = xs16.map fun _ => some (env2 ns k (.ref 1), H2 (.ref 1) (a, b)) := by kernel_rfl
end
/-! ### the fields: by data -/
def fldT (v : SV) (r : Out SV) : Option (Option PyData × Option PyData) := match r with
  | .ok u h => some (toD 30 h u, toD 29 h v)
  | _ => none
theorem fldT_ok {v : SV} {r : Out SV} {p : Option PyData × Option PyData} (e : fldT v r = some p) : ∃ u h, r = .ok u h ∧ toD 30 h u = p.1 ∧ toD 29 h v = p.2 := by
  unfold fldT at e
  split at e
  · cases e; exact ⟨_, _, rfl, rfl, rfl⟩
  · cases e
theorem toD_lst {h : Hs} {a : Nat} {xs : List SV} (n : Nat) (e : h[a]? = some (.lst xs)) : toD (n + 1) h (.ref a) = (xs.mapM (toD n h)).map PyData.list := by simp only [toD, e]
theorem mapM_rep {α β : Type} {f : α → Option β} {a : α} {b : β} (e : f a = some b) : ∀ n : Nat, (List.replicate n a).mapM f = some (List.replicate n b)
  | 0 => rfl
  | n + 1 => by rw [List.replicate_succ, List.mapM_cons, e, mapM_rep e n]; rfl
theorem repr_at {h : Hs} {v : SV} {d : PyData} (e : toD 30 h v = some d) (k : DOk d) : bRepr2 [v] h = .ok (.str d.shown) h := by
  have := repr_ok e k []
  simpa using this
/-- repr of the fields and of the thing 32 times over -/
theorem last_is {ns : List Int} {k : Int} {v : SV} {H : Hs} {d : PyData} (ef : fldT v (F__law_fields [v, .ref 25] H) = some (some (.list (List.replicate 32 d)), some d)) (pd : POk d) :
    ∃ h, r_law_0_a_4 (env2 ns k v) H = .nx (env2 ns k v) h := by
  obtain ⟨u, h1, e1, e2, e3⟩ := fldT_ok ef
  have D : DOk (.list (List.replicate 32 d)) := (list_ok (fun x hx => by rw [List.eq_of_mem_replicate hx]; exact pd) (by rw [List.length_replicate]; decide)).1
  have c1 : rF bRepr2 (lCons (rCall F__law_fields 2 [] (lCons (rVar 3) (lCons (rVar 4) lNil))) lNil) (env2 ns k v) H = .ok (.str (PyData.list (List.replicate 32 d)).shown) h1 :=
    (e_F (e_cons ((e_call2 (e_var rfl) (e_var rfl)).trans e1) e_nil)).trans (repr_at e2 D)
  have l1 : rLst (lCons (rVar 3) lNil) (env2 ns k v) h1 = .ok (.ref h1.length) (h1 ++ [.lst [v]]) := e_lst (e_cons (e_var rfl) e_nil) (show 1 ≤ 1000000 by decide)
  have g1 : (h1 ++ [SO.lst [v]])[h1.length]? = some (.lst [v]) := by simp
  have m1 : oMul (.ref h1.length) (.int 32) (h1 ++ [.lst [v]]) = .ok (.ref (h1.length + 1)) (h1 ++ [.lst [v]] ++ [.lst (List.replicate 32 v)]) := by
    unfold oMul
    simp only [g1]
    rw [if_pos ⟨by decide, by decide, by simp⟩]
    simp [List.replicate]
  have g2 : (h1 ++ [SO.lst [v]] ++ [SO.lst (List.replicate 32 v)])[h1.length + 1]? = some (.lst (List.replicate 32 v)) := by simp
  have e4 : toD 29 (h1 ++ [.lst [v]] ++ [.lst (List.replicate 32 v)]) v = some d := by
    rw [List.append_assoc]; exact toD_app 29 h1 _ v d e3
  have e5 : toD 30 (h1 ++ [.lst [v]] ++ [.lst (List.replicate 32 v)]) (.ref (h1.length + 1)) = some (.list (List.replicate 32 d)) := by
    rw [toD_lst 29 g2, mapM_rep e4]; rfl
  have c2 : rF bRepr2 (lCons (rB oMul (rLst (lCons (rVar 3) lNil)) (rC (.int 32))) lNil) (env2 ns k v) h1 = .ok (.str (PyData.list (List.replicate 32 d)).shown) (h1 ++ [.lst [v]] ++ [.lst (List.replicate 32 v)]) :=
    (e_F (e_cons ((e_B l1 rfl).trans m1) e_nil)).trans (repr_at e5 D)
  refine ⟨_, (e_sif0 (e_TB ((e_B c1 c2).trans (ne_same _ D.so _)))).trans rfl⟩
section
variable (a b : Int)
theorem f0 : fldT .non (F__law_fields [.non, .ref 25] (H2 .non (a, b))) = some (some (.list (List.replicate 32 .none)), some .none) := by kernel_rfl
theorem p0 : POk .none := ⟨by decide +kernel, by decide +kernel, by decide +kernel, by decide +kernel, by decide +kernel⟩
theorem f1 : fldT (.int 5) (F__law_fields [(.int 5), .ref 25] (H2 (.int 5) (a, b))) = some (some (.list (List.replicate 32 (.int 5))), some (.int 5)) := by kernel_rfl
theorem p1 : POk (.int 5) := ⟨by decide +kernel, by decide +kernel, by decide +kernel, by decide +kernel, by decide +kernel⟩
theorem f2 : fldT (.int (-1)) (F__law_fields [(.int (-1)), .ref 25] (H2 (.int (-1)) (a, b))) = some (some (.list (List.replicate 32 (.int (-1)))), some (.int (-1))) := by kernel_rfl
theorem p2 : POk (.int (-1)) := ⟨by decide +kernel, by decide +kernel, by decide +kernel, by decide +kernel, by decide +kernel⟩
theorem f3 : fldT (.str "a") (F__law_fields [(.str "a"), .ref 25] (H2 (.str "a") (a, b))) = some (some (.list (List.replicate 32 (.str "a"))), some (.str "a")) := by kernel_rfl
theorem p3 : POk (.str "a") := ⟨by decide +kernel, by decide +kernel, by decide +kernel, by decide +kernel, by decide +kernel⟩
theorem f4 : fldT (.tup []) (F__law_fields [(.tup []), .ref 25] (H2 (.tup []) (a, b))) = some (some (.list (List.replicate 32 (.tuple []))), some (.tuple [])) := by kernel_rfl
theorem p4 : POk (.tuple []) := ⟨by decide +kernel, by decide +kernel, by decide +kernel, by decide +kernel, by decide +kernel⟩
theorem f5 : fldT (.tup [.str "a", .int 1]) (F__law_fields [(.tup [.str "a", .int 1]), .ref 25] (H2 (.tup [.str "a", .int 1]) (a, b))) = some (some (.list (List.replicate 32 (.tuple [.str "a", .int 1]))), some (.tuple [.str "a", .int 1])) := by kernel_rfl
theorem p5 : POk (.tuple [.str "a", .int 1]) := ⟨by decide +kernel, by decide +kernel, by decide +kernel, by decide +kernel, by decide +kernel⟩
theorem f6 : fldT (.bl true) (F__law_fields [(.bl true), .ref 25] (H2 (.bl true) (a, b))) = some (some (.list (List.replicate 32 (.bool true))), some (.bool true)) := by kernel_rfl
theorem p6 : POk (.bool true) := ⟨by decide +kernel, by decide +kernel, by decide +kernel, by decide +kernel, by decide +kernel⟩
theorem f7 : fldT (.str "") (F__law_fields [(.str ""), .ref 25] (H2 (.str "") (a, b))) = some (some (.list (List.replicate 32 (.str ""))), some (.str "")) := by kernel_rfl
theorem p7 : POk (.str "") := ⟨by decide +kernel, by decide +kernel, by decide +kernel, by decide +kernel, by decide +kernel⟩
theorem f8 : fldT (.int (10 ^ 30)) (F__law_fields [(.int (10 ^ 30)), .ref 25] (H2 (.int (10 ^ 30)) (a, b))) = some (some (.list (List.replicate 32 (.int (10 ^ 30)))), some (.int (10 ^ 30))) := by kernel_rfl
theorem p8 : POk (.int (10 ^ 30)) := ⟨by decide +kernel, by decide +kernel, by decide +kernel, by decide +kernel, by decide +kernel⟩
theorem f9 : fldT (.ref 1) (F__law_fields [(.ref 1), .ref 25] (H2 (.ref 1) (a, b))) = some (some (.list (List.replicate 32 (.list [.str "a"]))), some (.list [.str "a"])) := by kernel_rfl
theorem p9 : POk (.list [.str "a"]) := ⟨by decide +kernel, by decide +kernel, by decide +kernel, by decide +kernel, by decide +kernel⟩
end
theorem all_is {ns : List Int} {k : Int} {q : Int × Int} {v : SV} {d : PyData} (e1 : r_law_0_a_2 (envT ns k v) (hpT q) = .nx (env2 ns k v) (H2 v q)) (hc : chkL 25 made (H2 v q) = true) (ei : iEnum2 (lCons (rVar 4) lNil) (env2 ns k v) (H2 v q) = .ok (xs16, chkL 25 made) (H2 v q))
    (e2 : xs16.map (oneT (env2 ns k v) (H2 v q) gE bE) = xs16.map fun _ => some (env2 ns k v, H2 v q)) (e3 : fldT v (F__law_fields [v, .ref 25] (H2 v q)) = some (some (.list (List.replicate 32 d)), some d)) (pd : POk d) :
    ∃ σ h, rest (envT ns k v) (hpT q) = .nx σ h ∧ gcS (env0 ns) [] σ h = (env0 ns, []) := by
  have l : r_law_0_a_3 (env2 ns k v) (H2 v q) = .nx (env2 ns k v) (H2 v q) := (e_for ei).trans (for_one hc xs16 fun x hx => List.map_inj_left.mp e2 x hx)
  obtain ⟨h, e4⟩ := last_is (ns := ns) (k := k) e3 pd
  exact ⟨_, h, (e_seq e1).trans ((e_seq l).trans e4), (gcS_back (h0 := []) rfl).trans rfl⟩
theorem t0 (ns : List Int) (k a b : Int) : ∃ σ h, rest (envT ns k .non) (hpT (a, b)) = .nx σ h ∧ gcS (env0 ns) [] σ h = (env0 ns, []) := all_is (m0 ns k a b) (by kernel_rfl) (by kernel_rfl) (l0 ns k a b) (f0 a b) p0
theorem t1 (ns : List Int) (k a b : Int) : ∃ σ h, rest (envT ns k (.int 5)) (hpT (a, b)) = .nx σ h ∧ gcS (env0 ns) [] σ h = (env0 ns, []) := all_is (m1 ns k a b) (by kernel_rfl) (by kernel_rfl) (l1 ns k a b) (f1 a b) p1
theorem t2 (ns : List Int) (k a b : Int) : ∃ σ h, rest (envT ns k (.int (-1))) (hpT (a, b)) = .nx σ h ∧ gcS (env0 ns) [] σ h = (env0 ns, []) := all_is (m2 ns k a b) (by kernel_rfl) (by kernel_rfl) (l2 ns k a b) (f2 a b) p2
theorem t3 (ns : List Int) (k a b : Int) : ∃ σ h, rest (envT ns k (.str "a")) (hpT (a, b)) = .nx σ h ∧ gcS (env0 ns) [] σ h = (env0 ns, []) := all_is (m3 ns k a b) (by kernel_rfl) (by kernel_rfl) (l3 ns k a b) (f3 a b) p3
theorem t4 (ns : List Int) (k a b : Int) : ∃ σ h, rest (envT ns k (.tup [])) (hpT (a, b)) = .nx σ h ∧ gcS (env0 ns) [] σ h = (env0 ns, []) := all_is (m4 ns k a b) (by kernel_rfl) (by kernel_rfl) (l4 ns k a b) (f4 a b) p4
theorem t5 (ns : List Int) (k a b : Int) : ∃ σ h, rest (envT ns k (.tup [.str "a", .int 1])) (hpT (a, b)) = .nx σ h ∧ gcS (env0 ns) [] σ h = (env0 ns, []) := all_is (m5 ns k a b) (by kernel_rfl) (by kernel_rfl) (l5 ns k a b) (f5 a b) p5
theorem t6 (ns : List Int) (k a b : Int) : ∃ σ h, rest (envT ns k (.bl true)) (hpT (a, b)) = .nx σ h ∧ gcS (env0 ns) [] σ h = (env0 ns, []) := all_is (m6 ns k a b) (by kernel_rfl) (by kernel_rfl) (l6 ns k a b) (f6 a b) p6
theorem t7 (ns : List Int) (k a b : Int) : ∃ σ h, rest (envT ns k (.str "")) (hpT (a, b)) = .nx σ h ∧ gcS (env0 ns) [] σ h = (env0 ns, []) := all_is (m7 ns k a b) (by kernel_rfl) (by kernel_rfl) (l7 ns k a b) (f7 a b) p7
theorem t8 (ns : List Int) (k a b : Int) : ∃ σ h, rest (envT ns k (.int (10 ^ 30))) (hpT (a, b)) = .nx σ h ∧ gcS (env0 ns) [] σ h = (env0 ns, []) := all_is (m8 ns k a b) (by kernel_rfl) (by kernel_rfl) (l8 ns k a b) (f8 a b) p8
theorem t9 (ns : List Int) (k a b : Int) : ∃ σ h, rest (envT ns k (.ref 1)) (hpT (a, b)) = .nx σ h ∧ gcS (env0 ns) [] σ h = (env0 ns, []) := all_is (m9 ns k a b) (by kernel_rfl) (by kernel_rfl) (l9 ns k a b) (f9 a b) p9
end Kx

set_option Elab.async false
set_option linter.all false
set_option maxRecDepth 100000
set_option maxHeartbeats 1000000
namespace Kx
open PySem PySem.Spec L2 Pz PzR
theorem a0_is {ns : List Int} {k : Nat} (hk : k < 100) : ∃ p, PoolOk p ∧ r_law_0_a_0 ((env0 ns).set 1 (some (.int k))) [] = .nx (envP ns k) [poolO p] := by
  obtain ⟨c, hc⟩ : ∃ c, (k < ns.length ∧ atI ns (k : Int) = some c) ∨ (¬ k < ns.length ∧ c = 0) := by
    by_cases hl : k < ns.length
    · exact ⟨_, .inl ⟨hl, atI_scr hl⟩⟩
    · exact ⟨0, .inr ⟨hl, rfl⟩⟩
  exact ⟨pool0 c k, pool0_ok c k, (e_asgN ((e_call2 (e_var rfl) (e_var rfl)).trans (pool_is hk hc []))).trans rfl⟩
theorem take_at {ns : List Int} {k : Int} {p : Int × Int} : rCall F__law_take 2 [] (lCons (rVar 2) (lCons (rC (.int 10)) lNil)) (envP ns k) (hpT p) = .ok (.int (draw p 10).1) (hpT (draw p 10).2) :=
  (e_call2 (e_var rfl) rfl).trans ((take_is (a := 0) rfl ⟨by decide, by decide⟩).trans rfl)
theorem a1_is {ns : List Int} {k : Int} {p : Int × Int} (hp : PoolOk p) : ∃ v q, v ∈ things ∧ r_law_0_a_1 (envP ns k) [poolO p] = .nx (envT ns k v) (hpT q) := by
  obtain ⟨_, d0, d1⟩ := draw_ok hp (w := 10) (by decide)
  have el : (rLst (lCons (rC .non) (lCons (rC (.int 5)) (lCons (rU oNeg (rC (.int 1))) (lCons (rC (.str "a")) (lCons (rTup lNil) (lCons (rTup (lCons (rC (.str "a")) (lCons (rC (.int 1)) lNil))) (lCons (rC (.bl true)) (lCons (rC (.str "")) (lCons (rB oPow (rC (.int 10)) (rC (.int 30))) (lCons (rLst (lCons (rC (.str "a")) lNil)) lNil))))))))))) (envP ns k) [poolO p] = .ok (.ref 2) (hpT p) := by kernel_rfl
  have key : ∀ v, oIx (.ref 2) (.int (draw p 10).1) (hpT (draw p 10).2) = .ok v (hpT (draw p 10).2) → r_law_0_a_1 (envP ns k) [poolO p] = .nx (envT ns k v) (hpT (draw p 10).2) := fun v e =>
    (e_asgN ((e_B el take_at).trans e)).trans rfl
  rcases (show (draw p 10).1 = 0 ∨ (draw p 10).1 = 1 ∨ (draw p 10).1 = 2 ∨ (draw p 10).1 = 3 ∨ (draw p 10).1 = 4 ∨ (draw p 10).1 = 5 ∨ (draw p 10).1 = 6 ∨ (draw p 10).1 = 7 ∨ (draw p 10).1 = 8 ∨ (draw p 10).1 = 9 by omega) with z | z | z | z | z | z | z | z | z | z
  · exact ⟨.non, _, by simp [things], key _ (by rw [z]; rfl)⟩
  · exact ⟨.int 5, _, by simp [things], key _ (by rw [z]; rfl)⟩
  · exact ⟨.int (-1), _, by simp [things], key _ (by rw [z]; rfl)⟩
  · exact ⟨.str "a", _, by simp [things], key _ (by rw [z]; rfl)⟩
  · exact ⟨.tup [], _, by simp [things], key _ (by rw [z]; rfl)⟩
  · exact ⟨.tup [.str "a", .int 1], _, by simp [things], key _ (by rw [z]; rfl)⟩
  · exact ⟨.bl true, _, by simp [things], key _ (by rw [z]; rfl)⟩
  · exact ⟨.str "", _, by simp [things], key _ (by rw [z]; rfl)⟩
  · exact ⟨.int (10 ^ 30), _, by simp [things], key _ (by rw [z]; rfl)⟩
  · exact ⟨.ref 1, _, by simp [things], key _ (by rw [z]; rfl)⟩
theorem rest_is {ns : List Int} {k : Int} {q : Int × Int} {v : SV} (hv : v ∈ things) : ∃ σ h, rest (envT ns k v) (hpT q) = .nx σ h ∧ gcS (env0 ns) [] σ h = (env0 ns, []) := by
  obtain ⟨a, b⟩ := q
  simp only [things, List.mem_cons, List.not_mem_nil, or_false] at hv
  rcases hv with rfl | rfl | rfl | rfl | rfl | rfl | rfl | rfl | rfl | rfl
  · exact (t0 ns k a b)
  · exact (t1 ns k a b)
  · exact (t2 ns k a b)
  · exact (t3 ns k a b)
  · exact (t4 ns k a b)
  · exact (t5 ns k a b)
  · exact (t6 ns k a b)
  · exact (t7 ns k a b)
  · exact (t8 ns k a b)
  · exact (t9 ns k a b)
abbrev turn : SF := sSeq r_law_0_a_0 (sSeq r_law_0_a_1 (sSeq r_law_0_a_2 (sSeq r_law_0_a_3 r_law_0_a_4)))
theorem turn_is {ns : List Int} {k : Nat} (hk : k < 100) : ∃ σ h, turn ((env0 ns).set 1 (some (.int k))) [] = .nx σ h ∧ gcS (env0 ns) [] σ h = (env0 ns, []) := by
  obtain ⟨p, hp, e0⟩ := a0_is (ns := ns) hk
  obtain ⟨v, q, hv, e1⟩ := a1_is (ns := ns) (k := k) hp
  obtain ⟨σ, h, e2, g⟩ := rest_is (ns := ns) (k := k) (q := q) hv
  exact ⟨σ, h, (e_seq e0).trans ((e_seq e1).trans e2), g⟩
theorem loop_is {ns : List Int} (hl : ns.length ≤ 63) : r_law_0 (env0 ns) [] = .nx (env0 ns) [] := by
  have lE : rF bLen2 (lCons (rVar 0) lNil) (env0 ns) [] = .ok (.int (ns.length : Nat)) [] := (e_F (e_cons (e_var rfl) e_nil)).trans (by first | rfl | (simp [bLen2, bLen]; omega))
  obtain ⟨m, hm, em⟩ : ∃ m : Int, m ≤ 10 ∧ bMin2 [.int (ns.length : Nat), .int 10] [] = .ok (.int m) [] := ⟨if (10 : Int) < (ns.length : Nat) then 10 else (ns.length : Nat), by split <;> omega, rfl⟩
  obtain ⟨n, hn0, hn, en⟩ : ∃ n : Int, 0 ≤ n ∧ n ≤ 10 ∧ bMax2 [.int 1, .int m] [] = .ok (.int n) [] := ⟨if m > 1 then m else 1, by split <;> omega, by split <;> omega, rfl⟩
  have nE : rF bMax2 (lCons (rC (.int 1)) (lCons (rF bMin2 (lCons (rF bLen2 (lCons (rVar 0) lNil)) (lCons (rC (.int 10)) lNil))) lNil)) (env0 ns) [] = .ok (.int n) [] := (e_F (e_cons rfl (e_cons ((e_F (e_cons lE (e_cons rfl e_nil))).trans em) e_nil))).trans en
  have it : Pz.iRng1 (lCons (rF bMax2 (lCons (rC (.int 1)) (lCons (rF bMin2 (lCons (rF bLen2 (lCons (rVar 0) lNil)) (lCons (rC (.int 10)) lNil))) lNil))) lNil) (env0 ns) [] = .ok ((List.range n.toNat).map fun i => SV.int (0 + (i : Nat)), fun _ => true) [] := by
    unfold Pz.iRng1
    rw [e_cons nE e_nil, Out.bnd_ok]
    dsimp only
    rw [if_pos ⟨by omega, by omega⟩]
  have key := for_ind (σ0 := env0 ns) (h0 := []) (g := gNm 1) (r1 := turn) (chk := fun _ => true)
    (fun rest σ h => σ = env0 ns ∧ h = [] ∧ ∀ x ∈ rest, ∃ k : Nat, k < 100 ∧ x = SV.int k)
    (fun σ h => σ = env0 ns ∧ h = []) (fun _ _ => False) ?_ ?_ ((List.range n.toNat).map fun i => SV.int (0 + (i : Nat))) (env0 ns) [] ⟨rfl, rfl, fun x hm => ?_⟩
  · have ef : r_law_0 (env0 ns) [] = _ := e_for it
    rcases key with ⟨σ', h', e, rfl, rfl⟩ | ⟨_, _, _, f⟩
    · exact ef.trans e
    · exact f.elim
  · rintro x rest σ h ⟨rfl, rfl, k4⟩
    obtain ⟨k, hk, rfl⟩ := k4 x (by simp)
    obtain ⟨σ2, h2, e, g⟩ := turn_is (ns := ns) hk
    refine ⟨rfl, _, rfl, .inl ⟨_, _, .inl e, ?_⟩⟩
    rw [g]
    exact ⟨rfl, rfl, fun u hu => k4 u (by simp [hu])⟩
  · rintro σ h ⟨rfl, rfl, _⟩
    exact ⟨rfl, rfl, rfl⟩
  · obtain ⟨i, hi, rfl⟩ := List.mem_map.mp hm
    have := List.mem_range.mp hi
    exact ⟨i, by omega, by simp⟩
theorem pure_law : ∀ ns : List Int, ns.length ≤ 63 → (∀ z ∈ ns, PySem.Builtin.Int.intBits z ≤ 1048576) → ∃ h, Kx.F_law [.scr ns] [] = .ok (.bl true) h := fun ns hl _ => by
  refine ⟨[], ?_⟩
  have e : b_law (startS 10 [.scr ns]) [] = .rt (.bl true) [] := (show b_law (env0 ns) [] = _ from (e_seq (loop_is hl)).trans rfl)
  exact f_pure rfl rfl e
end Kx

set_option Elab.async false
set_option linter.all false
set_option maxRecDepth 100000
set_option maxHeartbeats 4000000
open PySem PySem.W PyProof.Rows
set_option maxRecDepth 100000 in
set_option maxHeartbeats 0 in
theorem PySem.Challenge.cw_surestreams_k22_error_classes_holds : PySem.Challenge.rw_surestreams_k22_error_classes.Holds := by
  w_on; o_law; k_head; (case hw => w_witness2)
  k_fill
  refine Pz.walk_G (l := PySem.Challenge.rw_surestreams_k22_error_classes) (n := 63) (k := 4) (x := "_law_script") (F := Kx.F_law) rfl (by rw [sizeLine_eq]; decide) rfl ⟨rfl, by decide, by decide⟩ (fun w h Y => PySem.W.kIn_of Y) ?F (fun ns h1 h2 => Kx.pure_law ns h1 h2)
  case F =>
    intro w mg fa h KX G hmg
    refine' Kx.all_mk KX G hmg ?a_StreamError ?a_InvalidColumns ?a_InvalidRow ?a_InvalidBox ?a_InvalidQuery ?a_InvalidEvent ?a_InvalidText ?a_InvalidCommand ?a_InvalidSyntax ?a_InvalidName ?a_InvalidNumber ?a_UnknownStream ?a_BrokenPromise ?a_MixedUse ?a_UnknownName ?a_NameTaken ?a_DamagedJournal ?i_InvalidColumns ?l_InvalidColumns ?c_InvalidColumns ?k_InvalidColumns ?x_InvalidColumns ?ti_InvalidColumns ?no_InvalidColumns ?i_InvalidRow ?l_InvalidRow ?c_InvalidRow ?k_InvalidRow ?x_InvalidRow ?ti_InvalidRow ?no_InvalidRow ?i_InvalidBox ?l_InvalidBox ?c_InvalidBox ?k_InvalidBox ?x_InvalidBox ?ti_InvalidBox ?no_InvalidBox ?i_InvalidQuery ?l_InvalidQuery ?c_InvalidQuery ?k_InvalidQuery ?x_InvalidQuery ?ti_InvalidQuery ?no_InvalidQuery ?i_InvalidEvent ?l_InvalidEvent ?c_InvalidEvent ?k_InvalidEvent ?x_InvalidEvent ?ti_InvalidEvent ?no_InvalidEvent ?i_InvalidText ?l_InvalidText ?c_InvalidText ?k_InvalidText ?x_InvalidText ?ti_InvalidText ?no_InvalidText ?i_InvalidCommand ?l_InvalidCommand ?c_InvalidCommand ?k_InvalidCommand ?x_InvalidCommand ?ti_InvalidCommand ?no_InvalidCommand ?i_InvalidSyntax ?l_InvalidSyntax ?c_InvalidSyntax ?k_InvalidSyntax ?x_InvalidSyntax ?ti_InvalidSyntax ?no_InvalidSyntax ?i_InvalidName ?l_InvalidName ?c_InvalidName ?k_InvalidName ?x_InvalidName ?ti_InvalidName ?no_InvalidName ?i_InvalidNumber ?l_InvalidNumber ?c_InvalidNumber ?k_InvalidNumber ?x_InvalidNumber ?ti_InvalidNumber ?no_InvalidNumber ?i_UnknownStream ?l_UnknownStream ?c_UnknownStream ?k_UnknownStream ?x_UnknownStream ?ti_UnknownStream ?no_UnknownStream ?i_BrokenPromise ?l_BrokenPromise ?c_BrokenPromise ?k_BrokenPromise ?x_BrokenPromise ?ti_BrokenPromise ?no_BrokenPromise ?i_MixedUse ?l_MixedUse ?c_MixedUse ?k_MixedUse ?x_MixedUse ?ti_MixedUse ?no_MixedUse ?i_UnknownName ?l_UnknownName ?c_UnknownName ?k_UnknownName ?x_UnknownName ?ti_UnknownName ?no_UnknownName ?i_NameTaken ?l_NameTaken ?c_NameTaken ?k_NameTaken ?x_NameTaken ?ti_NameTaken ?no_NameTaken ?i_DamagedJournal ?l_DamagedJournal ?c_DamagedJournal ?k_DamagedJournal ?x_DamagedJournal ?ti_DamagedJournal ?no_DamagedJournal ?a__law_pool ?l__law_pool ?c__law_pool ?k__law_pool ?a__law_take ?l__law_take ?c__law_take ?k__law_take ?a__law_kinds ?l__law_kinds ?c__law_kinds ?k__law_kinds ?a__law_bases ?l__law_bases ?c__law_bases ?k__law_bases ?a__law_made ?l__law_made ?c__law_made ?k__law_made ?a__law_fields ?l__law_fields ?c__law_fields ?k__law_fields ?a_law ?l_law ?c_law ?k_law ?z_KeyError ?z_LookupError ?z_OverflowError ?z_RuntimeError ?z_ValueError ?z_abs ?z_enumerate ?z_int ?z_isinstance ?z_len ?z_max ?z_min ?z_range ?z_repr ?exs ?sps
    (case a_StreamError => k_is)
    (case a_InvalidColumns => k_is)
    (case a_InvalidRow => k_is)
    (case a_InvalidBox => k_is)
    (case a_InvalidQuery => k_is)
    (case a_InvalidEvent => k_is)
    (case a_InvalidText => k_is)
    (case a_InvalidCommand => k_is)
    (case a_InvalidSyntax => k_is)
    (case a_InvalidName => k_is)
    (case a_InvalidNumber => k_is)
    (case a_UnknownStream => k_is)
    (case a_BrokenPromise => k_is)
    (case a_MixedUse => k_is)
    (case a_UnknownName => k_is)
    (case a_NameTaken => k_is)
    (case a_DamagedJournal => k_is)
    (case i_InvalidColumns => k_is)
    (case i_InvalidRow => k_is)
    (case i_InvalidBox => k_is)
    (case i_InvalidQuery => k_is)
    (case i_InvalidEvent => k_is)
    (case i_InvalidText => k_is)
    (case i_InvalidCommand => k_is)
    (case i_InvalidSyntax => k_is)
    (case i_InvalidName => k_is)
    (case i_InvalidNumber => k_is)
    (case i_UnknownStream => k_is)
    (case i_BrokenPromise => k_is)
    (case i_MixedUse => k_is)
    (case i_UnknownName => k_is)
    (case i_NameTaken => k_is)
    (case i_DamagedJournal => k_is)
    (case a__law_pool => k_is)
    (case a__law_take => k_is)
    (case a__law_kinds => k_is)
    (case a__law_bases => k_is)
    (case a__law_made => k_is)
    (case a__law_fields => k_is)
    (case a_law => k_is)
    (case l_InvalidColumns => k_is)
    (case c_InvalidColumns => k_is)
    (case k_InvalidColumns => k_is)
    (case x_InvalidColumns => k_is)
    (case ti_InvalidColumns => k_is)
    (case no_InvalidColumns => k_is)
    (case l_InvalidRow => k_is)
    (case c_InvalidRow => k_is)
    (case k_InvalidRow => k_is)
    (case x_InvalidRow => k_is)
    (case ti_InvalidRow => k_is)
    (case no_InvalidRow => k_is)
    (case l_InvalidBox => k_is)
    (case c_InvalidBox => k_is)
    (case k_InvalidBox => k_is)
    (case x_InvalidBox => k_is)
    (case ti_InvalidBox => k_is)
    (case no_InvalidBox => k_is)
    (case l_InvalidQuery => k_is)
    (case c_InvalidQuery => k_is)
    (case k_InvalidQuery => k_is)
    (case x_InvalidQuery => k_is)
    (case ti_InvalidQuery => k_is)
    (case no_InvalidQuery => k_is)
    (case l_InvalidEvent => k_is)
    (case c_InvalidEvent => k_is)
    (case k_InvalidEvent => k_is)
    (case x_InvalidEvent => k_is)
    (case ti_InvalidEvent => k_is)
    (case no_InvalidEvent => k_is)
    (case l_InvalidText => k_is)
    (case c_InvalidText => k_is)
    (case k_InvalidText => k_is)
    (case x_InvalidText => k_is)
    (case ti_InvalidText => k_is)
    (case no_InvalidText => k_is)
    (case l_InvalidCommand => k_is)
    (case c_InvalidCommand => k_is)
    (case k_InvalidCommand => k_is)
    (case x_InvalidCommand => k_is)
    (case ti_InvalidCommand => k_is)
    (case no_InvalidCommand => k_is)
    (case l_InvalidSyntax => k_is)
    (case c_InvalidSyntax => k_is)
    (case k_InvalidSyntax => k_is)
    (case x_InvalidSyntax => k_is)
    (case ti_InvalidSyntax => k_is)
    (case no_InvalidSyntax => k_is)
    (case l_InvalidName => k_is)
    (case c_InvalidName => k_is)
    (case k_InvalidName => k_is)
    (case x_InvalidName => k_is)
    (case ti_InvalidName => k_is)
    (case no_InvalidName => k_is)
    (case l_InvalidNumber => k_is)
    (case c_InvalidNumber => k_is)
    (case k_InvalidNumber => k_is)
    (case x_InvalidNumber => k_is)
    (case ti_InvalidNumber => k_is)
    (case no_InvalidNumber => k_is)
    (case l_UnknownStream => k_is)
    (case c_UnknownStream => k_is)
    (case k_UnknownStream => k_is)
    (case x_UnknownStream => k_is)
    (case ti_UnknownStream => k_is)
    (case no_UnknownStream => k_is)
    (case l_BrokenPromise => k_is)
    (case c_BrokenPromise => k_is)
    (case k_BrokenPromise => k_is)
    (case x_BrokenPromise => k_is)
    (case ti_BrokenPromise => k_is)
    (case no_BrokenPromise => k_is)
    (case l_MixedUse => k_is)
    (case c_MixedUse => k_is)
    (case k_MixedUse => k_is)
    (case x_MixedUse => k_is)
    (case ti_MixedUse => k_is)
    (case no_MixedUse => k_is)
    (case l_UnknownName => k_is)
    (case c_UnknownName => k_is)
    (case k_UnknownName => k_is)
    (case x_UnknownName => k_is)
    (case ti_UnknownName => k_is)
    (case no_UnknownName => k_is)
    (case l_NameTaken => k_is)
    (case c_NameTaken => k_is)
    (case k_NameTaken => k_is)
    (case x_NameTaken => k_is)
    (case ti_NameTaken => k_is)
    (case no_NameTaken => k_is)
    (case l_DamagedJournal => k_is)
    (case c_DamagedJournal => k_is)
    (case k_DamagedJournal => k_is)
    (case x_DamagedJournal => k_is)
    (case ti_DamagedJournal => k_is)
    (case no_DamagedJournal => k_is)
    (case l__law_pool => k_is)
    (case c__law_pool => k_is)
    (case k__law_pool => k_is)
    (case l__law_take => k_is)
    (case c__law_take => k_is)
    (case k__law_take => k_is)
    (case l__law_kinds => k_is)
    (case c__law_kinds => k_is)
    (case k__law_kinds => k_is)
    (case l__law_bases => k_is)
    (case c__law_bases => k_is)
    (case k__law_bases => k_is)
    (case l__law_made => k_is)
    (case c__law_made => k_is)
    (case k__law_made => k_is)
    (case l__law_fields => k_is)
    (case c__law_fields => k_is)
    (case k__law_fields => k_is)
    (case l_law => k_is)
    (case c_law => k_is)
    (case k_law => k_is)
    (case z_KeyError => k_is)
    (case z_LookupError => k_is)
    (case z_OverflowError => k_is)
    (case z_RuntimeError => k_is)
    (case z_ValueError => k_is)
    (case z_abs => k_is)
    (case z_enumerate => k_is)
    (case z_int => k_is)
    (case z_isinstance => k_is)
    (case z_len => k_is)
    (case z_max => k_is)
    (case z_min => k_is)
    (case z_range => k_is)
    (case z_repr => k_is)
    (case exs => kernel_rfl)
    (case sps => kernel_rfl)
