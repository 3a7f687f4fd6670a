// Package list asks the elements of lists of whatever type.
package list

// All is true of an empty list, whatever is asked.
func All[T any](l []T, holds func(T) bool) bool {
	for _, x := range l {
		if !holds(x) {
			return false
		}
	}
	return true
}

// Any is false of an empty list, whatever is asked.
func Any[T any](l []T, holds func(T) bool) bool {
	for _, x := range l {
		if holds(x) {
			return true
		}
	}
	return false
}

// EmptyOrAny is for lists that narrow only if something stands in them.
func EmptyOrAny[T any](l []T, holds func(T) bool) bool {
	return len(l) == 0 || Any(l, holds)
}

// FewAll asks the length first: of a list that is too long nothing more need be known.
func FewAll[T any](l []T, most int, holds func(T) bool) bool {
	return len(l) <= most && All(l, holds)
}

// Map gives a list of its own, as Keep does.
func Map[A, B any](l []A, of func(A) B) []B {
	var made []B
	for _, x := range l {
		made = append(made, of(x))
	}
	return made
}

// Keep gives a list of its own, so that the one handed in is never written into.
func Keep[T any](l []T, holds func(T) bool) []T {
	var kept []T
	for _, x := range l {
		if holds(x) {
			kept = append(kept, x)
		}
	}
	return kept
}
