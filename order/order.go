// Package order asks how the elements of a list follow each other.
package order

// Increasing reports whether each element of a list is greater than the one before it.
func Increasing[T any](list []T, compare func(a, b T) int) bool {
	for i := 1; i < len(list); i++ {
		if compare(list[i-1], list[i]) >= 0 {
			return false
		}
	}
	return true
}
