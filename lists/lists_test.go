package lists

import "testing"

// TestPairs: an iterator that went on after it was left would panic; and it
// begins anew when it is gone over again.
func TestPairs(t *testing.T) {
	numbers, letters := []int{1, 2, 3}, "xyz"
	for lengths := range 16 {
		first, second := numbers[:lengths%4], []byte(letters)[:lengths/4]
		both := min(len(first), len(second))
		for stop := range both + 1 {
			seen := 0
			for a, b := range Pairs(first, second) {
				if seen == stop {
					break
				}
				if a != numbers[seen] || b != letters[seen] {
					t.Errorf("pair %d is %d, %c", seen, a, b)
				}
				seen++
			}
			if seen != stop {
				t.Errorf("left after %d of %d: %d", stop, both, seen)
			}
		}
		count := 0
		for range Pairs(first, second) {
			count++
		}
		if count != both {
			t.Errorf("%d pairs of %d and %d", count, len(first), len(second))
		}
	}
}
