package enc

import "math/bits"

// firstPlace is where the first global stands.
const firstPlace = 0x1000000

// place is where a global stands: a number of 128 bits, for in an image that Encode has not made sizes may be any, below 0 too.
type place struct{ upper, lower uint64 }

// placesOf tells where globals of such sizes stand.
func placesOf(sizes []int) []place {
	places := make([]place, len(sizes))
	next := place{lower: firstPlace}
	for n, size := range sizes {
		places[n] = next
		next = next.plus(int64(size)).plus(16 + 15)
		next.lower &^= 15
	}
	return places
}

func (p place) plus(n int64) place {
	lower, carry := bits.Add64(p.lower, uint64(n), 0)
	upper, _ := bits.Add64(p.upper, uint64(n>>63), carry)
	return place{upper, lower}
}

// low is it, where it is known to be small.
func (p place) low() int { return int(p.lower) }

// to tells how far behind it a number is.
func (p place) to(n int64) place {
	lower, borrow := bits.Sub64(uint64(n), p.lower, 0)
	upper, _ := bits.Sub64(uint64(n>>63), p.upper, borrow)
	return place{upper, lower}
}

// isNegative tells whether it is below 0.
func (p place) isNegative() bool { return p.upper>>63 == 1 }

// within tells whether it is from 0 to the most.
func (p place) within(most int64) bool {
	return p.upper == 0 && most >= 0 && p.lower <= uint64(most)
}
