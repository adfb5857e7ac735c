package frame

// polynomial of CRC-32C, of the reversed kind.
const polynomial = 0x82F63B78

func sum(s string) uint32 {
	n := ^uint32(0)
	for i := range len(s) {
		n ^= uint32(s[i])
		for range 8 {
			odd := n&1 == 1
			n >>= 1
			if odd {
				n ^= polynomial
			}
		}
	}
	return ^n
}
