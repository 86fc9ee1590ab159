package tutor

// mix is Mix.
func mix(x uint32) uint32 {
	x ^= x >> 16
	x *= 0x85ebca6b
	x ^= x >> 13
	x *= 0xc2b2ae35
	x ^= x >> 16
	return x
}

// row is the order of the samples in an epoch.
func row(seed uint32, samples int, epoch int) []int {
	order := make([]int, samples)
	for i := range order {
		order[i] = i
	}
	key := mix(seed + uint32(epoch))
	for i := samples - 1; i >= 1; i-- {
		j := mix(key+uint32(i)) % uint32(i+1)
		order[i], order[j] = order[j], order[i]
	}
	return order
}
