package least

// numberOf is a key's number: keys are numbered from 0 on as they are met.
func numberOf[T comparable](met map[[2]T]int, key [2]T) int {
	n, there := met[key]
	if !there {
		n = len(met)
		met[key] = n
	}
	return n
}
