package node

import "keelson/api"

// Has tells whether there is a node of a key.
func Has(l api.Live, key int) bool {
	return isKey(key) && l[key/8]&weight(key) != 0
}

// With gives which nodes there are when some more are.
func With(l api.Live, keys ...int) api.Live {
	for _, key := range keys {
		if isKey(key) {
			l[key/8] |= weight(key)
		}
	}
	return l
}

// Without gives which nodes there are when some are gone.
func Without(l api.Live, keys ...int) api.Live {
	for _, key := range keys {
		if isKey(key) {
			l[key/8] &^= weight(key)
		}
	}
	return l
}

// Keys gives the keys of nodes.
func Keys(l api.Live) []int {
	var keys []int
	for key := range api.Keys {
		if Has(l, key) {
			keys = append(keys, key)
		}
	}
	return keys
}

// isKey tells whether a node can have the key.
func isKey(key int) bool {
	return key >= 0 && key < api.Keys
}

// weight gives the bit of a key, in the byte that has it.
func weight(key int) byte {
	return 1 << (key % 8)
}
