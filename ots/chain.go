package ots

import (
	"annalist/api"
	"annalist/sha"
	"annalist/wire"
)

// A digit has digitBits bits, and steps is the greatest one: so a chain's last value is what any digit's value leads to.
const (
	digitBits = 4
	steps     = 1<<digitBits - 1
)

// A message's first digits are its hash's, two of each byte. The others tell how far these are from the greatest ones:
// whoever goes a chain further, as anybody can, would have to go another one back.
const messageDigits = 2 * api.HashSize

// Digits answers the digits of the message for the key q: how many steps on each chain's value is in the signature.
func Digits(t sha.Table, q int, message string) [api.Chains]int {
	var digits [api.Chains]int
	hash := sha.Sum(t, "m"+wire.Number(q)+wire.Text(message))
	rest := 0
	for i := range messageDigits {
		digits[i] = digitOf(int(hash[i/2]), 1-i%2)
		rest += steps - digits[i]
	}
	for i := messageDigits; i < api.Chains; i++ {
		digits[i] = digitOf(rest, api.Chains-1-i)
	}
	return digits
}

// digitOf answers the digit of n that has as many others behind it.
func digitOf(n, behind int) int {
	return n >> (digitBits * behind) & steps
}

// first answers the first value of the chain i of the key q.
func first(t sha.Table, seed string, q, i int) api.Hash {
	return sha.Sum(t, "k"+wire.Text(seed)+wire.Number(q)+wire.Number(i))
}

// walk answers the value of the chain i of the key q that is to steps on, of the value that is from steps on.
func walk(t sha.Table, q, i int, value api.Hash, from, to int) api.Hash {
	for j := from; j < to; j++ {
		value = sha.Sum(t, "c"+wire.Number(q)+wire.Number(i)+wire.Number(j)+value)
	}
	return value
}
