// Package layout says how digits and an exponent are laid out as a text, for every layer that writes decimal numbers.
package layout

import "strconv"

// Text is the first digit, a point and the others, if there are any, e, and the exponent of the first digit's place. It is for at least one digit; of none it is nothing.
func Text(digits string, place int) string {
	if digits == "" {
		return ""
	}
	text := digits[:1]
	if len(digits) > 1 {
		text += "." + digits[1:]
	}
	return text + "e" + strconv.Itoa(place)
}
