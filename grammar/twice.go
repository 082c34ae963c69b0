package grammar

// Twice tells the place of the first letter of a class or field that has stood
// where it may stand but once, or Nowhere.
func Twice(list []Class) int {
	for i, c := range list {
		if hasClass(list[:i], c.Name.Letter) {
			return c.Name.Place
		}
		for j, f := range c.Fields {
			if hasField(c.Fields[:j], f.Name.Letter) {
				return f.Name.Place
			}
		}
	}
	return Nowhere
}

func hasClass(list []Class, letter byte) bool {
	for _, c := range list {
		if c.Name.Letter == letter {
			return true
		}
	}
	return false
}

func hasField(list []Field, letter byte) bool {
	for _, f := range list {
		if f.Name.Letter == letter {
			return true
		}
	}
	return false
}
