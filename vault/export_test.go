package vault

// Steps is what Settle of an image does to the disk, so that the power can be let go within it.
func (v *Vault) Steps(image string) []func() { return v.steps(imageRecord(v.epoch+1, image)) }
